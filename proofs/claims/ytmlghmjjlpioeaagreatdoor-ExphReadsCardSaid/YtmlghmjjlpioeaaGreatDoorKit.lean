/-
  General lemmas, over any program: bytes in a slice of the call's own, appends of one element, conversion to a string.
-/
import Derived.Test.YtmlghmjjlpioeaaGreatDoorRows
import Derived.WalkKit
import Derived.WalkSpells
import Derived.WalkLawsBesides
import Derived.Lib.Hide
namespace Go.Proofs.YtmlghmjjlpioeaaGreatDoor
open Go.RowKit
open Lib (hid)
def bys (l:List UInt8):List Value:=l.map fun b => .int .u8 b.toNat
theorem z7x (l:List UInt8)(b:UInt8):bys (l++[b])=bys l++[.int .u8 b.toNat]:=by simp[bys]
theorem zes (l:List UInt8)(b:UInt8){x:Int}(h:x=(b.toNat:Int)):bys l++[.int .u8 x]=bys (l++[b]):=by rw[h,z7x]
@[simp] theorem bys_length (l:List UInt8):(bys l).length=l.length:=by simp[bys]
theorem zl {k:IntKind}{a b:Int}(h:a=b):Ending.returned (.int k a)=.returned (.int k b):=by rw[h]
theorem Ql {a b:Bool}(h:a=b):Ending.returned (.bool a)=.returned (.bool b):=by rw[h]
theorem ret_str {a b:ByteArray}(h:a=b):Ending.returned (.string a)=.returned (.string b):=by rw[h]
theorem z4u (a b:List UInt8):(ByteArray.mk a.toArray)++(ByteArray.mk b.toArray)=ByteArray.mk (a++b).toArray:=by
 apply ByteArray.ext;simp
theorem ba_size (l:List UInt8):(ByteArray.mk l.toArray).size=l.length:=by simp[ByteArray.size]
def Elem (P:Program)(t e:TypeId)(z:Value)(size bytes:Nat):Prop :=
 P.underlying t=some (.slice e)/\(P.info? e).map (fun i=>(i.zero,i.size,i.bytes))=some (some z,size,bytes)/\z.cells.size=size
section
variable {P:Program} {w:World}
theorem z68 {base n:Nat} {src dst e:TypeId} {v:Value} {l:List UInt8} (hs:P.underlying src=some (.slice e)) (he:P.underlying e=some (.int .u8)) (hd:P.underlying dst=some .string)
  (hown:w.ownsRow base e 1 v n (bys l)):(convert src dst v).run P w=.ok (.string ⟨l.toArray⟩) w:=by
 obtain⟨hlen,hv⟩:=id hown;have hn:n=l.length:=by simpa [bys] using hlen.symm
 subst hn
 rcases hv with ⟨rfl,h0⟩|⟨g,cap,cur,rfl,hrest⟩
 ·have hl:l=[]:=List.length_eq_zero_iff.1 h0
  subst hl;rw[run_convert_bytes_string w src dst e none 0 0 hs he hd];rfl
 ·refine run_convert_bytes_back w src dst e ⟨g,0,none⟩ cap l hs he hd fun j hj=>?_
  have hadd:(⟨g,0,none⟩:Addr).add j=⟨g,j,none⟩:=by unfold Addr.add;split<;>simp_all
  rw[hadd,hown.cellAt j (by simpa using hj)]
  simp[bys,List.getElem?_eq_getElem hj]
theorem Q6 {w':World}{o:Obj}{row:Option Nat}(h:(w.alloc o).grownBy w' row):w.grownBy w' row :=
 ⟨h.os,h.tape,h.output,Nat.le_trans (by simp) h.size,fun k hk hne=>(h.block k (by simp;omega) hne).trans (Below.heap_alloc w o k hk)⟩
theorem kc {ops:Array Oper} {rest:List Oper} {o:Oper} {a:Act} {Q:Exit->Act->World->Prop} (hgd:o.guard=none) (s x:Operand) (t:TypeId)
  (ho:o.op=.call { callee := .builtin .append,args:=#[s,x],argTypes:=#[t,t] })
  {base:Nat} {e:TypeId} {z:Value} {size bytes:Nat} (he:Elem P t e z size bytes) (hsz:0<size)
  {v:Value} {n:Nat} {xs:List Value} (hown:w.ownsRow base e size v n xs) (hs:a.eval s=v)
  {cs:List Value} {c:Nat} (hx:a.eval x=.slice (some ⟨w.heap.size,0,none⟩) 1 c) (hcs:cs.length=size) (h1:∀u∈cs,u.oneCell'=true)
  (h63:n+1<=maxLen) (hbytes:(n+1)*bytes<=140737488355328) (hbase:base<=w.heap.size)
  (h:∀v' w',w'.ownsRow base e size v' (n+1) (xs++cs)->w.grownBy w' v.ownBlock->wpList P ops Q rest (a.put o.dst v') w'):wpList P ops Q (o::rest) a (w.alloc (.cells cs.toArray e)):=by
 obtain⟨ht,hi0,hzs⟩:=he;obtain⟨i,hi,hz,hsize,hby⟩:=info_parts hi0;refine wpList_append_own (w.alloc (.cells cs.toArray e)) hgd s x t ho base e i z size bytes ht hi hz hsize hby hzs hsz v n xs hs (hown.alloc _) ⟨w.heap.size,0,none⟩ 1 c cs hx (by simp[hcs]) ?_ h1 h63 hbytes (by simp;omega) fun v' w' h2 h3 _=>h v' w' h2 (Q6 h3)
 intro j u hj;have hadd:(⟨w.heap.size,0,none⟩:Addr).add j=⟨w.heap.size,j,none⟩:=by unfold Addr.add;split<;>simp_all
 rw[hadd,World.cell?_alloc_at _ _ _ _ rfl]
 simpa using hj
end
open Go.RowKit
theorem z79 (n:Int):IntKind.i64.wrap n=if n%18446744073709551616<9223372036854775808 then n%18446744073709551616 else n%18446744073709551616-18446744073709551616:=by
 simp[IntKind.wrap,IntKind.bits,IntKind.signed]
 split<;>omega
theorem Zd (n:Int):IntKind.i32.wrap n=if n%4294967296<2147483648 then n%4294967296 else n%4294967296-4294967296:=by
 simp[IntKind.wrap,IntKind.bits,IntKind.signed]
 split<;>omega
theorem z2t (x:BitVec 32):(x ^^^ BitVec.ofInt 32 (-1)).toNat=4294967295-x.toNat:=by
 have e:BitVec.ofInt 32 (-1)=BitVec.allOnes 32:=by decide
 rw[e,BitVec.xor_allOnes,BitVec.toNat_not]
theorem Z1 (a:Int):((BitVec.ofInt 32 a).toNat:Int)=a%4294967296:=by
 rw[BitVec.toNat_ofInt];omega
theorem z62 (a:Int):bits .xor .u32 a 0=a%4294967296:=by
 show IntKind.u32.wrap ((BitVec.ofInt 32 a ^^^ BitVec.ofInt 32 0).toNat:Int)=_
 rw[show BitVec.ofInt 32 0=0#32 from by decide,BitVec.xor_zero,Z1,IntKind.wrap_u32'];omega
theorem z64 (a:Int):bits .xor .u32 a 4294967295=4294967295-a%4294967296:=by
 show IntKind.u32.wrap ((BitVec.ofInt 32 a ^^^ BitVec.ofInt 32 4294967295).toNat:Int)=_
 rw[show BitVec.ofInt 32 4294967295=BitVec.ofInt 32 (-1)from by decide,z2t,IntKind.wrap_u32'];have:=Z1 a;omega
theorem z7w (a:Int):bits .xor .i32 a 0=IntKind.i32.wrap a:=by
 show IntKind.i32.wrap ((BitVec.ofInt 32 a ^^^ BitVec.ofInt 32 0).toNat:Int)=_
 rw[show BitVec.ofInt 32 0=0#32 from by decide,BitVec.xor_zero,Z1,Zd,Zd]
 simp
theorem z7t (a:Int):bits .xor .i32 a (-1)=IntKind.i32.wrap (-1-a):=by
 show IntKind.i32.wrap ((BitVec.ofInt 32 a ^^^ BitVec.ofInt 32 (-1)).toNat:Int)=_
 rw[z2t,Zd,Zd];have:=Z1 a;have e:((4294967295-(BitVec.ofInt 32 a).toNat:Nat):Int)%4294967296=(-1-a)%4294967296:=by omega
 rw[e]
theorem z87 (n:Nat):bits .and .u32 (n:Int) 1=((n%2:Nat):Int):=by
 show IntKind.u32.wrap ((BitVec.ofInt 32 (n:Int) &&& BitVec.ofInt 32 1).toNat:Int)=_
 rw[BitVec.toNat_and,show(BitVec.ofInt 32 1).toNat=1 from by decide,Nat.and_one_is_mod,IntKind.wrap_u32'];have:=Z1 n;omega
theorem Qx {n:Int}(h1:-2147483648<=n)(h2:n<=2147483647):wrap32 n=n:=by simp only[wrap32];omega
theorem J1 {n:Int}(h1:-9223372036854775808<=n)(h2:n<=9223372036854775807):IntKind.i64.wrap n=n:=by rw[z79];split<;>omega
theorem z1i {n:Int}(h1:-2147483648<=n)(h2:n<=2147483647):IntKind.i32.wrap n=n:=by rw[Zd];split<;>omega
theorem Z4 {n:Int}(h1:0<=n)(h2:n<=18446744073709551615):IntKind.u64.wrap n=n:=by rw[IntKind.wrap_u64];omega
def zig (n:Int):Int:=if n<0 then -2*n-1 else 2*n
def zag (n:Nat):Int:=if n%2=1 then -(n/2:Nat)-1 else(n/2:Nat)
def yz:Nat->Nat->List UInt8
 | 0,n=>[UInt8.ofNat n]
 | f+1,n=>if n<128 then [UInt8.ofNat n]else UInt8.ofNat (n%128+128)::yz f (n/128)
def vput (n:Nat):List UInt8:=yz 9 n
def J7 (n m f:Nat)(acc:List UInt8):Prop:=acc.length+f=9/\acc++yz f m=vput n/\m<2*128^f
theorem Qs {n:Nat}(h:n<2^64):J7 n n 9 []:=⟨rfl,rfl,by omega⟩
theorem zfs {n m f:Nat}{acc:List UInt8}(h:J7 n m f acc)(hc:128<=m):∃g,f=g+1/\J7 n (m/128) g (acc++[UInt8.ofNat (m%128+128)]):=by
 obtain⟨h1,h2,h3⟩:=h
 match f,h3 with
 | 0,h3=>omega
 | g+1,h3 =>
  refine⟨g,rfl,by simp;omega,?_,by rw[Nat.pow_succ]at h3;omega⟩;rw[<-h2]
  simp[yz,show ¬m<128 by omega]
theorem put_end {n m f:Nat}{acc:List UInt8}(h:J7 n m f acc)(hc:m<128):acc++[UInt8.ofNat m]=vput n/\acc.length<=9:=by
 obtain⟨h1,h2,h3⟩:=h
 match f with
 | 0=>exact⟨by simpa [yz] using h2,by omega⟩
 | g+1=>exact⟨by simpa [yz,hc] using h2,by omega⟩
theorem byte_or (m:Nat):bits .or .u8 ((m:Int)%256) 128=((UInt8.ofNat (m%128+128)).toNat:Int):=by
 have h:=u8_or_nat (m%256) 128 (by omega) (by omega);have e:((m:Int)%256)=((m%256:Nat):Int):=by omega
 rw[e,show(128:Int)=((128:Nat):Int)from rfl,h]
 have:m%256 ||| 128=m%128+128:=by
  have h2:m%256=m%128+(m/128%2)*128:=by omega
  rcases(by omega:m/128%2=0∨m/128%2=1)with h0|h0
  ·rw[h2,h0,Nat.or_comm,nat_join 7 128 (m%128+0*128) (by decide) (by omega)];omega
  ·rw[h2,h0,Nat.or_comm,show m%128+1*128=128 ||| m%128 from by rw[nat_join 7 128 (m%128) (by decide) (by omega)];omega]
   rw[<-Nat.or_assoc,Nat.or_self,nat_join 7 128 (m%128) (by decide) (by omega)]
 rw[this];have:(UInt8.ofNat (m%128+128)).toNat=m%128+128:=by simp;omega
 rw[this]
def yg:Nat->Nat->Nat->List UInt8->Except Nat (Nat × Nat)
 | 0,_,_,_ => .error 4
 | _+1,_,_,[] => .error 1
 | f+1,k,m,c::r=>if f=0/\1<c.toNat then .error 4 else if c.toNat<128 then .ok (m+c.toNat*128^k,k+1)else yg f (k+1) (m+(c.toNat-128)*128^k) r
def vget (l:List UInt8)(p:Int):Except Nat (Nat × Nat) :=
 if p<0∨l.length<p then .error 9 else match yg 10 0 0 (l.drop p.toNat)with
  | .ok (n,j) => .ok (n,p.toNat+j)
  | .error c => .error c
def Z2 (l:List UInt8)(p k m:Nat):Prop:=yg (10-k) k m (l.drop (p+k))=yg 10 0 0 (l.drop p)/\m<128^k/\k<=10/\p+k<=l.length
theorem z4m (l:List UInt8)(p:Nat)(h:p<=l.length):Z2 l p 0 0:=⟨rfl,by decide,by omega,by omega⟩
theorem Jk {l:List UInt8}{p:Nat}(h:p<=l.length):vget l p=match yg 10 0 0 (l.drop p)with
  | .ok (n,j) => .ok (n,p+j)
  | .error c => .error c:=by
 unfold vget;rw[if_neg (by omega)];rfl
theorem z9z {l:List UInt8}{p:Int}(h:p<0∨l.length<p):vget l p=.error 9:=by unfold vget;rw[if_pos h]
theorem z8v {l:List UInt8}{p m:Nat}(h:Z2 l p 10 m)(hp:p<=l.length):vget l p=.error 4:=by
 rw[Jk hp,<-h.1];rfl
theorem z4j {l:List UInt8}{p k m:Nat}(h:Z2 l p k m)(h10:k<10)(hk:k=l.length-p)(hp:p<=l.length):vget l p=.error 1:=by
 rw[Jk hp,<-h.1,show 10-k=(9-k)+1 by omega,List.drop_eq_nil_of_le (by omega)];rfl
theorem z27 {l:List UInt8}{p k m:Nat}{c:UInt8}(h:Z2 l p k m)(h10:k<10)(hc:l[p+k]?=some c) :
  yg 10 0 0 (l.drop p)=if 9-k=0/\1<c.toNat then .error 4 else if c.toNat<128 then .ok (m+c.toNat*128^k,k+1)else yg (9-k) (k+1) (m+(c.toNat-128)*128^k) (l.drop (p+(k+1))):=by
 obtain⟨hlt,he⟩:=List.getElem?_eq_some_iff.1 hc;rw[<-h.1,show 10-k=(9-k)+1 by omega,List.drop_eq_getElem_cons hlt,he];rfl
theorem z9p {l:List UInt8}{p k m:Nat}{c:UInt8}(h:Z2 l p k m)(hk:k=9)(hp:p<=l.length)(hc:l[p+k]?=some c)(h1:1<c.toNat):vget l p=.error 4:=by
 rw[Jk hp,z27 h (by omega) hc,if_pos ⟨by omega,h1⟩]
theorem Jp {l:List UInt8}{p k m:Nat}{c:UInt8}(h:Z2 l p k m)(h10:k<10)(hp:p<=l.length)(hc:l[p+k]?=some c)(h1:k=9->c.toNat<=1)(h2:c.toNat<128):vget l p=.ok (m+c.toNat*128^k,p+k+1):=by
 rw[Jk hp,z27 h (by omega) hc,if_neg (by intro hh;have:=h1 (by omega);omega),if_pos h2]
 simp[Nat.add_assoc]
theorem z7r {l:List UInt8}{p k m:Nat}{c:UInt8}(h:Z2 l p k m)(h10:k<10)(hc:l[p+k]?=some c)(h1:k=9->c.toNat<=1)(h2:128<=c.toNat):k<9/\Z2 l p (k+1) (m+(c.toNat-128)*128^k):=by
 have h9:k<9:=by
  rcases Nat.lt_or_ge k 9 with hh|hh
  ·exact hh
  ·have:=h1 (by omega);omega
 obtain⟨hlt,_⟩:=List.getElem?_eq_some_iff.1 hc;refine⟨h9,?_,?_,by omega,by omega⟩
 ·have:=z27 h h10 hc
  rw[if_neg (by omega),if_neg (by omega)]at this;rw[this,show 10-(k+1)=9-k by omega]
 ·have hm:=h.2.1
  have hc:=c.toNat_lt;have:(c.toNat-128)*128^k<=127*128^k:=Nat.mul_le_mul_right _ (by omega);rw[Nat.pow_succ];omega
theorem z77 (k:Nat):128^k=2^(7*k):=by rw[show 128=2^7 from rfl,Nat.pow_mul]
theorem and127 (c:UInt8):bits .and .u8 (c.toNat:Int) 127=((c.toNat%128:Nat):Int):=by
 rw[show(127:Int)=((127:Nat):Int)from rfl,u8_and_nat _ 127 c.toNat_lt (by omega),nat_mask7]
theorem z0k (m k:Nat)(c:UInt8)(hm:m<128^k)(hk:k<10)(h9:k=9->c.toNat<=1) :
  bits .or .u64 (m:Int) (IntKind.u64.wrap (IntKind.u64.wrap (bits .and .u8 (c.toNat:Int) 127)*2^(7*k)))=((m+c.toNat%128*128^k:Nat):Int):=by
 have hp:(128:Nat)^k<=128^9:=Nat.pow_le_pow_right (by omega) (by omega)
 have hle:c.toNat%128*128^k<18446744073709551616:=by
  rcases Nat.lt_or_ge k 9 with hh|hh
  ·have h8:(128:Nat)^k<=128^8:=Nat.pow_le_pow_right (by omega) (by omega)
   have:c.toNat%128*128^k<=127*128^8:=Nat.mul_le_mul (by omega) h8;omega
  ·have:=h9 (by omega)
   have:c.toNat%128*128^k<=1*128^9:=Nat.mul_le_mul (by omega) hp;omega
 have hm':m<18446744073709551616:=by omega
 rw[and127,IntKind.wrap_u64,IntKind.wrap_u64];have e1:(((c.toNat%128:Nat):Int)%18446744073709551616)=((c.toNat%128:Nat):Int):=by omega
 have e2:(((c.toNat%128:Nat):Int)*2^(7*k))=((c.toNat%128*128^k:Nat):Int):=by rw[z77];simp
 rw[e1,e2,Int.emod_eq_of_lt (by omega) (by omega),u64_or_nat m _ hm' hle,Nat.or_comm];rw[nat_join (7*k) _ m (by rw[z77];simp) (by rw[<-z77];exact hm),Nat.add_comm]
theorem z8z (m:Nat)(c:UInt8)(hm:m<128^9)(h9:c.toNat<=1) :
  bits .or .u64 (m:Int) (IntKind.u64.wrap (IntKind.u64.wrap (bits .and .u8 (c.toNat:Int) 127)*9223372036854775808))=((m+c.toNat%128*128^9:Nat):Int) :=
 z0k m 9 c hm (by omega) (fun _=>h9)
theorem z9o (s:ByteArray)(i:Nat)(h:i<s.size):s.data.toList[i]?=some (s[i]'h):=by
 rw[List.getElem?_eq_getElem (by simpa using h)];rfl
theorem X5 {n:Nat}(h:n<256):(UInt8.ofNat n).toNat=n:=by simp;omega
theorem z07:∀(f k m n:Nat) (post:List UInt8),f+k=9->n<2*128^f->yg (f+1) k m (yz f n++post)=.ok (m+n*128^k,k+(yz f n).length)
 | 0,k,m,n,post,hk,hn=>by
  have hn:n<2:=by simpa using hn
  simp only[yz,List.cons_append,List.nil_append,yg,List.length_cons,List.length_nil]
  rw[X5 (by omega),if_neg (by omega),if_pos (by omega)]
 | f+1,k,m,n,post,hk,hn=>by
  rw[yz]
  by_cases h:n<128
  ·rw[if_pos h]
   simp only[List.cons_append,List.nil_append,yg,List.length_cons,List.length_nil]
   rw[X5 (by omega),if_neg (by omega),if_pos h]
  ·rw[if_neg h]
   simp only[List.cons_append,List.length_cons]
   rw[yg,X5 (by omega),if_neg (by omega),if_neg (by omega),z07 f (k+1) _ (n/128) post (by omega) (by rw[Nat.pow_succ]at hn;omega)];have e:n%128+128-128=n%128:=by omega
   rw[e,Nat.pow_succ]
   generalize 128^k=P
   have h3:n%128*P+n/128*(P*128)=n*P:=by
    have e1:n/128*(P*128)=(n/128*128)*P:=by rw[Nat.mul_comm P,Nat.mul_assoc]
    have e0:n%128+n/128*128=n:=by omega
    rw[e1,<-Nat.add_mul,e0]
   generalize yz f (n/128)=L
   have e2:m+n%128*P+n/128*(P*128)=m+n*P:=by omega
   have e3:k+1+L.length=k+(L.length+1):=by omega
   rw[e2,e3]
theorem z0x:∀(f n:Nat),1<=(yz f n).length/\(yz f n).length<=f+1
 | 0,n=>by simp[yz]
 | f+1,n=>by
  rw[yz]
  split
  ·simp
  ·have:=z0x f (n/128)
   simp;omega
theorem zu (n:Nat):1<=(vput n).length/\(vput n).length<=10:=z0x 9 n
def qu (l:List Nat):List UInt8:=l.flatMap vput
theorem ibf {a b:Int}(h:a≠b):(a == b)=false:=by rw[beq_eq_false_iff_ne];exact h
theorem nmd {α:Sort _}(e:α):∃x,e=x:=⟨_,rfl⟩
end Go.Proofs.YtmlghmjjlpioeaaGreatDoor
