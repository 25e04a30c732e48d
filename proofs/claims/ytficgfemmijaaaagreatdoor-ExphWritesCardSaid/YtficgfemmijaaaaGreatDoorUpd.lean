/-
  Kit, Upd
-/
import Derived.Test.YtficgfemmijaaaaGreatDoorRows
import Derived.WalkKit
import Derived.WalkSpells
import Derived.WalkLawsBesides
import Derived.Lib.Hide
import Derived.Maps.AppendAt
import Derived.Laws.Rows
namespace Go.Proofs.YtficgfemmijaaaaGreatDoor
open Go.RowKit
open Lib (hid)
def bys (l:List UInt8):List Value:=l.map fun b => .int .u8 b.toNat
theorem bys_snoc (l:List UInt8)(b:UInt8):bys (l++[b])=bys l++[.int .u8 b.toNat]:=by simp[bys]
theorem bys_push (l:List UInt8)(b:UInt8){x:Int}(h:x=(b.toNat:Int)):bys l++[.int .u8 x]=bys (l++[b]):=by rw[h,bys_snoc]
@[simp] theorem bys_length (l:List UInt8):(bys l).length=l.length:=by simp[bys]
theorem ret_int {k:IntKind}{a b:Int}(h:a=b):Ending.returned (.int k a) = .returned (.int k b):=by rw[h]
theorem ret_bool {a b:Bool}(h:a=b):Ending.returned (.bool a) = .returned (.bool b):=by rw[h]
theorem ret_str {a b:ByteArray}(h:a=b):Ending.returned (.string a) = .returned (.string b):=by rw[h]
theorem ba_append (a b:List UInt8):(ByteArray.mk a.toArray)++(ByteArray.mk b.toArray)=ByteArray.mk (a++b).toArray:=by
 apply ByteArray.ext;simp
theorem ba_size (l:List UInt8):(ByteArray.mk l.toArray).size=l.length:=by simp[ByteArray.size]
def Elem (P:Program)(t e:TypeId)(z:Value)(size bytes:Nat):Prop :=
 P.underlying t=some (.slice e)∧(P.info? e).map (fun i=>(i.zero,i.size,i.bytes))=some (some z,size,bytes)∧z.cells.size=size
section
variable {P:Program} {w:World}
theorem run_conv_own {base n:Nat} {src dst e:TypeId} {v:Value} {l:List UInt8} (hs:P.underlying src=some (.slice e)) (he:P.underlying e=some (.int .u8)) (hd:P.underlying dst=some .string)
  (hown:w.ownsRow base e 1 v n (bys l)):(convert src dst v).run P w = .ok (.string ⟨l.toArray⟩) w:=by
 obtain ⟨hlen,hv⟩:=id hown;have hn:n=l.length:=by simpa [bys] using hlen.symm
 subst hn
 rcases hv with ⟨rfl,h0⟩|⟨g,cap,cur,rfl,hrest⟩
 ·have hl:l=[]:=List.length_eq_zero_iff.1 h0
  subst hl;rw[run_convert_bytes_string w src dst e none 0 0 hs he hd];rfl
 ·refine run_convert_bytes_back w src dst e ⟨g,0,none⟩ cap l hs he hd fun j hj=>?_
  have hadd:(⟨g,0,none⟩:Addr).add j=⟨g,j,none⟩:=by unfold Addr.add;split<;>simp_all
  rw[hadd,hown.cellAt j (by simpa using hj)]
  simp[bys,List.getElem?_eq_getElem hj]
theorem grownBy_of_alloc {w':World}{o:Obj}{row:Option Nat}(h:(w.alloc o).grownBy w' row):w.grownBy w' row :=
 ⟨h.os,h.tape,h.output,Nat.le_trans (by simp) h.size,fun k hk hne=>(h.block k (by simp;omega) hne).trans (Below.heap_alloc w o k hk)⟩
theorem wpList_app1 {ops:Array Oper} {rest:List Oper} {o:Oper} {a:Act} {Q:Exit→Act→World→Prop} (hgd:o.guard=none) (s x:Operand) (t:TypeId)
  (ho:o.op = .call { callee := .builtin .append,args:=#[s,x],argTypes:=#[t,t] })
  {base:Nat} {e:TypeId} {z:Value} {size bytes:Nat} (he:Elem P t e z size bytes) (hsz:0<size)
  {v:Value} {n:Nat} {xs:List Value} (hown:w.ownsRow base e size v n xs) (hs:a.eval s=v)
  {cs:List Value} {c:Nat} (hx:a.eval x = .slice (some ⟨w.heap.size,0,none⟩) 1 c) (hcs:cs.length=size) (h1:∀ u∈cs,u.oneCell'=true)
  (h63:n+1≤maxLen) (hbytes:(n+1) * bytes≤140737488355328) (hbase:base≤w.heap.size)
  (h:∀ v' w',w'.ownsRow base e size v' (n+1) (xs++cs)→w.grownBy w' v.ownBlock→wpList P ops Q rest (a.put o.dst v') w'):wpList P ops Q (o::rest) a (w.alloc (.cells cs.toArray e)):=by
 obtain ⟨ht,hi0,hzs⟩:=he;obtain ⟨i,hi,hz,hsize,hby⟩:=info_parts hi0;refine wpList_append_own (w.alloc (.cells cs.toArray e)) hgd s x t ho base e i z size bytes ht hi hz hsize hby hzs hsz v n xs hs (hown.alloc _) ⟨w.heap.size,0,none⟩ 1 c cs hx (by simp[hcs]) ?_ h1 h63 hbytes (by simp;omega) fun v' w' h2 h3 _=>h v' w' h2 (grownBy_of_alloc h3)
 intro j u hj;have hadd:(⟨w.heap.size,0,none⟩:Addr).add j=⟨w.heap.size,j,none⟩:=by unfold Addr.add;split<;>simp_all
 rw[hadd,World.cell?_alloc_at _ _ _ _ rfl]
 simpa using hj
end
open Go.RowKit
theorem wrap_i64_def (n:Int):IntKind.i64.wrap n=if n % 18446744073709551616<9223372036854775808 then n % 18446744073709551616 else n % 18446744073709551616 - 18446744073709551616:=by
 simp[IntKind.wrap,IntKind.bits,IntKind.signed]
 split<;>omega
theorem wrap_i32_def (n:Int):IntKind.i32.wrap n=if n % 4294967296<2147483648 then n % 4294967296 else n % 4294967296 - 4294967296:=by
 simp[IntKind.wrap,IntKind.bits,IntKind.signed]
 split<;>omega
theorem xor_ones32 (x:BitVec 32):(x ^^^ BitVec.ofInt 32 (-1)).toNat=4294967295 - x.toNat:=by
 have e:BitVec.ofInt 32 (-1)=BitVec.allOnes 32:=by decide
 rw[e,BitVec.xor_allOnes,BitVec.toNat_not]
theorem toNat_ofInt32 (a:Int):((BitVec.ofInt 32 a).toNat:Int)=a % 4294967296:=by
 rw[BitVec.toNat_ofInt];omega
theorem u32_xor_zero (a:Int):bits .xor .u32 a 0=a % 4294967296:=by
 show IntKind.u32.wrap ((BitVec.ofInt 32 a ^^^ BitVec.ofInt 32 0).toNat:Int)=_
 rw[show BitVec.ofInt 32 0=0#32 from by decide,BitVec.xor_zero,toNat_ofInt32,IntKind.wrap_u32'];omega
theorem u32_xor_ones (a:Int):bits .xor .u32 a 4294967295=4294967295 - a % 4294967296:=by
 show IntKind.u32.wrap ((BitVec.ofInt 32 a ^^^ BitVec.ofInt 32 4294967295).toNat:Int)=_
 rw[show BitVec.ofInt 32 4294967295=BitVec.ofInt 32 (-1) from by decide,xor_ones32,IntKind.wrap_u32'];have:=toNat_ofInt32 a;omega
theorem i32_xor_zero (a:Int):bits .xor .i32 a 0=IntKind.i32.wrap a:=by
 show IntKind.i32.wrap ((BitVec.ofInt 32 a ^^^ BitVec.ofInt 32 0).toNat:Int)=_
 rw[show BitVec.ofInt 32 0=0#32 from by decide,BitVec.xor_zero,toNat_ofInt32,wrap_i32_def,wrap_i32_def]
 simp
theorem i32_xor_ones (a:Int):bits .xor .i32 a (-1)=IntKind.i32.wrap (-1 - a):=by
 show IntKind.i32.wrap ((BitVec.ofInt 32 a ^^^ BitVec.ofInt 32 (-1)).toNat:Int)=_
 rw[xor_ones32,wrap_i32_def,wrap_i32_def];have:=toNat_ofInt32 a;have e:((4294967295 - (BitVec.ofInt 32 a).toNat:Nat):Int) % 4294967296=(-1 - a) % 4294967296:=by omega
 rw[e]
theorem u32_and_one (n:Nat):bits .and .u32 (n:Int) 1=((n % 2:Nat):Int):=by
 show IntKind.u32.wrap ((BitVec.ofInt 32 (n:Int) &&& BitVec.ofInt 32 1).toNat:Int)=_
 rw[BitVec.toNat_and,show (BitVec.ofInt 32 1).toNat=1 from by decide,Nat.and_one_is_mod,IntKind.wrap_u32'];have:=toNat_ofInt32 n;omega
theorem wrap32_id {n:Int}(h1:-2147483648≤n)(h2:n≤2147483647):wrap32 n=n:=by simp only[wrap32];omega
theorem i64_wrap_id {n:Int}(h1:-9223372036854775808≤n)(h2:n≤9223372036854775807):IntKind.i64.wrap n=n:=by rw[wrap_i64_def];split<;>omega
theorem i32_wrap_id {n:Int}(h1:-2147483648≤n)(h2:n≤2147483647):IntKind.i32.wrap n=n:=by rw[wrap_i32_def];split<;>omega
theorem u64_wrap_id {n:Int}(h1:0≤n)(h2:n≤18446744073709551615):IntKind.u64.wrap n=n:=by rw[IntKind.wrap_u64];omega
def zig (n:Int):Int:=if n<0 then -2 * n - 1 else 2 * n
def zag (n:Nat):Int:=if n % 2=1 then -(n / 2:Nat) - 1 else (n / 2:Nat)
def vputF:Nat→Nat→List UInt8
 | 0,n=>[UInt8.ofNat n]
 | f+1,n=>if n<128 then [UInt8.ofNat n] else UInt8.ofNat (n % 128+128)::vputF f (n / 128)
def vput (n:Nat):List UInt8:=vputF 9 n
def PutRel (n m f:Nat)(acc:List UInt8):Prop:=acc.length+f=9∧acc++vputF f m=vput n∧m<2 * 128^f
theorem put_start {n:Nat}(h:n<2^64):PutRel n n 9 []:=⟨rfl,rfl,by omega⟩
theorem put_step {n m f:Nat}{acc:List UInt8}(h:PutRel n m f acc)(hc:128≤m):∃ g,f=g+1∧PutRel n (m / 128) g (acc++[UInt8.ofNat (m % 128+128)]):=by
 obtain ⟨h1,h2,h3⟩:=h
 match f,h3 with
 | 0,h3=>omega
 | g+1,h3 =>
  refine ⟨g,rfl,by simp;omega,?_,by rw[Nat.pow_succ] at h3;omega⟩;rw[←h2]
  simp[vputF,show ¬m<128 by omega]
theorem put_end {n m f:Nat}{acc:List UInt8}(h:PutRel n m f acc)(hc:m<128):acc++[UInt8.ofNat m]=vput n∧acc.length≤9:=by
 obtain ⟨h1,h2,h3⟩:=h
 match f with
 | 0=>exact ⟨by simpa [vputF] using h2,by omega⟩
 | g+1=>exact ⟨by simpa [vputF,hc] using h2,by omega⟩
theorem byte_or (m:Nat):bits .or .u8 ((m:Int) % 256) 128=((UInt8.ofNat (m % 128+128)).toNat:Int):=by
 have h:=u8_or_nat (m % 256) 128 (by omega) (by omega);have e:((m:Int) % 256)=((m % 256:Nat):Int):=by omega
 rw[e,show (128:Int)=((128:Nat):Int) from rfl,h]
 have:m % 256 ||| 128=m % 128+128:=by
  have h2:m % 256=m % 128+(m / 128 % 2) * 128:=by omega
  rcases (by omega:m / 128 % 2=0∨m / 128 % 2=1) with h0|h0
  ·rw[h2,h0,Nat.or_comm,nat_join 7 128 (m % 128+0 * 128) (by decide) (by omega)];omega
  ·rw[h2,h0,Nat.or_comm,show m % 128+1 * 128=128 ||| m % 128 from by rw[nat_join 7 128 (m % 128) (by decide) (by omega)];omega]
   rw[←Nat.or_assoc,Nat.or_self,nat_join 7 128 (m % 128) (by decide) (by omega)]
 rw[this];have:(UInt8.ofNat (m % 128+128)).toNat=m % 128+128:=by simp;omega
 rw[this]
theorem byte_or64 (m:Nat)(h:m<2^64):bits .or .u64 (bits .and .u64 (m:Int) 127) 128 % 256=((UInt8.ofNat (m % 128+128)).toNat:Int):=by
 rw[show (127:Int)=((127:Nat):Int) from rfl,u64_and_nat m 127 (by omega) (by omega),nat_mask7,show (128:Int)=((128:Nat):Int) from rfl,u64_or_nat (m % 128) 128 (by omega) (by omega),Nat.or_comm,nat_join 7 128 (m % 128) (by decide) (by omega)]
 simp
 omega
def vgetGo:Nat→Nat→Nat→List UInt8→Except Nat (Nat × Nat)
 | 0,_,_,_ => .error 4
 | _+1,_,_,[] => .error 1
 | f+1,k,m,c::r=>if f=0∧1<c.toNat then .error 4 else if c.toNat<128 then .ok (m+c.toNat * 128 ^ k,k+1) else vgetGo f (k+1) (m+(c.toNat - 128) * 128 ^ k) r
def vget (l:List UInt8)(p:Int):Except Nat (Nat × Nat) :=
 if p<0∨l.length<p then .error 9 else match vgetGo 10 0 0 (l.drop p.toNat) with
  | .ok (n,j) => .ok (n,p.toNat+j)
  | .error c => .error c
def GetRel (l:List UInt8)(p k m:Nat):Prop:=vgetGo (10 - k) k m (l.drop (p+k))=vgetGo 10 0 0 (l.drop p)∧m<128 ^ k∧k≤10∧p+k≤l.length
theorem get_start (l:List UInt8)(p:Nat)(h:p≤l.length):GetRel l p 0 0:=⟨rfl,by decide,by omega,by omega⟩
theorem vget_in {l:List UInt8}{p:Nat}(h:p≤l.length):vget l p=match vgetGo 10 0 0 (l.drop p) with
  | .ok (n,j) => .ok (n,p+j)
  | .error c => .error c:=by
 unfold vget;rw[if_neg (by omega)];rfl
theorem get_out {l:List UInt8}{p:Int}(h:p<0∨l.length<p):vget l p = .error 9:=by unfold vget;rw[if_pos h]
theorem get_ten {l:List UInt8}{p m:Nat}(h:GetRel l p 10 m)(hp:p≤l.length):vget l p = .error 4:=by
 rw[vget_in hp,←h.1];rfl
theorem get_short {l:List UInt8}{p k m:Nat}(h:GetRel l p k m)(h10:k<10)(hk:k=l.length - p)(hp:p≤l.length):vget l p = .error 1:=by
 rw[vget_in hp,←h.1,show 10 - k=(9 - k)+1 by omega,List.drop_eq_nil_of_le (by omega)];rfl
theorem get_byte {l:List UInt8}{p k m:Nat}{c:UInt8}(h:GetRel l p k m)(h10:k<10)(hc:l[p+k]? = some c) :
  vgetGo 10 0 0 (l.drop p)=if 9 - k=0∧1<c.toNat then .error 4 else if c.toNat<128 then .ok (m+c.toNat * 128 ^ k,k+1) else vgetGo (9 - k) (k+1) (m+(c.toNat - 128) * 128 ^ k) (l.drop (p+(k+1))):=by
 obtain ⟨hlt,he⟩:=List.getElem?_eq_some_iff.1 hc;rw[←h.1,show 10 - k=(9 - k)+1 by omega,List.drop_eq_getElem_cons hlt,he];rfl
theorem get_big {l:List UInt8}{p k m:Nat}{c:UInt8}(h:GetRel l p k m)(hk:k=9)(hp:p≤l.length)(hc:l[p+k]? = some c)(h1:1<c.toNat):vget l p = .error 4:=by
 rw[vget_in hp,get_byte h (by omega) hc,if_pos ⟨by omega,h1⟩]
theorem get_done {l:List UInt8}{p k m:Nat}{c:UInt8}(h:GetRel l p k m)(h10:k<10)(hp:p≤l.length)(hc:l[p+k]? = some c)(h1:k=9→c.toNat≤1)(h2:c.toNat<128):vget l p = .ok (m+c.toNat * 128 ^ k,p+k+1):=by
 rw[vget_in hp,get_byte h (by omega) hc,if_neg (by intro hh;have:=h1 (by omega);omega),if_pos h2]
 simp[Nat.add_assoc]
theorem get_more {l:List UInt8}{p k m:Nat}{c:UInt8}(h:GetRel l p k m)(h10:k<10)(hc:l[p+k]? = some c)(h1:k=9→c.toNat≤1)(h2:128≤c.toNat):k<9∧GetRel l p (k+1) (m+(c.toNat - 128) * 128 ^ k):=by
 have h9:k<9:=by
  rcases Nat.lt_or_ge k 9 with hh|hh
  ·exact hh
  ·have:=h1 (by omega);omega
 obtain ⟨hlt,_⟩:=List.getElem?_eq_some_iff.1 hc;refine ⟨h9,?_,?_,by omega,by omega⟩
 ·have:=get_byte h h10 hc
  rw[if_neg (by omega),if_neg (by omega)] at this;rw[this,show 10 - (k+1)=9 - k by omega]
 ·have hm:=h.2.1
  have hc:=c.toNat_lt;have:(c.toNat - 128) * 128 ^ k≤127 * 128 ^ k:=Nat.mul_le_mul_right _ (by omega);rw[Nat.pow_succ];omega
theorem pow128 (k:Nat):128 ^ k=2 ^ (7 * k):=by rw[show 128=2 ^ 7 from rfl,Nat.pow_mul]
theorem and127 (c:UInt8):bits .and .u8 (c.toNat:Int) 127=((c.toNat % 128:Nat):Int):=by
 rw[show (127:Int)=((127:Nat):Int) from rfl,u8_and_nat _ 127 c.toNat_lt (by omega),nat_mask7]
theorem get_or (m k:Nat)(c:UInt8)(hm:m<128 ^ k)(hk:k<10)(h9:k=9→c.toNat≤1) :
  bits .or .u64 (m:Int) (IntKind.u64.wrap (IntKind.u64.wrap (bits .and .u8 (c.toNat:Int) 127) * 2 ^ (7 * k)))=((m+c.toNat % 128 * 128 ^ k:Nat):Int):=by
 have hp:(128:Nat) ^ k≤128 ^ 9:=Nat.pow_le_pow_right (by omega) (by omega)
 have hle:c.toNat % 128 * 128 ^ k<18446744073709551616:=by
  rcases Nat.lt_or_ge k 9 with hh|hh
  ·have h8:(128:Nat) ^ k≤128 ^ 8:=Nat.pow_le_pow_right (by omega) (by omega)
   have:c.toNat % 128 * 128 ^ k≤127 * 128 ^ 8:=Nat.mul_le_mul (by omega) h8;omega
  ·have:=h9 (by omega)
   have:c.toNat % 128 * 128 ^ k≤1 * 128 ^ 9:=Nat.mul_le_mul (by omega) hp;omega
 have hm':m<18446744073709551616:=by omega
 rw[and127,IntKind.wrap_u64,IntKind.wrap_u64];have e1:(((c.toNat % 128:Nat):Int) % 18446744073709551616)=((c.toNat % 128:Nat):Int):=by omega
 have e2:(((c.toNat % 128:Nat):Int) * 2 ^ (7 * k))=((c.toNat % 128 * 128 ^ k:Nat):Int):=by rw[pow128];simp
 rw[e1,e2,Int.emod_eq_of_lt (by omega) (by omega),u64_or_nat m _ hm' hle,Nat.or_comm];rw[nat_join (7 * k) _ m (by rw[pow128];simp) (by rw[←pow128];exact hm),Nat.add_comm]
theorem get_or9 (m:Nat)(c:UInt8)(hm:m<128 ^ 9)(h9:c.toNat≤1) :
  bits .or .u64 (m:Int) (IntKind.u64.wrap (IntKind.u64.wrap (bits .and .u8 (c.toNat:Int) 127) * 9223372036854775808))=((m+c.toNat % 128 * 128 ^ 9:Nat):Int) :=
 get_or m 9 c hm (by omega) (fun _=>h9)
theorem byte_at (s:ByteArray)(i:Nat)(h:i<s.size):s.data.toList[i]? = some (s[i]'h):=by
 rw[List.getElem?_eq_getElem (by simpa using h)];rfl
open Go.RowKit
theorem ofNat_toNat {n:Nat}(h:n<256):(UInt8.ofNat n).toNat=n:=by simp;omega
theorem vgetGo_vputF:∀ (f k m n:Nat) (post:List UInt8),f+k=9→n<2 * 128 ^ f→vgetGo (f+1) k m (vputF f n++post) = .ok (m+n * 128 ^ k,k+(vputF f n).length)
 | 0,k,m,n,post,hk,hn=>by
  have hn:n<2:=by simpa using hn
  simp only[vputF,List.cons_append,List.nil_append,vgetGo,List.length_cons,List.length_nil]
  rw[ofNat_toNat (by omega),if_neg (by omega),if_pos (by omega)]
 | f+1,k,m,n,post,hk,hn=>by
  rw[vputF]
  by_cases h:n<128
  ·rw[if_pos h]
   simp only[List.cons_append,List.nil_append,vgetGo,List.length_cons,List.length_nil]
   rw[ofNat_toNat (by omega),if_neg (by omega),if_pos h]
  ·rw[if_neg h]
   simp only[List.cons_append,List.length_cons]
   rw[vgetGo,ofNat_toNat (by omega),if_neg (by omega),if_neg (by omega),vgetGo_vputF f (k+1) _ (n / 128) post (by omega) (by rw[Nat.pow_succ] at hn;omega)];have e:n % 128+128 - 128=n % 128:=by omega
   rw[e,Nat.pow_succ]
   generalize 128 ^ k=P
   have h3:n % 128 * P+n / 128 * (P * 128)=n * P:=by
    have e1:n / 128 * (P * 128)=(n / 128 * 128) * P:=by rw[Nat.mul_comm P,Nat.mul_assoc]
    have e0:n % 128+n / 128 * 128=n:=by omega
    rw[e1,←Nat.add_mul,e0]
   generalize vputF f (n / 128)=L
   have e2:m+n % 128 * P+n / 128 * (P * 128)=m+n * P:=by omega
   have e3:k+1+L.length=k+(L.length+1):=by omega
   rw[e2,e3]
theorem vputF_length:∀ (f n:Nat),1≤(vputF f n).length∧(vputF f n).length≤f+1
 | 0,n=>by simp[vputF]
 | f+1,n=>by
  rw[vputF]
  split
  ·simp
  ·have:=vputF_length f (n / 128)
   simp;omega
theorem vput_length (n:Nat):1≤(vput n).length∧(vput n).length≤10:=vputF_length 9 n
def vputs (l:List Nat):List UInt8:=l.flatMap vput
theorem vputs_length (l:List Nat):(vputs l).length≤10 * l.length:=by
 induction l with
 | nil=>simp[vputs]
 | cons n l ih=>have:=(vput_length n).2;simp[vputs] at ih ⊢;omega
theorem vputs_take (l:List Nat)(k:Nat)(h:k<l.length):vputs (l.take (k+1))=vputs (l.take k)++vput l[k]:=by
 unfold vputs;rw[List.take_succ_eq_append_getElem h,List.flatMap_append,List.flatMap_singleton]
open Go.RowKit
structure Upd (S:Nat→Prop) (w w':World):Prop where
 os:w'.os=w.os
 tape:w'.tape=w.tape
 output:w'.output=w.output
 size:w.heap.size≤w'.heap.size
 block:∀ k,k<w.heap.size→¬S k→w'.heap[k]? = w.heap[k]?
theorem Upd.refl (S:Nat→Prop)(w:World):Upd S w w:=⟨rfl,rfl,rfl,Nat.le_refl _,fun _ _ _=>rfl⟩
theorem Upd.trans {S:Nat→Prop}{a b c:World}(h:Upd S a b)(g:Upd S b c):Upd S a c :=
 ⟨g.os.trans h.os,g.tape.trans h.tape,g.output.trans h.output,Nat.le_trans h.size g.size,fun k hk hs=>(g.block k (Nat.lt_of_lt_of_le hk h.size) hs).trans (h.block k hk hs)⟩
theorem Upd.mono {S S':Nat→Prop}{a b:World}(h:Upd S a b)(hs:∀ k,k<a.heap.size→S k→S' k):Upd S' a b :=
 ⟨h.os,h.tape,h.output,h.size,fun k hk hn=>h.block k hk (fun hh=>hn (hs k hk hh))⟩
theorem Upd.trans' {S S':Nat→Prop}{a b c:World}(h:Upd S a b)(g:Upd S' b c)(hs:∀ k,k<a.heap.size→S' k→S k):Upd S a c :=
 ⟨g.os.trans h.os,g.tape.trans h.tape,g.output.trans h.output,Nat.le_trans h.size g.size,fun k hk hn=>(g.block k (Nat.lt_of_lt_of_le hk h.size) (fun hh=>hn (hs k hk hh))).trans (h.block k hk hn)⟩
theorem Upd.below {S:Nat→Prop}{B:Nat}{a b:World}(h:Upd S a b)(hB:B≤a.heap.size)(hs:∀ k,k<a.heap.size→S k→B≤k):Below B a b :=
 ⟨h.os,h.tape,h.output,h.size,fun k hk=>h.block k (by omega) (fun hh=>by have:=hs k (by omega) hh;omega)⟩
theorem Upd.of_below {S:Nat→Prop}{B:Nat}{a b:World}(h:Below B a b)(hs:∀ k,k<a.heap.size→¬S k→k<B):Upd S a b :=
 ⟨h.os,h.tape,h.output,h.size,fun k hk hn=>h.block k (hs k hk hn)⟩
theorem Upd.of_new {S:Nat→Prop}{a b:World}(h:Below a.heap.size a b):Upd S a b := .of_below h fun _ hk _=>hk
theorem Upd.of_grown {row:Option Nat}{a b:World}(h:a.grownBy b row):Upd (fun k=>row=some k) a b :=
 ⟨h.os,h.tape,h.output,h.size,fun k hk hn=>h.block k hk (fun e=>hn e.symm)⟩
theorem Upd.alloc (S:Nat→Prop)(w:World)(o:Obj):Upd S w (w.alloc o) := .of_new ((Below.refl _ _).alloc (Nat.le_refl _) o)
theorem Upd.set (w:World)(a:Addr)(u:Value):Upd (fun k=>k=a.block) w (w.setCell a u) :=
 ⟨rfl,rfl,rfl,by simp[World.setCell],fun k _ hn=>Below.heap_setCell _ _ _ _ hn⟩
theorem Upd.drew (S:Nat→Prop)(w:World):Upd S w w.drew:=⟨rfl,rfl,rfl,Nat.le_refl _,fun _ _ _=>rfl⟩
theorem Upd.own {S:Nat→Prop}{w w':World}{base:Nat}{e:TypeId}{size:Nat}{v:Value}{n:Nat}{xs:List Value}(h:Upd S w w')(ho:w.ownsRow base e size v n xs)(hs:∀ k,v.ownBlock=some k→¬S k):w'.ownsRow base e size v n xs:=by
 refine ⟨ho.1,?_⟩
 rcases ho.2 with hn|⟨g,cap,cur,rfl,hb,hgg,rest⟩
 ·exact .inl hn
 ·exact .inr ⟨g,cap,cur,rfl,hb,(h.block g (Array.getElem?_eq_some_iff.1 hgg).1 (hs g rfl)).trans hgg,rest⟩
theorem Upd.cell {S:Nat→Prop}{w w':World}(h:Upd S w w'){a:Addr}(hl:a.block<w.heap.size)(hs:¬S a.block):w'.cell? a=w.cell? a:=World.cell?_of_block (w:=w) (h.block a.block hl hs)
theorem own_slice {w:World}{base:Nat}{e:TypeId}{size:Nat}{v:Value}{n:Nat}{xs:List Value}(h:w.ownsRow base e size v n xs):∃ ao cap,v = .slice ao n cap:=by
 rcases h.2 with ⟨rfl,rfl⟩|⟨g,cap,cur,rfl,_⟩
 ·exact ⟨none,0,rfl⟩
 ·exact ⟨_,cap,rfl⟩
theorem own_some {w:World}{base:Nat}{e:TypeId}{size:Nat}{v:Value}{n:Nat}{xs:List Value}(h:w.ownsRow base e size v n xs)(hn:0<n):∃ g cap,v = .slice (some ⟨g,0,none⟩) n cap∧base≤g∧g<w.heap.size∧n≤cap∧cap≤maxLen:=by
 rcases h.2 with ⟨rfl,rfl⟩|⟨g,cap,cur,rfl,hb,hg,hc,hm,_⟩
 ·omega
 ·exact ⟨g,cap,rfl,hb,(Array.getElem?_eq_some_iff.1 hg).1,hc,hm⟩
theorem row_cell {w:World}{p:Nat}{cs:Array Value}{T:TypeId}{fr:Nat × Nat}(h:w.heap[p]? = some (.cells cs T fr)){j:Nat}{u:Value}(hj:cs[j]? = some u):w.cell? ⟨p,j,none⟩=some u:=by
 rw[cell_of_row w p j _ _ _ h,hj]
theorem row_lt {w:World}{p:Nat}{o:Obj}(h:w.heap[p]? = some o):p<w.heap.size:=(Array.getElem?_eq_some_iff.1 h).1
theorem row_thaw {w:World}{p:Nat}{cs:Array Value}{T:TypeId}(h:w.heap[p]? = some (.cells cs T (0,0)))(j:Nat):w.frozen? ⟨p,j,none⟩=false:=by simp[World.frozen?,h]
theorem row_set {w:World}{p:Nat}{cs:Array Value}{T:TypeId}(h:w.heap[p]? = some (.cells cs T (0,0)))(j:Nat)(u:Value):(w.setCell ⟨p,j,none⟩ u).heap[p]? = some (.cells (cs.setIfInBounds j u) T (0,0)):=by
 rw[heap_setCell_same _ p j _ _ _ h]
section
variable {P:Program} {w:World}
theorem wpList_app1_at {ops:Array Oper} {rest:List Oper} {o:Oper} {a:Act} {Q:Exit→Act→World→Prop} (hgd:o.guard=none) (s x:Operand) (t:TypeId)
  (ho:o.op = .call { callee := .builtin .append,args:=#[s,x],argTypes:=#[t,t] })
  {base:Nat} {e:TypeId} {z:Value} {size bytes:Nat} (he:Elem P t e z size bytes) (hsz:0<size)
  {v:Value} {n:Nat} {xs:List Value} (hown:w.ownsRow base e size v n xs) (hs:a.eval s=v)
  {cs:List Value} {c:Nat} (hx:a.eval x = .slice (some ⟨w.heap.size,0,none⟩) 1 c) (hcs:cs.length=size) (h1:∀ u∈cs,u.oneCell'=true)
  (h63:n+1≤maxLen) (hbytes:(n+1) * bytes≤140737488355328) (hbase:base≤w.heap.size)
  (h:∀ g cap w',w'.ownsRow base e size (.slice (some ⟨g,0,none⟩) (n+1) cap) (n+1) (xs++cs)→w.grownBy w' v.ownBlock→(v.ownBlock=some g∨w.heap.size≤g)→wpList P ops Q rest (a.put o.dst (.slice (some ⟨g,0,none⟩) (n+1) cap)) w'):wpList P ops Q (o::rest) a (w.alloc (.cells cs.toArray e)):=by
 obtain ⟨ht,hi0,hzs⟩:=he;obtain ⟨i,hi,hz,hsize,hby⟩:=info_parts hi0;refine wpList_append_own_at (w.alloc (.cells cs.toArray e)) hgd s x t ho base e i z size bytes ht hi hz hsize hby hzs hsz v n xs hs (hown.alloc _) ⟨w.heap.size,0,none⟩ 1 c cs hx (by simp[hcs]) ?_ h1 h63 hbytes (by simp;omega) fun v' w' h2 h3 _ h5=>?_
 ·intro j u hj
  have hadd:(⟨w.heap.size,0,none⟩:Addr).add j=⟨w.heap.size,j,none⟩:=by unfold Addr.add;split<;>simp_all
  rw[hadd,World.cell?_alloc_at _ _ _ _ rfl]
  simpa using hj
 ·obtain ⟨g,cap,rfl,_⟩:=own_some h2 (by omega)
  refine h g cap w' h2 (grownBy_of_alloc h3) ?_
  rcases h5 with h5|h5
  ·exact .inl h5.symm
  ·simp[Value.ownBlock] at h5
   exact .inr (by omega)
end
open Go.RowKit
def ErrNew (w:World)(n c:Int)(v:Value)(w':World):Prop :=
 (∃ a,w.heap.size≤a∧v = .iface 154 (.pointer (some ⟨a,0,none⟩))∧w'.heap[a]? = some (.cells #[.int .i64 n,.iface 49 (.int .i64 c)] 157 (0,0)))∧Below w.heap.size w w'
theorem errNew_at {w w1:World}{n c:Int}(h:Below w.heap.size w w1):ErrNew w n c (.iface 154 (.pointer (some ⟨w1.heap.size,0,none⟩))) (w1.alloc (.cells #[.int .i64 n,.iface 49 (.int .i64 c)] 157)) :=
 ⟨⟨w1.heap.size,h.size,rfl,heap_alloc_new w1 _⟩,h.alloc h.size _⟩
theorem errNew_at' {w w1:World}{n c:Int}{g:Nat}(h:Below w.heap.size w w1)(hg:g=w1.heap.size):ErrNew w n c (.iface 154 (.pointer (some ⟨g,0,none⟩))) (w1.alloc (.cells #[.int .i64 n,.iface 49 (.int .i64 c)] 157)):=by
 subst hg;exact errNew_at h
theorem ErrNew.iface {w w':World}{n c:Int}{v:Value}(h:ErrNew w n c v w'):∃ T x,v = .iface T x:=by
 obtain ⟨⟨a,_,rfl,_⟩,_⟩:=h;exact ⟨_,_,rfl⟩
theorem ErrNew.after {w w1 w':World}{n c:Int}{v:Value}(hb:Below w.heap.size w w1)(h:ErrNew w1 n c v w'):ErrNew w n c v w':=by
 obtain ⟨⟨a,ha,hv,hh⟩,hb'⟩:=h;exact ⟨⟨a,Nat.le_trans hb.size ha,hv,hh⟩,hb.trans (hb'.mono hb.size)⟩
theorem ErrNew.stay {w w1 w':World}{n c:Int}{v:Value}(h:ErrNew w n c v w1)(hb:Below w1.heap.size w1 w'):ErrNew w n c v w':=by
 obtain ⟨⟨a,ha,hv,hh⟩,hb'⟩:=h;exact ⟨⟨a,ha,hv,(hb.block a (row_lt hh)).trans hh⟩,hb'.trans (hb.mono hb'.size)⟩
open Go.RowKit
theorem body_cell3 {P:Program} {fn:Func} {R:Ending→World→Prop} {a:Act} {w:World} {p u x:Tmp} {ty:TypeId} {g:Nat} {cs:Array Value}
  (h:fn.results=#[.cell p ty,.tmp u,.tmp x]) (hp:a.tmps.getD p undef = .pointer (some ⟨g,0,none⟩)) (hl:(loadVar ty ⟨g,0,none⟩).run P w = .ok (.agg cs) w) (hdf:a.defers=[])
  (hR:R (.returned (.tuple #[.agg cs,a.tmps.getD u undef,a.tmps.getD x undef])) w):bodyPost P fn R .ret a w:=by
 refine bodyPost_ret ?_ hdf hR;have hp':a.tmps[p]?.getD undef = .pointer (some ⟨g,0,none⟩):=by simpa using hp
 have hr:(asAddr (a.tmps[p]?.getD undef)).run P w = .ok ⟨g,0,none⟩ w:=by rw[hp'];rfl
 simp[results,h,Sem.run_bind,Result.andThen,hr,hl]
end Go.Proofs.YtficgfemmijaaaaGreatDoor
