/-
  wire.Tag, record, Varint, Bytes: what they write.
-/
import Derived.Deep.LoopGhost
import Derived.Test.YtmlghmjjlpioeaaGreatDoorWireR5
set_option maxRecDepth 1000000
set_option maxHeartbeats 16000000
namespace Go.Proofs.YtmlghmjjlpioeaaGreatDoor
open Go.RowKit
open Lib (hid)
def wtag (num kind:Int):List UInt8:=if num<1∨536870911<num∨kind<0∨5<kind then []else vput (8*num.toNat+kind.toNat)
theorem zex {num kind:Int}(h:num<1∨536870911<num∨kind<0∨5<kind):wtag num kind=[]:=if_pos h
theorem z8w {num kind:Nat}(h1:1<=num)(h2:num<=536870911)(h3:kind<=5):wtag num kind=vput (8*num+kind):=by
 unfold wtag;rw[if_neg (by omega)];simp
theorem tag_or {num kind:Nat}(h2:num<=536870911)(h3:kind<=5):bits .or .u64 ((num:Int)*8) (kind:Int)=((8*num+kind:Nat):Int):=by
 have e:(num:Int)*8=((num*8:Nat):Int):=by simp
 rw[e,u64_or_nat _ _ (by omega) (by omega),nat_join 3 (num*8) kind (by omega) (by omega)]
 congr 1
 omega
theorem z8t (num kind:Int)(w:World)(h1:-9223372036854775808<=num)(h2:num<=9223372036854775807)(h3:-9223372036854775808<=kind)(h4:kind<=9223372036854775807) :
  Calls Tryz.prog 155 #[.int .i64 num,.int .i64 kind] w fun e w'=>e=.returned (.string ⟨(wtag num kind).toArray⟩)/\Below w.heap.size w w':=by
 by_cases hb:num<1∨536870911<num∨kind<0∨5<kind
 ·have HF:=hid (zex hb)
  rcases(by omega:num<1∨(1<=num/\536870911<num)∨(1<=num/\num<=536870911/\kind<0)∨(1<=num/\num<=536870911/\0<=kind/\5<kind))with h|⟨h,h'⟩|⟨h,h',h''⟩|⟨h,h',h'',h'''⟩
  all_goals clear hb
  all_goals go_enter Tryz.func155,Tryz.ntmps155
  all_goals go_wp2
  all_goals go_ret
  all_goals exact⟨by rw[HF.out];rfl,Below.refl _ _⟩
 ·obtain⟨n,rfl⟩:=Int.eq_ofNat_of_zero_le (show 0<=num by omega)
  obtain⟨k,rfl⟩:=Int.eq_ofNat_of_zero_le (show 0<=kind by omega);have hn1:1<=n:=by omega
  have hn2:n<=536870911:=by omega
  have hk:k<=5:=by omega
  have HF:=hid (z8w hn1 hn2 hk);have hor:=tag_or hn2 hk;have HP:=hid (Qs (n:=8*n+k) (by omega));clear hb h1 h2 h3 h4;go_enter Tryz.func155,Tryz.ntmps155;have hput:=fun w=>z1f (8*n+k) w HP.out
  rw[show((8*n+k:Nat):Int)=8*(n:Int)+(k:Int)by simp]at hput;have HPUT:=hid hput;clear hput;go_wp2_with fail;refine(HPUT.out w).mono ?_;rintro e w' ⟨rfl,hb⟩;have HB:=hid hb;clear hb;go_wp2_with fail;go_ret;exact⟨by rw[HF.out];rfl,HB.out⟩
def wrec (num kind:Int)(rest:List UInt8):List UInt8:=if wtag num kind=[]then []else wtag num kind++rest
theorem z9v (n:Nat):vput n≠[]:=by
 intro h;have:=(zu n).1;rw[h]at this
 simp at this
theorem z1u (n:Nat):(vput n).length<=10:=(zu n).2
theorem Y5 (num kind:Int):(wtag num kind).length<=10:=by
 unfold wtag
 split
 ·simp
 ·exact z1u _
theorem z2d (num kind:Int)(rest:List UInt8)(w:World)(h1:-9223372036854775808<=num)(h2:num<=9223372036854775807)(h3:-9223372036854775808<=kind)(h4:kind<=9223372036854775807)(hr:rest.length<=1000000000) :
  Calls Tryz.prog 130 #[.int .i64 num,.int .i64 kind,.string ⟨rest.toArray⟩] w fun e w'=>e=.returned (.string ⟨(wrec num kind rest).toArray⟩)/\Below w.heap.size w w':=by
 cases ht:wtag num kind with
 | nil =>
  have HF:Hid (wrec num kind rest=[]):=hid (by unfold wrec;rw[if_pos ht]);have HT:=hid ht;clear ht;go_enter Tryz.func130,Tryz.ntmps130;go_wp2_with fail;refine(z8t num kind w h1 h2 h3 h4).mono ?_;rintro e w' ⟨rfl,hb⟩;have HB:=hid hb;rw[HT.out];clear hb;go_wp2_with fail;go_ret;exact⟨by rw[HF.out];rfl,HB.out⟩
 | cons b t =>
  have HF:Hid (wrec num kind rest=(b::t)++rest):=hid (by unfold wrec;rw[if_neg (by rw[ht];simp),ht]);have hlen:t.length<=9:=by have:=Y5 num kind;rw[ht]at this;simp at this;omega
  have HT:=hid ht;clear ht;go_enter Tryz.func130,Tryz.ntmps130;go_wp2_with fail;refine(z8t num kind w h1 h2 h3 h4).mono ?_;rintro e w' ⟨rfl,hb⟩;have HB:=hid hb;rw[HT.out];clear hb;go_wp2_with fail;go_ret;exact⟨by rw[HF.out];exact ret_str (z4u _ _),HB.out⟩
theorem z85 (num:Int)(n:Nat)(w:World)(h1:-9223372036854775808<=num)(h2:num<=9223372036854775807)(hn:n<2^64) :
  Calls Tryz.prog 93 #[.int .i64 num,.int .u64 n] w fun e w'=>e=.returned (.string ⟨(wrec num 0 (vput n)).toArray⟩)/\Below w.heap.size w w':=by
 have HP:=hid (Qs hn);have HV:=hid (z1u n);clear hn;go_enter Tryz.func93,Tryz.ntmps93;go_wp2_with fail;refine(z1f n w HP.out).mono ?_;rintro e w1 ⟨rfl,hb1⟩;have HB1:=hid hb1;clear hb1;go_wp2_with fail;refine(z2d num 0 (vput n) w1 h1 h2 (by omega) (by omega) (by have:=HV.out;omega)).mono ?_;rintro e w2 ⟨rfl,hb2⟩;have HB2:=hid hb2;clear hb2;go_wp2_with fail;go_ret;exact⟨rfl,HB1.out.trans (HB2.out.mono HB1.out.size)⟩
theorem zan (num:Int)(s:ByteArray)(w:World)(h1:-9223372036854775808<=num)(h2:num<=9223372036854775807)(hs:s.size<=1000000) :
  Calls Tryz.prog 124 #[.int .i64 num,.string s] w fun e w'=>e=.returned (.string ⟨(wrec num 2 (vput s.size++s.data.toList)).toArray⟩)/\Below w.heap.size w w':=by
 have HP:=hid (Qs (n:=s.size) (by omega));have hv:=z1u s.size;have HL:=hid (show s.data.toList.length=s.size by simp);have HS:Hid ((ByteArray.mk (vput s.size).toArray)++s=ByteArray.mk (vput s.size++s.data.toList).toArray):=hid (by rw[<-z4u]);go_enter Tryz.func124,Tryz.ntmps124;go_wp2_with fail;refine(z1f s.size w HP.out).mono ?_;rintro e w1 ⟨rfl,hb1⟩;have HB1:=hid hb1;clear hb1;go_wp2_with fail;rw[HS.out];refine(z2d num 2 (vput s.size++s.data.toList) w1 h1 h2 (by omega) (by omega) (by simp;have:=HL.out;omega)).mono ?_;rintro e w2 ⟨rfl,hb2⟩;have HB2:=hid hb2;clear hb2;go_wp2_with fail;go_ret;exact⟨rfl,HB1.out.trans (HB2.out.mono HB1.out.size)⟩
def Yo:Nat->Nat->List UInt8
 | 0,_=>[]
 | k+1,n=>UInt8.ofNat (n%256)::Yo k (n/256)
theorem Tryz.elU64:Elem Tryz.prog 27 24 (.int .u64 0) 1 8:=⟨Tryz.underlying27,by kernel_rfl,by decide⟩
def y9 (l:List Nat):List Value:=l.map fun n:Nat => .int .u64 n
def wvs:Nat->List UInt8->Except Nat (List Nat)
 | 0,_ => .ok []
 | f+1,l=>if l=[]then .ok []else match wv l with
  | .error c => .error c
  | .ok (n,j)=>match wvs f (l.drop j)with
   | .error c => .error c
   | .ok ns => .ok (n::ns)
def xj (l:List UInt8):Except Nat (List Nat):=wvs l.length l
theorem z5x:∀(f g:Nat) (l:List UInt8),l.length<=f->l.length<=g->wvs f l=wvs g l
 | 0,0,_,_,_=>rfl
 | 0,g+1,l,hf,_=>by
  have:l=[]:=List.length_eq_zero_iff.1 (by omega);rw[wvs,wvs,if_pos this]
 | f+1,0,l,_,hg=>by
  have:l=[]:=List.length_eq_zero_iff.1 (by omega);rw[wvs,wvs,if_pos this]
 | f+1,g+1,l,hf,hg=>by
  rw[wvs,wvs]
  split
  ·rfl
  ·cases h:wv l with
   | error c=>rfl
   | ok x =>
    obtain⟨n,j⟩:=x;have:=yi h;dsimp only;rw[z5x f g _ (by simp;omega) (by simp;omega)]
theorem z0m:xj []=.ok []:=rfl
theorem z7h {l:List UInt8}{c:Nat}(h0:l≠[])(h:wv l=.error c):xj l=.error c:=by
 unfold xj
 cases hl:l.length with
 | zero=>exact absurd (List.length_eq_zero_iff.1 hl) h0
 | succ f=>rw[wvs,if_neg h0,h]
theorem Kj {l:List UInt8}{n j:Nat}(h:wv l=.ok (n,j)):xj l=match xj (l.drop j)with
  | .error c => .error c
  | .ok ns => .ok (n::ns):=by
 have hb:=yi h
 conv=>lhs;unfold xj
 cases hl:l.length with
 | zero=>omega
 | succ f =>
  rw[wvs,if_neg (by intro e;subst e;simp at hl),h];dsimp only;have e:wvs f (l.drop j)=xj (l.drop j):=z5x _ _ _ (by simp;omega) (by simp);rw[e]
def Yr (s:ByteArray)(w:World)(e:Ending)(w':World):Prop:=match xj s.data.toList with
 | .error c=>∃v,e=.returned (.tuple #[.slice none 0 0,v])/\∃q:Nat,q<=s.size/\yq w (q:Int) (c:Int) v w'
 | .ok ns=>∃u,e=.returned (.tuple #[u,.nilIface])/\w'.ownsRow w.heap.size 24 1 u ns.length (y9 ns)/\ns.length<=s.size/\Below w.heap.size w w'
theorem vars_no {s:ByteArray}{c:Nat}{w w':World}{v:Value}(h:xj s.data.toList=.error c)(q:Nat)(hq:q<=s.size)(hE:yq w (q:Int) (c:Int) v w'):Yr s w (.returned (.tuple #[.slice none 0 0,v])) w':=by
 unfold Yr;rw[h];exact⟨v,rfl,q,hq,hE⟩
theorem vars_ok {s:ByteArray}{ns:List Nat}{w w':World}{u:Value}(h:xj s.data.toList=.ok ns)(ho:w'.ownsRow w.heap.size 24 1 u ns.length (y9 ns))(hl:ns.length<=s.size)(hB:Below w.heap.size w w'):Yr s w (.returned (.tuple #[u,.nilIface])) w':=by
 unfold Yr;rw[h];exact⟨u,rfl,ho,hl,hB⟩
def Ke (l:List UInt8)(q:Nat)(acc:List Nat):Prop:=q<=l.length/\acc.length<=q/\xj l=match xj (l.drop q)with
 | .error c => .error c
 | .ok ns => .ok (acc++ns)
theorem z6c (l:List UInt8):Ke l 0 []:=by
 refine⟨by omega,by simp,?_⟩;rw[List.drop_zero]
 cases xj l<;>rfl
theorem zch {l:List UInt8}{q c:Nat}{acc:List Nat}(h:Ke l q acc)(hq:q<l.length)(hn:wv (l.drop q)=.error c):xj l=.error c:=by
 rw[h.2.2,z7h (by intro e;have:=congrArg List.length e;simp at this;omega) hn]
theorem z8p {l:List UInt8}{q j n:Nat}{acc:List Nat}(h:Ke l q acc)(hn:wv (l.drop q)=.ok (n,j)):Ke l (q+j) (acc++[n]):=by
 have hb:=yi hn
 simp at hb
 obtain⟨h1,h2,h3⟩:=h;refine⟨by omega,by simp;omega,?_⟩;rw[h3,Kj hn,List.drop_drop]
 cases xj (l.drop (q+j))with
 | error c=>rfl
 | ok rs=>simp
theorem zbv {l:List UInt8}{acc:List Nat}{q:Nat}(h:Ke l q acc)(hq:q=l.length):xj l=.ok acc:=by
 subst hq;rw[h.2.2,List.drop_length,z0m]
 simp
theorem z8d (s:ByteArray)(w:World)(hs:s.size<=1000000) :
  Calls Tryz.prog 107 #[.string s] w (Yr s w):=by
 have HL:=hid (show s.data.toList.length=s.size by simp);have HS:=hid hs;go_enter Tryz.func107,Tryz.ntmps107;go_wp2_with fail
 go_loopg [4,5] s.size (fun k v a wr=>∃(q:Nat) (acc:List Nat),q+k=s.size/\a=.int .i64 q/\Ke s.data.toList q acc/\wr.ownsRow w.heap.size 24 1 v acc.length (y9 acc)/\Below w.heap.size w wr)
 case atStart=>exact⟨0,[],by omega,rfl,z6c _,World.ownsRow_nil _ _ _ _,Below.refl _ _⟩
 case round =>
  obtain⟨q,acc,hqk,rfl,hal,hown,hb⟩:=hrel;have HA:=hid hal;have HB:=hid hb;have HQ:=hid hqk;have hqs:q<=s.size:=by omega
  have hsz:s.size<=1000000:=HS.out;have hacc:acc.length<=q:=hal.2.1;have hbs:w.heap.size<=wr.heap.size:=hb.size;clear hal hb hqk
  by_cases hlt:q<s.size
  ·cases hn:wv (s.data.toList.drop q)with
   | error c =>
    have HV:=hid (Zm (by have:=HL.out;omega) hn);have HF:=hid (zch HA.out (by have:=HL.out;omega) hn);clear hn hown;go_wp2_with fail;refine(z1c s q _ (by unfold maxLen;omega) HV.out).mono ?_;rintro e w' ⟨rfl,rfl⟩;go_wp2_with fail
    go_ret2
    exact vars_no HF.out q hqs (jh HB.out)
   | ok x =>
    obtain⟨n,j⟩:=x;have HV:=hid (Z3 (by have:=HL.out;omega) hn);have HG:=hid (z8p HA.out hn);have HJ:=hid (yi hn);have hqj:q+j<=s.size:=by have:=HJ.out.2.1;simp at this;have:=HL.out;omega
    have hj1:1<=j:=HJ.out.1;clear hn
    go_wp2_with (first
     | (go_at_call 140;refine(Jn s q _ (by unfold maxLen;omega) HV.out).mono ?_;rintro e w' ⟨rfl,rfl⟩)
     | (at_builtin;refine kc rfl _ _ 27 rfl Tryz.elU64 (by decide) hown rfl rfl rfl (by simp[Value.oneCell']) (by unfold maxLen;omega) (by omega) hbs ?_;intro v' w2 hown' hgrow))
    have HO2:Hid (w2.ownsRow w.heap.size 24 1 v' (acc++[n]).length (y9 (acc++[n]))):=hid (by simpa [y9] using hown');have HB2:Hid (Below w.heap.size w w2):=hid (HB.out.grown hgrow hbs (fun k hk=>(hown.lt _ hk).1));have hq:=HQ.out
    go_roundg (s.size-(q+j))
    case measure=>omega
    case rel=>exact⟨q+j,acc++[n],by omega,by simp,HG.out,HO2.out,HB2.out⟩
  ·have HF:=hid (zbv HA.out (by have:=HL.out;have:=HQ.out;omega))
   have HO:=hid hown;clear hown;go_wp2_with fail
   go_ret2
   exact vars_ok HF.out HO.out (by omega) HB.out
theorem z2j:∀(k n:Nat),n<256^k->wlit (Yo k n)=n
 | 0,n,h=>by simp at h;subst h;rfl
 | k+1,n,h=>by
  have hd:n/256<256^k:=by rw[Nat.pow_succ]at h;omega
  simp only[Yo,wlit]
  rw[z2j k (n/256) hd,X5 (by omega)];omega
theorem Xc:∀(k n:Nat),(Yo k n).length=k
 | 0,_=>rfl
 | k+1,n=>by simp[Yo,Xc k]
theorem z1b (n:Nat)(t:List UInt8)(h:n<2^64):wv (vput n++t)=.ok (n,(vput n).length):=by
 have:=z07 9 0 0 n t rfl (by omega)
 simpa [wv,vput] using this
theorem z1g:∀(l:List Nat),(∀n∈l,n<2^64)->xj (qu l)=.ok l
 | [],_=>rfl
 | n::l,h=>by
  have e:qu (n::l)=vput n++qu l:=rfl;have hv:=z1b n (qu l) (h n List.mem_cons_self);rw[<-e]at hv;rw[Kj hv,e,List.drop_left];rw[z1g l (fun m hm=>h m (List.mem_cons_of_mem _ hm))]
theorem zfd {num ty:Nat}(u:List UInt8)(h1:1<=num)(h2:num<=536870911)(h3:ty<=5):whd (vput (8*num+ty)++u)=.ok (num,ty,(vput (8*num+ty)).length):=by
 have hv:=z1b (8*num+ty) u (by omega);have:=Q5 hv (by omega) (by omega) (by omega);rw[show(8*num+ty)/8=num by omega,show(8*num+ty)%8=ty by omega]at this;exact this
def Txt (t:List UInt8)(r:Rec):Prop:=r.raw=t/\r.ty≠3/\r.ty≠4/\∃j k,j+k=t.length/\1<=j/\∀u,whd (t++u)=.ok (r.num,r.ty,j)/\wbd ((t++u).drop j) r.ty=.ok (r.n,r.s,k)
theorem txt_wnx {t:List UInt8}{r:Rec}(h:Txt t r)(u:List UInt8)(d:Int):wnx (t++u) d=.ok (r,t.length):=by
 obtain⟨h1,h2,h3,j,k,hjk,hj,hu⟩:=h;obtain⟨ha,hb⟩:=hu u;unfold wnx;rw[ha];dsimp only;rw[if_neg h3,if_neg h2,hb];dsimp only;rw[hjk,List.take_left,<-h1]
theorem z6b {num ty n:Nat}{s rest:List UInt8}(h1:1<=num)(h2:num<=536870911)(h3:ty=0∨ty=1∨ty=2)(hb:∀u,wbd (rest++u) ty=.ok (n,s,rest.length)) :
  Txt (vput (8*num+ty)++rest) ⟨num,ty,n,s,vput (8*num+ty)++rest⟩:=by
 refine⟨rfl,by show ty≠3;omega,by show ty≠4;omega,(vput (8*num+ty)).length,rest.length,by simp,(zu _).1,fun u=>⟨?_,?_⟩⟩
 ·rw[List.append_assoc];exact zfd _ h1 h2 (by omega)
 ·rw[List.append_assoc,List.drop_left];exact hb u
theorem z8n {num n:Nat}(h1:1<=num)(h2:num<=536870911)(hn:n<2^64):Txt (vput (8*num+0)++vput n) ⟨num,0,n,[],vput (8*num+0)++vput n⟩ :=
 z6b h1 h2 (.inl rfl) fun u=>by
  unfold wbd;rw[if_neg (by decide),if_neg (by decide),z1b n u hn]
  rfl
theorem zbg {num n:Nat}(h1:1<=num)(h2:num<=536870911)(hn:n<2^64):Txt (vput (8*num+1)++Yo 8 n) ⟨num,1,n,[],vput (8*num+1)++Yo 8 n⟩ :=
 z6b h1 h2 (.inr (.inl rfl)) fun u=>by
  have hl:=Xc 8 n;unfold wbd;rw[if_pos rfl,if_neg (by simp;omega),List.take_append_of_le_length (by omega),List.take_of_length_le (by omega),z2j 8 n hn,hl]
theorem z4z {num:Nat}{s:List UInt8}(h1:1<=num)(h2:num<=536870911)(hs:s.length<2^64):Txt (vput (8*num+2)++(vput s.length++s)) ⟨num,2,0,s,vput (8*num+2)++(vput s.length++s)⟩ :=
 z6b h1 h2 (.inr (.inr rfl)) fun u=>by
  unfold wbd;rw[if_neg (by decide),if_neg (by decide),List.append_assoc,z1b s.length (s++u) hs];dsimp only;rw[if_neg (by decide),if_neg (by simp),List.drop_left,List.take_left]
  simp
theorem z5f:∀(f k m:Nat) (l:List UInt8) {n j:Nat},yg f k m l=.ok (n,j)->k<j
 | 0,k,m,l,n,j,h=>by simp[yg]at h
 | f+1,k,m,[],n,j,h=>by simp[yg]at h
 | f+1,k,m,c::r,n,j,h=>by
  simp only[yg]at h
  split at h
  ·simp at h
  ·split at h
   ·simp at h;omega
   ·have:=z5f f _ _ r h;omega
theorem z1k:∀(f k m:Nat) (l t:List UInt8) {n j:Nat},yg f k m (l++t)=.ok (n,j)->j<=k+l.length->yg f k m l=.ok (n,j)
 | 0,k,m,l,t,n,j,h,_=>by simp[yg]at h
 | f+1,k,m,[],t,n,j,h,hj=>by
  have:=z5f _ _ _ _ h
  simp at hj;omega
 | f+1,k,m,c::r,t,n,j,h,hj=>by
  simp only[yg,List.cons_append]at h ⊢
  split at h
  ·simp at h
  ·rename_i h1
   rw[if_neg h1]
   split at h
   ·rename_i h2
    rw[if_pos h2];exact h
   ·rename_i h2
    rw[if_neg h2];exact z1k f _ _ r t h (by simp at hj;omega)
theorem z4b {l t:List UInt8}{n j:Nat}(h:wv (l++t)=.ok (n,j))(hj:j<=l.length):wv l=.ok (n,j):=z1k _ _ _ _ t h (by omega)
theorem Qe {l t:List UInt8}{num ty j:Nat}(h:whd (l++t)=.ok (num,ty,j))(hj:j<=l.length):whd l=.ok (num,ty,j):=by
 have hb:=yo h;have h1:=z4b hb.2.2.2.2.2 hj;have:=Q5 h1 (by omega) (by omega) (by omega);rw[this,show(8*num+ty)/8=num by omega,show(8*num+ty)%8=ty by omega]
theorem z7p {l t:List UInt8}{ty n k:Nat}{s:List UInt8}(h:wbd (l++t) ty=.ok (n,s,k))(hk:k<=l.length):wbd l ty=.ok (n,s,k):=by
 have hb:=j1 h;unfold wbd at h ⊢
 split at h
 ·rename_i h1
  rw[if_pos h1]
  split at h
  ·cases h
  ·have h8:k=8:=by simp only[Except.ok.injEq,Prod.mk.injEq]at h;omega
   rw[List.take_append_of_le_length (by omega)]at h;rw[if_neg (by omega)];exact h
 ·rename_i h1
  rw[if_neg h1]
  split at h
  ·rename_i h2
   rw[if_pos h2]
   split at h
   ·cases h
   ·have h4:k=4:=by simp only[Except.ok.injEq,Prod.mk.injEq]at h;omega
    rw[List.take_append_of_le_length (by omega)]at h;rw[if_neg (by omega)];exact h
  ·rename_i h2
   rw[if_neg h2]
   cases hv:wv (l++t)with
   | error c=>rw[hv]at h;cases h
   | ok x =>
    obtain⟨m,j⟩:=x;rw[hv]at h;have hvb:=yi hv;dsimp only at h
    split at h
    ·rename_i h3
     have hjk:j=k:=by simp only[Except.ok.injEq,Prod.mk.injEq]at h;omega
     rw[z4b hv (by omega)];dsimp only;rw[if_pos h3];exact h
    ·rename_i h3
     split at h
     ·cases h
     ·rename_i h4
      have hjk:k=j+m:=by simp only[Except.ok.injEq,Prod.mk.injEq]at h;omega
      rw[z4b hv (by omega)];dsimp only;rw[if_neg h3,if_neg (by omega)];rw[List.drop_append_of_le_length (by omega),List.take_append_of_le_length (by simp;omega)]at h;exact h
theorem K7:∀(f:Nat) {l:List UInt8} {st:List Nat} {d:Int} {k:Nat} (t:List UInt8),l.length<f->k<=l.length->∀g,(l++t).length<g->wgr g (l++t) st d=.ok k->wgr f l st d=.ok k
 | 0,_,_,_,_,_,h,_,_,_,_=>by omega
 | f + 1,l,st,d,k,t,hf,hk,g,hg,h=>by
  obtain⟨g,rfl⟩:∃g',g=g'+1:=⟨g-1,by omega⟩
  rw[wgr]at h ⊢
  split at h
  ·rename_i h0
   rw[if_pos h0];exact h
  ·rename_i h0
   rw[if_neg h0]
   split at h
   ·cases h
   ·rename_i h1
    rw[if_neg h1]
    cases hh:whd (l++t)with
    | error c=>rw[hh]at h;cases h
    | ok x =>
     obtain⟨num,ty,j⟩:=x;rw[hh]at h;have hb:=yo hh;have hgl:l.length+t.length<g+1:=by simpa using hg
     dsimp only at h
     split at h
     ·rename_i h3
      obtain⟨i,hi,rfl⟩:=jp h;have hd:(l++t).drop j=l.drop j++t:=List.drop_append_of_le_length (by omega);rw[Qe hh (by omega)];dsimp only;rw[if_pos h3];rw[hd]at hi;rw[K7 f t (by simp;omega) (by simp;omega) g (by simp;omega) hi];rfl
     ·rename_i h3
      split at h
      ·rename_i h4
       split at h
       ·rename_i h5
        obtain⟨i,hi,rfl⟩:=jp h;have hd:(l++t).drop j=l.drop j++t:=List.drop_append_of_le_length (by omega);rw[Qe hh (by omega)];dsimp only;rw[if_neg h3,if_pos h4,if_pos h5];rw[hd]at hi;rw[K7 f t (by simp;omega) (by simp;omega) g (by simp;omega) hi];rfl
       ·cases h
      ·rename_i h4
       cases hbd:wbd ((l++t).drop j) ty with
       | error c=>rw[hbd]at h;cases h
       | ok y =>
        obtain⟨n,s,m⟩:=y;rw[hbd]at h;dsimp only at h;obtain⟨i,hi,rfl⟩:=jp h;have hd:(l++t).drop j=l.drop j++t:=List.drop_append_of_le_length (by omega);have hd2:(l++t).drop (j+m)=l.drop (j+m)++t:=List.drop_append_of_le_length (by omega);rw[Qe hh (by omega)];dsimp only;rw[if_neg h3,if_neg h4];rw[hd]at hbd;rw[z7p hbd (by simp;omega)];dsimp only;rw[hd2]at hi;have hm1:=(j1 hbd).1;rw[K7 f t (by simp;omega) (by simp;omega) g (by simp;omega) hi];rfl
theorem zfo {l t:List UInt8}{d:Int}{r:Rec}{q:Nat}(h:wnx (l++t) d=.ok (r,q))(hq:q<=l.length):wnx l d=.ok (r,q):=by
 unfold wnx at h ⊢
 cases hh:whd (l++t)with
 | error c=>rw[hh]at h;cases h
 | ok x =>
  obtain⟨num,ty,j⟩:=x;rw[hh]at h;have hb:=yo hh;dsimp only at h
  split at h
  ·cases h
  ·rename_i h4
   split at h
   ·rename_i h3
    cases hg:zk ((l++t).drop j) [num] d with
    | error c=>rw[hg]at h;cases h
    | ok k =>
     rw[hg]at h;dsimp only at h;have hjk:j+k=q:=by simp only[Except.ok.injEq,Prod.mk.injEq]at h;exact h.2
     have hd:(l++t).drop j=l.drop j++t:=List.drop_append_of_le_length (by omega);rw[Qe hh (by omega)];dsimp only;rw[if_neg h4,if_pos h3];rw[hd]at hg;have e:zk (l.drop j) [num] d=.ok k:=K7 _ t (Nat.lt_succ_self _) (by simp;omega) _ (Nat.lt_succ_self _) hg;rw[e];dsimp only;rw[List.take_append_of_le_length (by omega)]at h;exact h
   ·rename_i h3
    cases hbd:wbd ((l++t).drop j) ty with
    | error c=>rw[hbd]at h;cases h
    | ok y =>
     obtain⟨n,s,m⟩:=y;rw[hbd]at h;dsimp only at h;have hjk:j+m=q:=by simp only[Except.ok.injEq,Prod.mk.injEq]at h;exact h.2
     have hd:(l++t).drop j=l.drop j++t:=List.drop_append_of_le_length (by omega);rw[Qe hh (by omega)];dsimp only;rw[if_neg h4,if_neg h3];rw[hd]at hbd;rw[z7p hbd (by simp;omega)];dsimp only;rw[List.take_append_of_le_length (by omega)]at h;exact h
theorem wnx_raw {l:List UInt8}{d:Int}{r:Rec}{q:Nat}(h:wnx l d=.ok (r,q))(u:List UInt8):wnx (r.raw++u) d=.ok (r,r.raw.length):=by
 have hb:=k7 h;have e:l=l.take q++l.drop q:=(List.take_append_drop q l).symm;rw[e]at h;have hl:(l.take q).length=q:=by rw[List.length_take];omega
 have h2:=z2o u (zfo h (by omega));rw[hb.2.2.1,hl];exact h2
theorem zcx {l:List UInt8}{d:Int}{r:Rec}{q:Nat}(h:wnx l d=.ok (r,q)):r.n<2^64/\r.s.length<=q:=by
 unfold wnx at h
 cases hh:whd l with
 | error c=>rw[hh]at h;cases h
 | ok x =>
  obtain⟨num,ty,j⟩:=x;rw[hh]at h;dsimp only at h
  split at h
  ·cases h
  ·split at h
   ·cases hg:zk (l.drop j) [num] d with
    | error c=>rw[hg]at h;cases h
    | ok k =>
     rw[hg]at h
     simp only[Except.ok.injEq,Prod.mk.injEq]at h
     obtain⟨rfl,rfl⟩:=h;exact⟨by show 0<2^64;decide,Nat.zero_le _⟩
   ·cases hbd:wbd (l.drop j) ty with
    | error c=>rw[hbd]at h;cases h
    | ok y =>
     obtain⟨n,s,m⟩:=y;rw[hbd]at h
     simp only[Except.ok.injEq,Prod.mk.injEq]at h
     obtain⟨rfl,rfl⟩:=h;have hb:=j1 hbd;refine⟨?_,by show s.length<=j+m;omega⟩
     show n<2^64
     unfold wbd at hbd
     split at hbd
     ·split at hbd
      ·cases hbd
      ·simp only[Except.ok.injEq,Prod.mk.injEq]at hbd
       have:=Jf ((l.drop j).take 8);rw[hbd.1,List.length_take]at this;have h8:min 8 (l.drop j).length=8:=by omega
       rw[h8]at this;exact this
     ·split at hbd
      ·split at hbd
       ·cases hbd
       ·simp only[Except.ok.injEq,Prod.mk.injEq]at hbd
        have:=Jf ((l.drop j).take 4);rw[hbd.1,List.length_take]at this;have h8:min 4 (l.drop j).length=4:=by omega
        rw[h8]at this;omega
      ·cases hv:wv (l.drop j)with
       | error c=>rw[hv]at hbd;cases hbd
       | ok x =>
        obtain⟨m',j'⟩:=x;rw[hv]at hbd;have hvb:=(yi hv).2.2.2;dsimp only at hbd
        split at hbd
        ·simp only[Except.ok.injEq,Prod.mk.injEq]at hbd
         omega
        ·split at hbd
         ·cases hbd
         ·simp only[Except.ok.injEq,Prod.mk.injEq]at hbd
          omega
def zt (d:Int)(r:Rec):Prop:=∀u,wnx (r.raw++u) d=.ok (r,r.raw.length)
theorem qj {d:Int}{r:Rec}(h:zt d r):r.n<2^64/\r.s.length<=r.raw.length/\2<=r.raw.length/\1<=r.num/\r.num<=536870911/\r.ty<=5:=by
 have h1:=h [];rw[List.append_nil]at h1;have h2:=zcx h1;have h3:=k7 h1;exact⟨h2.1,h2.2,h3.1,h3.2.2.2⟩
theorem xp:∀(n:Nat) {l:List UInt8} {d:Int} {rs:List Rec},l.length<=n->wall l d=.ok rs->∀r∈rs,zt d r
 | n,l,d,rs,hn,h=>by
  rcases K8 h with ⟨_,rfl⟩|⟨r,q,ks,h1,h2,rfl,h4,h5,h6⟩
  ·intro r hr;cases hr
  ·match n,hn with
   | 0,hn=>omega
   | n+1,hn =>
    intro x hx
    rcases List.mem_cons.1 hx with rfl|hx
    ·exact wnx_raw h1
    ·exact xp n (by simp;omega) h2 x hx
theorem X6:∀(rs:List Rec) (d:Int),(∀r∈rs,zt d r)->wall (rs.flatMap Rec.raw) d=.ok rs
 | [],d,_=>K5 d
 | r::rs,d,h=>by
  have h1:=h r (List.mem_cons_self ..) (rs.flatMap Rec.raw);rw[List.flatMap_cons,X9 h1,List.drop_left,X6 rs d (fun x hx=>h x (List.mem_cons_of_mem _ hx))]
theorem Xj {t:List UInt8}{r:Rec}(h:Txt t r)(d:Int):zt d r:=fun u=>by
 have:=txt_wnx h u d;have e:r.raw=t:=h.1;rw[e];exact this
theorem Xq:∀(f:Nat) {l:List UInt8} {st:List Nat} {d d':Int} {k:Nat},d'<=d->wgr f l st d'=.ok k->wgr f l st d=.ok k
 | 0,_,_,_,_,_,_,h=>by cases h
 | f + 1,l,st,d,d',k,hd,h=>by
  rw[wgr]at h ⊢
  split at h
  ·rename_i h0
   rw[if_pos h0];exact h
  ·rename_i h0
   rw[if_neg h0]
   split at h
   ·cases h
   ·rename_i h1
    rw[if_neg (by omega)]
    cases hh:whd l with
    | error c=>rw[hh]at h;cases h
    | ok x =>
     obtain⟨num,ty,j⟩:=x;rw[hh]at h;dsimp only at h ⊢
     split at h
     ·rename_i h3
      rw[if_pos h3];obtain⟨i,hi,rfl⟩:=jp h;rw[Xq f hd hi];rfl
     ·rename_i h3
      rw[if_neg h3]
      split at h
      ·rename_i h4
       rw[if_pos h4]
       split at h
       ·rename_i h5
        rw[if_pos h5];obtain⟨i,hi,rfl⟩:=jp h;rw[Xq f hd hi];rfl
       ·cases h
      ·rename_i h4
       rw[if_neg h4]
       cases hbd:wbd (l.drop j) ty with
       | error c=>rw[hbd]at h;cases h
       | ok y =>
        obtain⟨n,s,m⟩:=y;rw[hbd]at h;dsimp only at h ⊢;obtain⟨i,hi,rfl⟩:=jp h;rw[Xq f hd hi];rfl
theorem za7 {l:List UInt8}{d d':Int}{x:Rec × Nat}(hd:d'<=d)(h:wnx l d'=.ok x):wnx l d=.ok x:=by
 unfold wnx at h ⊢
 cases hh:whd l with
 | error c=>rw[hh]at h;cases h
 | ok y =>
  obtain⟨num,ty,j⟩:=y;rw[hh]at h;dsimp only at h ⊢
  split at h
  ·cases h
  ·rename_i h4
   rw[if_neg h4]
   split at h
   ·rename_i h3
    rw[if_pos h3]
    cases hg:zk (l.drop j) [num] d' with
    | error c=>rw[hg]at h;cases h
    | ok k =>
     rw[hg]at h;have e:zk (l.drop j) [num] d=.ok k:=Xq _ hd hg;rw[e];exact h
   ·rename_i h3
    rw[if_neg h3];exact h
theorem z1l:∀(n:Nat) {l:List UInt8} {d d':Int} {rs:List Rec},d'<=d->l.length<=n->wall l d'=.ok rs->wall l d=.ok rs
 | n,l,d,d',rs,hd,hn,h=>by
  rcases K8 h with ⟨rfl,rfl⟩|⟨r,q,ks,h1,h2,rfl,h4,h5,h6⟩
  ·exact K5 d
  ·match n,hn with
   | 0,hn=>omega
   | n+1,hn =>
    rw[X9 (za7 hd h1),z1l n hd (by simp;omega) h2]
def zg {σ:Type}(tk:Rec->Bool)(step:σ->Rec->Except Nat σ):σ->List Rec->Except Nat σ
 | st,[] => .ok st
 | st,r::rs=>if tk r then(match step st r with
  | .error c => .error c
  | .ok st'=>zg tk step st' rs)else zg tk step st rs
def q7 (tk:Rec->Bool)(rs:List Rec):List Rec:=rs.filter fun r=>!tk r
def munk (tk:Rec->Bool)(rs:List Rec):List UInt8:=(q7 tk rs).flatMap Rec.raw
def zq {σ:Type}(tk:Rec->Bool)(step:σ->Rec->Except Nat σ)(st:σ)(l:List UInt8)(d:Int):Except Nat (σ × List UInt8) :=
 if d<0 then .error 6 else match wall l d with
  | .error c => .error c
  | .ok rs=>match zg tk step st rs with
   | .error c => .error c
   | .ok st' => .ok (st',munk tk rs)
def zp (tk:Rec->Bool)(l:List UInt8)(d:Int):Bool:=match wall l d with
 | .error _=>false
 | .ok rs=>rs.all fun r=>!tk r
theorem Xy (tk:Rec->Bool):∀(rs:List Rec),(munk tk rs).length<=(rs.flatMap Rec.raw).length
 | []=>by simp[munk,q7]
 | r::rs=>by
  have:=Xy tk rs;unfold munk q7 at this ⊢
  rw[List.filter_cons,List.flatMap_cons,List.length_append]
  split
  ·rw[List.flatMap_cons,List.length_append];omega
  ·omega
theorem yr {σ:Type}(tk:Rec->Bool)(step:σ->Rec->Except Nat σ):∀(rs ts:List Rec) (st:σ),zg tk step st (rs++ts)=match zg tk step st rs with
  | .error c => .error c
  | .ok st'=>zg tk step st' ts
 | [],ts,st=>rfl
 | r::rs,ts,st=>by
  simp only[List.cons_append,zg]
  split
  ·cases step st r with
   | error c=>rfl
   | ok st'=>exact yr tk step rs ts st'
  ·exact yr tk step rs ts st
theorem z8g (tk:Rec->Bool)(rs ts:List Rec):munk tk (rs++ts)=munk tk rs++munk tk ts:=by simp[munk,q7]
theorem z2g {σ:Type}(tk:Rec->Bool)(step:σ->Rec->Except Nat σ):∀(rs:List Rec) (st:σ),(rs.all fun r=>!tk r)=true->zg tk step st rs=.ok st
 | [],st,_=>rfl
 | r::rs,st,h=>by
  simp only[List.all_cons,Bool.and_eq_true,Bool.not_eq_true']at h
  rw[zg,if_neg (by rw[h.1];simp)];exact z2g tk step rs st h.2
theorem zci (tk:Rec->Bool)(rs:List Rec):((q7 tk rs).all fun r=>!tk r)=true:=by
 rw[List.all_eq_true];intro r hr;exact(List.mem_filter.1 hr).2
theorem zft {tk:Rec->Bool}{rs:List Rec}(h:(rs.all fun r=>!tk r)=true):q7 tk rs=rs:=by
 rw[List.all_eq_true]at h;exact List.filter_eq_self.2 h
theorem munk_ok {tk:Rec->Bool}{l:List UInt8}{d:Int}{rs:List Rec}(h:wall l d=.ok rs):zp tk (munk tk rs) d=true:=by
 have h1:=xp _ (Nat.le_refl _) h;have h2:=X6 (q7 tk rs) d (fun r hr=>h1 r (List.mem_filter.1 hr).1);unfold zp munk;rw[h2];exact zci tk rs
theorem z5i {σ:Type}{tk:Rec->Bool}{step:σ->Rec->Except Nat σ}{st st':σ}{rs:List Rec}{u:List UInt8}{d:Int}(hd:0<=d)(h:∀r∈rs,∀d,zt d r)(hf:zg tk step st rs=.ok st')(hk:(rs.all fun r=>tk r)=true) :
  zq tk step st (rs.flatMap Rec.raw++u) d=match wall u d with
   | .error c => .error c
   | .ok us=>match zg tk step st' us with
    | .error c => .error c
    | .ok st'' => .ok (st'',munk tk us):=by
 have h1:=X6 rs d (fun r hr=>h r hr d);unfold zq;rw[if_neg (by omega),J3 _ u (Nat.le_refl _) h1]
 cases wall u d with
 | error c=>rfl
 | ok us =>
  dsimp only;rw[yr,hf];dsimp only
  cases zg tk step st' us with
  | error c=>rfl
  | ok st'' =>
   dsimp only
   have e:munk tk rs=[]:=by
    unfold munk q7;rw[List.filter_eq_nil_iff.2 (fun r hr=>by have:=List.all_eq_true.1 hk r hr;simp[this])]
    rfl
   rw[z8g,e,List.nil_append]
theorem jl {σ:Type}{tk:Rec->Bool}{step:σ->Rec->Except Nat σ}{st st':σ}{rs:List Rec}{u:List UInt8}{d:Int}(hd:0<=d)(h:∀r∈rs,∀d,zt d r)(hf:zg tk step st rs=.ok st')(hk:(rs.all fun r=>tk r)=true)(hu:zp tk u d=true) :
  zq tk step st (rs.flatMap Rec.raw++u) d=.ok (st',u):=by
 rw[z5i hd h hf hk];unfold zp at hu
 cases hw:wall u d with
 | error c=>rw[hw]at hu;cases hu
 | ok us =>
  rw[hw]at hu;dsimp only at hu ⊢;rw[z2g tk step us st' hu];dsimp only;unfold munk;rw[zft hu,(xh _ (Nat.le_refl _) hw).1]
theorem kh {σ:Type}{tk:Rec->Bool}{step:σ->Rec->Except Nat σ}{st st':σ}{rs:List Rec}{u:List UInt8}{d d':Int}(h:∀r∈rs,∀d,zt d r)(hf:zg tk step st rs=.ok st')(hk:(rs.all fun r=>tk r)=true)(hu:zp tk u d=true)(hle:d'<=d)(hn:d' < 0∨zp tk u d'=false) :
  ∃c,zq tk step st (rs.flatMap Rec.raw++u) d'=.error c:=by
 by_cases h0:d' < 0
 ·exact⟨6,by unfold zq;rw[if_pos h0]⟩
 ·have hn2:zp tk u d'=false:=by rcases hn with hn|hn;exact absurd hn h0;exact hn
  rw[z5i (by omega) h hf hk];unfold zp at hn2 hu
  cases hw:wall u d' with
  | error c=>exact⟨c,rfl⟩
  | ok us =>
   exfalso
   rw[hw]at hn2;have h2:=z1l _ hle (Nat.le_refl _) hw;rw[h2]at hu;dsimp only at hn2 hu;rw[hn2]at hu
   cases hu
end Go.Proofs.YtmlghmjjlpioeaaGreatDoor
