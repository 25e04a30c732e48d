/-
  FmB, Row
-/
import Derived.Test.YtmlghmjjlpioeaaFmA
import Derived.Test.YtmlghmjjlpioeaaValTake
import Derived.Test.YtmlghmjjlpioeaaBukWrite
import Derived.Test.YtmlghmjjlpioeaaUpd
import Derived.Deep.Cut
import Derived.Deep.MidRow
import Derived.Laws.Tables
import Derived.Laws.CopyOwn
import Derived.Deep.WholeRow
import Derived.Test.YtmlghmjjlpioeaaMsgMath
import Derived.Test.YtmlghmjjlpioeaaMsgWrite
import Derived.Deep.Strs
import Derived.IntWalk
import Derived.Test.YtmlghmjjlpioeaaOrd
import Derived.Test.YtmlghmjjlpioeaaFnl
import Derived.Test.YtmlghmjjlpioeaaKit
import Derived.ProofKit
import Derived.OpenShut
import Derived.JoinedCond
import Derived.SizedLaws
import Derived.Carry
namespace Go.Proofs.Ytmlghmjjlpioeaa.Fm
def K (S j m:Nat):Prop:=m<2^64∧m=stk (1024*S) j∧(2^61≤m∨m*2^j=1024*S)
theorem K.place {S j m:Nat}(h:K S j m)(hS:0<S):0<m∧rk S=m.log2+j - 62:=by
 obtain ⟨h1,h2,h3⟩:=h
 have hm:0<m:=by
  have:=stk_spec (1024*S) j 0
  simp at this
  omega
 refine ⟨hm,?_⟩
 have a:2^m.log2≤m:=Nat.log2_self_le (by omega)
 have b:m<2^(m.log2+1):=Nat.lt_log2_self
 have bnd:∀ t,(2^(t+1)≤m→2^(t+1)*2^j≤1024*S)∧(m<2^(t+1)→1024*S<2^(t+1)*2^j):=by
  intro t
  have e:2^(t+1)=2*2^t:=by rw[Nat.mul_comm,←Nat.pow_succ]
  have g1:=stk_ge (x:=1024*S) (j:=j) (t:=2^t)
  have g2:=(stk_spec (1024*S) j).gt (2^t)
  rw[←h2,←e] at g1 g2
  exact ⟨g1.1,g2.1⟩
 have hi:=(bnd m.log2).2 b
 have lo:2^m.log2 * 2^j≤1024*S:=by
  rcases Nat.eq_zero_or_pos m.log2 with hz|hz
  ·rcases h3 with h3|h3
   ·rw[hz] at b;omega
   ·rw[←h3];exact Nat.mul_le_mul_right _ a
  ·have:=(bnd (m.log2-1)).1 (by rw[show m.log2 - 1+1=m.log2 by omega];exact a)
   rwa [show m.log2 - 1+1=m.log2 by omega] at this
 rw[←Nat.pow_add] at hi lo
 refine rk_eq ?_ ?_
 ·rcases Nat.lt_or_ge 62 (m.log2+j) with h4|h4
  ·right
   have e:2^(m.log2+j)=1024 * 2^(52+(m.log2+j - 62)):=by
    rw[show (1024:Nat)=2^10 from rfl,←Nat.pow_add];congr 1;omega
   omega
  ·left;omega
 ·have e:2^(m.log2+1+j)≤1024 * 2^(53+(m.log2+j - 62)):=by
   rw[show (1024:Nat)=2^10 from rfl,←Nat.pow_add]
   exact Nat.pow_le_pow_right (by decide) (by omega)
  omega
theorem K.right {S j m:Nat}(h:K S j m)(hS:0<S){s:Nat}(hs:0<s)(he:s+j=rk S+10):g (stk (4*m) s)=rne S (rk S):=by
 obtain ⟨hm,hk⟩:=h.place hS
 obtain ⟨h1,h2,h3⟩:=h
 unfold rne
 rcases h3 with h3|h3
 ·have h5:61≤m.log2:=(Nat.le_log2 (by omega)).2 h3
  have e1:stk (4*m) s=stk m (s-2):=by
   have:=stk_mul m 2 (s-2)
   rw[show s - 2+2=s by omega] at this
   rw[←this];congr 1;omega
  rw[e1,h2,stk_stk]
  have e2:=stk_mul (4*S) 8 (rk S)
  rw[←e2]
  congr 2<;>omega
 ·have e1:=stk_mul (4*m) j s
  rw[←e1,Nat.mul_assoc,h3]
  have e2:=stk_mul (4*S) 10 (rk S)
  rw[←e2]
  congr 2<;>omega
theorem K.left {S j m:Nat}(h:K S j m)(hS:0<S){s:Nat}(he:j=rk S+10+s):m * 2^s=rne S (rk S):=by
 obtain ⟨hm,hk⟩:=h.place hS
 obtain ⟨h1,h2,h3⟩:=h
 rcases h3 with h3|h3
 ·have h5:61≤m.log2:=(Nat.le_log2 (by omega)).2 h3
  omega
 ·symm
  refine rne_exact ?_
  rw[he,Nat.add_assoc,Nat.add_comm,Nat.pow_add,Nat.pow_add] at h3
  have:m * 2^s * 2^rk S * 2^10=S * 2^10:=by
   rw[Nat.mul_comm S,show (2:Nat)^10=1024 from rfl,←h3]
   simp[Nat.mul_assoc,Nat.mul_comm,Nat.mul_left_comm]
  exact (Nat.eq_of_mul_eq_mul_right (by decide) this).symm
theorem rne_rk (S:Nat):rne S (rk S)≤2^53∧(rk S=0∨2^52≤rne S (rk S)):=by
 have h:=rk_spec S
 exact ⟨rne_le h.2,h.1.imp id rne_ge⟩
theorem ref_small {S:Nat}(h:rne S (rk S)<2^52):rnd S=rne S (rk S):=by
 have:=rne_rk S
 unfold rnd inf
 have h0:rk S=0:=by omega
 rw[h0] at h ⊢
 omega
theorem ref_great {S:Nat}(h:rne S (rk S)=2^53):rnd S=if 2047≤rk S+2 then 2047*2^52 else (rk S+2)*2^52:=by
 unfold rnd inf
 rw[h]
 split<;>omega
theorem ref_mid {S:Nat}(h:rne S (rk S)<2^53)(h':2^52≤rne S (rk S)):rnd S=if 2047≤rk S+1 then 2047*2^52 else (rk S+1)*2^52+rne S (rk S) % 2^52:=by
 unfold rnd inf
 split<;>omega
end Go.Proofs.Ytmlghmjjlpioeaa.Fm
namespace Go.Proofs.Ytmlghmjjlpioeaa
open Go.RowKit
open Lib (hid)
def bkz (x:Bk × List UInt8):Bool:=decide (x.1.off=0)&&(x.1.cs.isEmpty&&x.2.isEmpty)
open Go.ChangeShapes Go.WideShapes Go.ChangeAt Go.RowKit
theorem trodAll_below {H:Type}{enc:TypeId × Value→H}{P:Program}(hl:laidOutB P=true){W W':World}(hb:Below W.heap.size W W') :
  ∀ {ts:List TypeId} {vs:List Value} {ds:List (DataW H)} {ps:List MemPlace},(∀ t∈ts,P.readableRec t=true∧t<P.types.size) →
   DataW.TrodAll enc P W 0 (fun _=>true) true ts vs ds ps→(∀ x∈ps,x.block<W.heap.size)→DataW.TrodAll enc P W' 0 (fun b=>decide (b<W.heap.size)) true ts vs ds ps
 | [],[],[],_,_,h,_=>h
 | t::ts,v::vs,d::ds,ps,hr,h,hlt=>by
  obtain ⟨p,q,h1,h2,rfl⟩:=h
  exact ⟨p,q,Below.trod hl (hr t (by simp)).1 (hr t (by simp)).2 h1 hb (fun x hx=>hlt x (by simp[hx])),
   trodAll_below hl hb (fun u hu=>hr u (by simp[hu])) h2 (fun x hx=>hlt x (by simp[hx])),rfl⟩
 | [],_::_,_,_,_,h,_=>h.elim
 | [],[],_::_,_,_,h,_=>h.elim
 | _::_,[],_,_,_,h,_=>h.elim
 | _::_,_::_,[],_,_,h,_=>h.elim
theorem law_post {H:Type} {enc:TypeId × Value→H} {P:Program} {f:Func} {spec:ChangeSpec} {B:TypeId} {W W':World} {args:Array Value} {ds gs:List (DataW H)} {before:List MemPlace}
  (hl:laidOutB P=true) (hr:f.params.toList.all (fun t=>P.readableRec t&&decide (t<P.types.size))=true) (hres:f.resultTypes=#[B]) (hB:P.underlying B=some .bool) (hv:spec.vars=[])
  (hW:DataW.Whole enc P f.params.toList spec.vars false W args.toList ds gs before) (hfn:∀ ds,ds.length=f.params.size→spec.fn H ds={ results:=[.lit (.bool true)],args:=ds })
  (hb:Below W.heap.size W W'):spec.post enc P f false true false false W args (.bool true) W':=by
 have hW0:=hW
 obtain ⟨p,q,hA,hV,rfl,_,_⟩:=hW
 have hgs:gs=[]∧q=[]:=by
  rw[hv] at hV
  cases gs with
  | nil=>exact ⟨rfl,hV⟩
  | cons g r=>exact hV.elim
 obtain ⟨rfl,rfl⟩:=hgs
 have hlen:∀ {ts:List TypeId} {vs:List Value} {ds:List (DataW H)} {ps:List MemPlace},DataW.TrodAll enc P W 0 (fun _=>true) true ts vs ds ps→ds.length=ts.length:=by
  intro ts
  induction ts with
  | nil=>intro vs ds ps h;cases vs<;>cases ds<;>first|rfl|exact h.elim
  | cons t ts ih=>intro vs ds ps h;cases vs<;>cases ds<;>first|exact h.elim|(obtain ⟨_,_,_,h2,_⟩:=h;simp[ih h2])
 have hd:ds.length=f.params.size:=by rw[hlen hA];simp
 have e:=hfn ds hd
 have hr':∀ t∈f.params.toList,P.readableRec t=true∧t<P.types.size:=fun t ht=>by
  have:=List.all_eq_true.1 hr t ht
  simpa using this
 refine ⟨ds,[],p++[],[],p,[],hW0,?_,?_,?_,hb.frame _,fun h=>by cases h⟩
 ·rw[List.append_nil,e,hres];exact trodAll_mk1 (shut_bool hB true)
 ·rw[List.append_nil,e];exact trodAll_below hl hb hr' hA (fun x hx=>by simpa using hW0.lt x (by simpa using hx))
 ·rw[List.append_nil,e,hv];rfl
end Go.Proofs.Ytmlghmjjlpioeaa
