/-
  A region that draws its order: loads and arithmetic are taken first, under what holds in every world on the way; the calls, allocations and stores come up one at a time. In an order that is given. (Over Derived.OrdersHeld; a guard that says no is borne.)
-/
import Derived.OrdersHeld
import Derived.Deep.RegionHeld3
import Derived.Test.YtmlghmjjlpioeaaGreatDoorErrNew
import Derived.Deep.LoopGhost
namespace Go.Proofs.YtmlghmjjlpioeaaGreatDoor
open Go.RowKit
open Lib (hid)
section
variable {P:Program} {ops:Array Oper} {Q:Exit->Act->World->Prop} {S:World->Prop}
def Kf (ops:Array Oper):List (Nat × Bool)->Array Bool->Bool
 | [],listed=>(Region.ready .any ops listed).isEmpty
 | (i,true)::r,listed=>Region.free .any ops listed i&&(Region.ready .any ops listed).contains i&&Kf ops r (listed.setIfInBounds i true)
 | (i,false)::r,listed=>decide (Region.ready .any ops listed=[i])&&Kf ops r (listed.setIfInBounds i true)
def z49 (P:Program)(ops:Array Oper)(S:World->Prop)(o:Oper)(a:Act)(K:Act->Prop):Prop :=
 ∃v,(if Region.wanted o (yielded ops a.tmps)then ∀t:{ x:World // S x },(execOp a.eval o).run P t.1=.ok (.value v) t.1 else v=undef)/\K (a.put o.dst v)
def jq (P:Program)(ops:Array Oper)(Q:Exit->Act->World->Prop)(o:Oper)(a:Act)(w:World)(K:Act->World->Prop):Prop :=
 if Region.wanted o (yielded ops a.tmps)then o.wp P a w K Q else K (a.put o.dst undef) w
def Xr (P:Program)(ops:Array Oper)(Q:Exit->Act->World->Prop)(S:World->Prop):List (Nat × Bool)->Act->World->Prop
 | [],a,w=>Q .normal a w
 | (i,true)::r,a,w=>∃o,ops[i]?=some o/\z49 P ops S o a (fun a'=>Xr P ops Q S r a' w)
 | (i,false)::r,a,w=>∃o,ops[i]?=some o/\jq P ops Q o a w (fun a' w'=>S w'/\Xr P ops Q S r a' w')
theorem Zz (hsel:Region.noSelect ops=true)(hQ:∀c a d v w,Q (.panic c) (a.put d v) w->Q (.panic c) a w):∀(ord:List (Nat × Bool)) (listed:Array Bool) (a:Act) (w:World),
  Kf ops ord listed=true->S w->Xr P ops Q S ord a w->wpAnyH P .any ops Q S ord.length listed a w
 | [],listed,a,w,hB,_,h=>wpAnyH_done (by simpa [Kf,List.isEmpty_iff] using hB) h _
 | (i,true)::r,listed,a,w,hB,hS,h=>by
  simp only[Kf,Bool.and_eq_true]at hB
  obtain⟨⟨hf,hr⟩,hB'⟩:=hB;obtain⟨o,ho,v,hv,hn⟩:=h;refine wpAnyH_take ho hsel hf hr (fun c a w=>hQ c a _ _ w) (v:=v) ?_ hS (Zz hsel hQ r _ _ w hB' hS hn)
  split at hv
  ·rename_i hw;exact .inl ⟨hw,fun w hw'=>hv ⟨w,hw'⟩⟩
  ·rename_i hw;exact .inr ⟨by simpa using hw,hv⟩
 | (i,false)::r,listed,a,w,hB,hS,h=>by
  simp only[Kf,Bool.and_eq_true,decide_eq_true_eq]at hB
  obtain⟨hr,hB'⟩:=hB;obtain⟨o,ho,hc⟩:=h;refine wpAnyH_all hr (by simp) fun j hj=>?_
  obtain rfl:=List.mem_singleton.1 hj;unfold wpOp
  simp only[ho]
  unfold jq at hc
  split
  ·rename_i hw
   rw[if_pos hw]at hc;exact .inl (Oper.wp_mono (fun a' w' ⟨h1,h2⟩=>⟨h1,Zz hsel hQ r _ a' w' hB' h1 h2⟩) hc)
  ·rename_i hw
   rw[if_neg hw]at hc;exact⟨hc.1,Zz hsel hQ r _ _ w hB' hc.1 hc.2⟩
theorem zj {id:Nat} {a:Act} {w:World} {l:List Oper} (ord:List (Nat × Bool)) (hm:P.follows .mixedOrders=true) (hsel:Region.noSelect l.toArray=true) (hlen:ord.length=l.toArray.size)
  (hB:Kf l.toArray ord (Array.replicate l.toArray.size false)=true) (hS:S w.drew)
  (h:Xr P l.toArray (NoPanic Q) S ord a w.drew):(Code.region id l.toArray true).wp P Q a w:=by
 refine wp_region_noPanic (wp_region_held (S:=S) hm ?_);have:=Zz hsel (fun _ _ _ _ _ h=>(h:False).elim) ord _ a w.drew hB hS h;rw[hlen]at this;exact this
theorem zf {i:Nat} {r:List (Nat × Bool)} {a:Act} {w:World} (o:Oper) (ho:ops[i]?=some o)
  (h:∀K:Act->Prop,(∀a',Xr P ops Q S r a' w->K a')->∃v,(if Region.wanted o (yielded ops a.tmps)then ∀t:{ x:World // S x },(execOp a.eval o).run P t.1=.ok (.value v) t.1 else v=undef)/\K (a.put o.dst v)):Xr P ops Q S ((i,true)::r) a w :=
 ⟨o,ho,h _ (fun _ h=>h)⟩
theorem zo {i:Nat} {r:List (Nat × Bool)} {a:Act} {w:World} (o:Oper) (ho:ops[i]?=some o)
  (h:∀K:Act->World->Prop,Hid (∀a' w',S w'->Xr P ops Q S r a' w'->K a' w')->if Region.wanted o (yielded ops a.tmps)then o.wp P a w K Q else K (a.put o.dst undef) w):Xr P ops Q S ((i,false)::r) a w :=
 ⟨o,ho,h _ (hid fun _ _ h1 h2=>⟨h1,h2⟩)⟩
theorem zw {a:Act}{w:World}(h:Q .normal a w):Xr P ops (NoPanic Q) S [] a w:=h
end
open Go.RowKit
section
variable {P:Program} {ops:Array Oper} {Q:Exit->Act->World->Prop}
end
open Go.RowKit
section
variable {P:Program} {md:Region.Mode} {ops:Array Oper} {Q:Exit->Act->World->Prop} {S:World->Prop} {bs:List Nat}
def Jl (P:Program)(md:Region.Mode)(ops:Array Oper)(Q:Exit->Act->World->Prop)(S:World->Prop)(bs:List Nat):Nat->Array Bool->Act->World->Prop
 | 0,listed,a,w=>Region.ready md ops listed=[]/\Q .normal a w
 | fuel+1,listed,a,w =>
  (Region.ready md ops listed=[]->Q .normal a w) /\
  ∀i∈Region.ready md ops listed,wpOp P ops Q i (fun a' w'=>(bs.contains i=false->S w')/\Jl P md ops Q S bs fuel (listed.setIfInBounds i true) a' w') a w
theorem z2u:∀(fuel:Nat) (listed:Array Bool) (a:Act) (w:World),Jl P md ops Q S bs fuel listed a w->wpAny P md ops Q fuel listed a w
 | 0,_,_,_,h=>h
 | fuel+1,_,_,_,h=>⟨h.1,fun i hi=>wpOp_mono (fun a' w' h'=>z2u fuel _ a' w' h'.2) (h.2 i hi)⟩
theorem z6o {i:Nat} {oi:Oper} {v:Value} (hi:ops[i]?=some oi) (hsel:∀(j:Nat) (o:Oper) cs b,ops[j]?=some o->o.op ≠ .select cs b)
  (hQ:∀c a w,Q (.panic c) (a.put oi.dst v) w->Q (.panic c) a w)
  (hbs:∀(j:Nat) (oj:Oper),ops[j]?=some oj->bs.contains j=true->∃e∈oj.after,Region.binds md e=true/\e.on=i) :
  ∀ (fuel:Nat) (listed:Array Bool) (a:Act) (w:World),
   (∀j oj,ops[j]?=some oj->j≠i->listed.getD j true=false->(∀e∈oj.after,Region.binds md e=true->e.on≠i)->oi.apart ops oj=true) ->
   i∈Region.ready md ops listed->YieldsIf P ops S oi v a->S w ->
   Jl P md ops Q S bs fuel (listed.setIfInBounds i true) (a.put oi.dst v) w->Jl P md ops Q S bs (fuel+1) listed a w:=by
 intro fuel
 induction fuel with
 | zero =>
  intro listed a w _ hr hy hS H;refine⟨fun h=>(by rw[h]at hr;cases hr),fun j hj=>?_⟩
  by_cases hji:j=i
  ·subst hji;exact hy.wpOp hi hS ⟨fun _=>hS,H⟩
  ·have:=ready_mono hj hji
   rw[H.1]at this
   cases this
 | succ fuel ih =>
  intro listed a w hfree hr hy hS H;refine⟨fun h=>(by rw[h]at hr;cases hr),fun j hj=>?_⟩
  by_cases hji:j=i
  ·subst hji;exact hy.wpOp hi hS ⟨fun _=>hS,H⟩
  ·have h1:=H.2 j (ready_mono hj hji)
   obtain⟨hjun,oj,hoj,hall⟩:=mem_ready.1 hj
   have hnot:∀e∈oj.after,Region.binds md e=true->e.on≠i:=fun e he hb heq=>by
    have h1:=hall e he hb;have h0:=(mem_ready.1 hr).1;rw[heq]at h1
    rcases Nat.lt_or_ge i listed.size with h'|h'
    ·simp[h']at h0 h1;rw[h0]at h1;cases h1
    ·simp[Array.getElem?_eq_none h']at h1
   have hnb:bs.contains j=false:=by
    cases hb:bs.contains j with
    | false=>rfl
    | true =>
     obtain⟨e,he,h2,h3⟩:=hbs j oj hoj hb;exact absurd h3 (hnot e he h2)
   have h2:=wpOp_putIf hoj (hfree j oj hoj hji hjun hnot) (fun cs b=>hsel i oi cs b hi) (fun cs b=>hsel j oj cs b hoj) hQ hy h1
   have hfree':∀k ok,ops[k]?=some ok->k≠i->(listed.setIfInBounds j true).getD k true=false ->
     (∀e∈ok.after,Region.binds md e=true->e.on≠i)->oi.apart ops ok=true:=fun k ok hk hki hun hno=>by
    refine hfree k ok hk hki ?_ hno
    by_cases hjk:j=k
    ·subst hjk;exact hjun
    ·rw[getD_set_ne true hjk]at hun;exact hun
   refine wpOp_mono (fun a' w' h3=>⟨h3.2.1,ih (listed.setIfInBounds j true) a' w' hfree' (ready_mono hr (Ne.symm hji)) h3.1 (h3.2.1 hnb) ?_⟩) h2;rw[Array.setIfInBounds_comm _ _ hji];exact h3.2.2
theorem z89 {listed:Array Bool}{a:Act}{w:World}(hr:Region.ready md ops listed=[])(h:Q .normal a w) :
  ∀fuel,Jl P md ops Q S bs fuel listed a w
 | 0=>⟨hr,h⟩
 | _+1=>⟨fun _=>h,by rw[hr];simp⟩
def waitB (ops:Array Oper)(bs:List Nat)(i:Nat):Bool:=bs.all fun j=>match ops[j]? with
 | some o=>o.after.any fun e=>Region.binds .any e&&e.on == i
 | none=>true
theorem za6 {i:Nat}(h:waitB ops bs i=true)(j:Nat)(oj:Oper)(hj:ops[j]?=some oj)(hb:bs.contains j=true):∃e∈oj.after,Region.binds .any e=true/\e.on=i:=by
 have:=List.all_eq_true.1 h j (by simpa using hb);rw[hj]at this;obtain⟨e,he,h2⟩:=Array.any_eq_true'.1 this
 simp only[Bool.and_eq_true,beq_iff_eq]at h2
 exact⟨e,he,h2.1,h2.2⟩
def Qf (ops:Array Oper)(bs:List Nat):List (Nat × Bool)->Array Bool->Bool
 | [],listed=>(Region.ready .any ops listed).isEmpty
 | (i,true)::r,listed=>Region.free .any ops listed i&&(Region.ready .any ops listed).contains i&&waitB ops bs i&&Qf ops bs r (listed.setIfInBounds i true)
 | (i,false)::r,listed=>decide (Region.ready .any ops listed=[i])&&Qf ops bs r (listed.setIfInBounds i true)
def Za (P:Program)(ops:Array Oper)(Q:Exit->Act->World->Prop)(S:World->Prop)(bs:List Nat):List (Nat × Bool)->Act->World->Prop
 | [],a,w=>Q .normal a w
 | (i,true)::r,a,w=>S w/\∃o,ops[i]?=some o/\z49 P ops S o a (fun a'=>Za P ops Q S bs r a' w)
 | (i,false)::r,a,w=>∃o,ops[i]?=some o/\jq P ops Q o a w (fun a' w'=>(bs.contains i=false->S w')/\Za P ops Q S bs r a' w')
theorem Y1 (hsel:Region.noSelect ops=true)(hQ:∀c a d v w,Q (.panic c) (a.put d v) w->Q (.panic c) a w):∀(ord:List (Nat × Bool)) (listed:Array Bool) (a:Act) (w:World),
  Qf ops bs ord listed=true->Za P ops Q S bs ord a w->Jl P .any ops Q S bs ord.length listed a w
 | [],listed,a,w,hB,h=>z89 (by simpa [Qf,List.isEmpty_iff] using hB) h _
 | (i,true)::r,listed,a,w,hB,h=>by
  simp only[Qf,Bool.and_eq_true]at hB
  obtain⟨⟨⟨hf,hr⟩,hw⟩,hB'⟩:=hB;obtain⟨hS,o,ho,v,hv,hn⟩:=h;refine z6o ho (Region.noSelect_spec hsel) (fun c a w=>hQ c a _ _ w) (za6 hw) _ listed a w (v:=v) (Region.free_spec ho hf) (by simpa using hr) ?_ hS (Y1 hsel hQ r _ _ w hB' hn)
  split at hv
  ·rename_i hw;exact .inl ⟨hw,fun w hw'=>hv ⟨w,hw'⟩⟩
  ·rename_i hw;exact .inr ⟨by simpa using hw,hv⟩
 | (i,false)::r,listed,a,w,hB,h=>by
  simp only[Qf,Bool.and_eq_true,decide_eq_true_eq]at hB
  obtain⟨hr,hB'⟩:=hB;obtain⟨o,ho,hc⟩:=h;refine⟨fun h0=>absurd (hr ▸ h0) (by simp),fun j hj=>?_⟩;rw[hr]at hj;obtain rfl:=List.mem_singleton.1 hj;unfold wpOp
  simp only[ho]
  unfold jq at hc
  split
  ·rename_i hw
   rw[if_pos hw]at hc;exact .inl (Oper.wp_mono (fun a' w' ⟨h1,h2⟩=>⟨h1,Y1 hsel hQ r _ a' w' hB' h2⟩) hc)
  ·rename_i hw
   rw[if_neg hw]at hc;exact⟨hc.1,Y1 hsel hQ r _ _ w hB' hc.2⟩
theorem Zl {id:Nat} {a:Act} {w:World} {l:List Oper} (S:World->Prop) (bs:List Nat) (ord:List (Nat × Bool)) (hm:P.follows .mixedOrders=true) (hsel:Region.noSelect l.toArray=true) (hlen:ord.length=l.toArray.size)
  (hB:Qf l.toArray bs ord (Array.replicate l.toArray.size false)=true)
  (h:Za P l.toArray (NoPanic Q) S bs ord a w.drew):(Code.region id l.toArray true).wp P Q a w:=by
 refine wp_region_noPanic (wp_region_any hm (z2u (S:=S) (bs:=bs) _ _ _ _ ?_));have:=Y1 (S:=S) hsel (fun _ _ _ _ _ h=>(h:False).elim) ord _ a w.drew hB h;rw[hlen]at this;exact this
theorem X7 {i:Nat} {r:List (Nat × Bool)} {a:Act} {w:World} (o:Oper) (ho:ops[i]?=some o) (hS:S w)
  (h:∀K:Act->Prop,(∀a',Za P ops Q S bs r a' w->K a')->∃v,(if Region.wanted o (yielded ops a.tmps)then ∀t:{ x:World // S x },(execOp a.eval o).run P t.1=.ok (.value v) t.1 else v=undef)/\K (a.put o.dst v)):Za P ops Q S bs ((i,true)::r) a w :=
 ⟨hS,o,ho,h _ (fun _ h=>h)⟩
theorem Yc {i:Nat} {r:List (Nat × Bool)} {a:Act} {w:World} (o:Oper) (ho:ops[i]?=some o)
  (h:∀K:Act->World->Prop,Hid (∀a' w',(bs.contains i=false->S w')->Za P ops Q S bs r a' w'->K a' w')->if Region.wanted o (yielded ops a.tmps)then o.wp P a w K Q else K (a.put o.dst undef) w):Za P ops Q S bs ((i,false)::r) a w :=
 ⟨o,ho,h _ (hid fun _ _ h1 h2=>⟨h1,h2⟩)⟩
theorem seqB_wp {i:Nat} {r:List (Nat × Bool)} {a:Act} {w:World} (o:Oper) (ho:ops[i]?=some o) (hg:o.guard=none)
  (h:∀K:Act->World->Prop,Hid (∀a' w',(bs.contains i=false->S w')->Za P ops Q S bs r a' w'->K a' w')->o.wp P a w K Q):Za P ops Q S bs ((i,false)::r) a w :=
 Yc o ho fun K hK=>by rw[if_pos (by simp[Region.wanted,hg])];exact h K hK
theorem Qv {a:Act}{w:World}(h:Q .normal a w):Za P ops (NoPanic Q) S bs [] a w:=h
end
open Go.RowKit
section
variable {P:Program} {ops:Array Oper} {Q:Exit->Act->World->Prop} {S:World->Prop}
inductive Zp where
 | done
 | take (i:Nat) (t:Zp)
 | come (i:Nat) (t:Zp)
 | two (i j:Nat) (t1 t2:Zp)
def Zp.len:Zp->Nat
 | .done=>0
 | .take _ t=>t.len+1
 | .come _ t=>t.len+1
 | .two _ _ t1 _=>t1.len+1
def Zv (ops:Array Oper):Zp->Array Bool->Bool
 | .done,listed=>(Region.ready .any ops listed).isEmpty
 | .take i t,listed=>Region.free .any ops listed i&&(Region.ready .any ops listed).contains i&&Zv ops t (listed.setIfInBounds i true)
 | .come i t,listed=>decide (Region.ready .any ops listed=[i])&&Zv ops t (listed.setIfInBounds i true)
 | .two i j t1 t2,listed=>decide (Region.ready .any ops listed=[i,j])&&decide (t1.len=t2.len)&&Zv ops t1 (listed.setIfInBounds i true)&&Zv ops t2 (listed.setIfInBounds j true)
def jc (P:Program)(ops:Array Oper)(Q:Exit->Act->World->Prop)(S:World->Prop):Zp->Act->World->Prop
 | .done,a,w=>Q .normal a w
 | .take i t,a,w=>∃o,ops[i]?=some o/\z49 P ops S o a (fun a'=>jc P ops Q S t a' w)
 | .come i t,a,w=>∃o,ops[i]?=some o/\jq P ops Q o a w (fun a' w'=>S w'/\jc P ops Q S t a' w')
 | .two i j t1 t2,a,w=>∃oi oj,ops[i]?=some oi/\ops[j]?=some oj/\jq P ops Q oi a w (fun a' w'=>S w'/\jc P ops Q S t1 a' w')/\jq P ops Q oj a w (fun a' w'=>S w'/\jc P ops Q S t2 a' w')
theorem z1t {i:Nat} {o:Oper} {listed:Array Bool} {a:Act} {w:World} {n:Nat} (ho:ops[i]?=some o)
  (h:jq P ops Q o a w (fun a' w'=>S w'/\wpAnyH P .any ops Q S n (listed.setIfInBounds i true) a' w')) :
  wpOp P ops Q i (fun a' w'=>S w'/\wpAnyH P .any ops Q S n (listed.setIfInBounds i true) a' w') a w:=by
 unfold wpOp
 simp only[ho]
 unfold jq at h
 split
 ·rename_i hw
  rw[if_pos hw]at h;exact .inl h
 ·rename_i hw
  rw[if_neg hw]at h;exact h
theorem Q8 {o:Oper}{a:Act}{w:World}{K K':Act->World->Prop}(hk:∀a w,K a w->K' a w)(h:jq P ops Q o a w K):jq P ops Q o a w K':=by
 unfold jq at h ⊢
 split
 ·rename_i hw
  rw[if_pos hw]at h;exact Oper.wp_mono (fun a' w' h'=>hk a' w' h') h
 ·rename_i hw
  rw[if_neg hw]at h;exact hk _ _ h
theorem kf (hsel:Region.noSelect ops=true)(hQ:∀c a d v w,Q (.panic c) (a.put d v) w->Q (.panic c) a w):∀(t:Zp) (listed:Array Bool) (a:Act) (w:World),
  Zv ops t listed=true->S w->jc P ops Q S t a w->wpAnyH P .any ops Q S t.len listed a w
 | .done,listed,a,w,hB,_,h=>wpAnyH_done (by simpa [Zv,List.isEmpty_iff] using hB) h _
 | .take i t,listed,a,w,hB,hS,h=>by
  simp only[Zv,Bool.and_eq_true]at hB
  obtain⟨⟨hf,hr⟩,hB'⟩:=hB;obtain⟨o,ho,v,hv,hn⟩:=h;refine wpAnyH_take ho hsel hf hr (fun c a w=>hQ c a _ _ w) (v:=v) ?_ hS (kf hsel hQ t _ _ w hB' hS hn)
  split at hv
  ·rename_i hw;exact .inl ⟨hw,fun w hw'=>hv ⟨w,hw'⟩⟩
  ·rename_i hw;exact .inr ⟨by simpa using hw,hv⟩
 | .come i t,listed,a,w,hB,hS,h=>by
  simp only[Zv,Bool.and_eq_true,decide_eq_true_eq]at hB
  obtain⟨hr,hB'⟩:=hB;obtain⟨o,ho,hc⟩:=h;refine wpAnyH_all hr (by simp) fun j hj=>?_
  obtain rfl:=List.mem_singleton.1 hj;exact z1t ho (Q8 (fun a' w' hh=>⟨hh.1,kf hsel hQ t _ a' w' hB' hh.1 hh.2⟩) hc)
 | .two i j t1 t2,listed,a,w,hB,hS,h=>by
  simp only[Zv,Bool.and_eq_true,decide_eq_true_eq]at hB
  obtain⟨⟨⟨hr,hl⟩,hB1⟩,hB2⟩:=hB;obtain⟨oi,oj,hoi,hoj,hA,hC⟩:=h;refine wpAnyH_all hr (by simp) fun k hk=>?_
  have hk':k=i∨k=j:=by simpa using hk
  rcases hk' with rfl|rfl
  ·exact z1t hoi (Q8 (fun a' w' hh=>⟨hh.1,kf hsel hQ t1 _ a' w' hB1 hh.1 hh.2⟩) hA)
  ·refine z1t hoj (Q8 (fun a' w' hh=>⟨hh.1,?_⟩) hC)
   rw[hl];exact kf hsel hQ t2 _ a' w' hB2 hh.1 hh.2
theorem Yv {id:Nat} {a:Act} {w:World} {l:List Oper} (t:Zp) (hm:P.follows .mixedOrders=true) (hsel:Region.noSelect l.toArray=true) (hlen:t.len=l.toArray.size)
  (hB:Zv l.toArray t (Array.replicate l.toArray.size false)=true) (hS:S w.drew)
  (h:jc P l.toArray (NoPanic Q) S t a w.drew):(Code.region id l.toArray true).wp P Q a w:=by
 refine wp_region_noPanic (wp_region_held (S:=S) hm ?_);have:=kf (S:=S) hsel (fun _ _ _ _ _ h=>(h:False).elim) t _ a w.drew hB hS h;rw[hlen]at this;exact this
theorem yu {i:Nat} {t:Zp} {a:Act} {w:World} (o:Oper) (ho:ops[i]?=some o)
  (h:∀K:Act->Prop,(∀a',jc P ops Q S t a' w->K a')->∃v,(if Region.wanted o (yielded ops a.tmps)then ∀t:{ x:World // S x },(execOp a.eval o).run P t.1=.ok (.value v) t.1 else v=undef)/\K (a.put o.dst v)):jc P ops Q S (.take i t) a w :=
 ⟨o,ho,h _ (fun _ h=>h)⟩
theorem qa {i:Nat} {t:Zp} {a:Act} {w:World} (o:Oper) (ho:ops[i]?=some o)
  (h:∀K:Act->World->Prop,Hid (∀a' w',S w'->jc P ops Q S t a' w'->K a' w')->if Region.wanted o (yielded ops a.tmps)then o.wp P a w K Q else K (a.put o.dst undef) w):jc P ops Q S (.come i t) a w :=
 ⟨o,ho,h _ (hid fun _ _ h1 h2=>⟨h1,h2⟩)⟩
theorem Z6 {i:Nat} {t:Zp} {a:Act} {w:World} (o:Oper) (ho:ops[i]?=some o) (hg:o.guard=none)
  (h:∀K:Act->World->Prop,Hid (∀a' w',S w'->jc P ops Q S t a' w'->K a' w')->o.wp P a w K Q):jc P ops Q S (.come i t) a w :=
 qa o ho fun K hK=>by rw[if_pos (by simp[Region.wanted,hg])];exact h K hK
theorem Y4 {i j:Nat} {t1 t2:Zp} {a:Act} {w:World} (oi oj:Oper) (hi:ops[i]?=some oi) (hj:ops[j]?=some oj)
  (h1:∀K:Act->World->Prop,Hid (∀a' w',S w'->jc P ops Q S t1 a' w'->K a' w')->if Region.wanted oi (yielded ops a.tmps)then oi.wp P a w K Q else K (a.put oi.dst undef) w)
  (h2:∀K:Act->World->Prop,Hid (∀a' w',S w'->jc P ops Q S t2 a' w'->K a' w')->if Region.wanted oj (yielded ops a.tmps)then oj.wp P a w K Q else K (a.put oj.dst undef) w):jc P ops Q S (.two i j t1 t2) a w :=
 ⟨oi,oj,hi,hj,h1 _ (hid fun _ _ hs hk=>⟨hs,hk⟩),h2 _ (hid fun _ _ hs hk=>⟨hs,hk⟩)⟩
theorem je {a:Act}{w:World}(h:Q .normal a w):jc P ops (NoPanic Q) S .done a w:=h
end
open Go.RowKit
def strV (t:List UInt8):Value := .string ⟨t.toArray⟩
def Strs (w:World)(ao:Option Addr)(l:List (List UInt8)):Prop :=
 l≠[]->∃b off,ao=some ⟨b,off,none⟩/\b<w.heap.size/\∀j (h:j<l.length),w.cell? ⟨b,off+j,none⟩=some (strV l[j])
theorem J5 {w:World}{base:Nat}{e:TypeId}{ao:Option Addr}{cap:Nat}{l:List (List UInt8)}(h:w.ownsRow base e 1 (.slice ao l.length cap) l.length (l.map strV)):Strs w ao l:=fun hn=>by
 obtain⟨g,cap',hv,_,h2,_⟩:=yj h (List.length_pos_iff.2 hn)
 simp only[Value.slice.injEq]at hv
 obtain⟨rfl,_,rfl⟩:=hv;refine⟨g,0,rfl,h2,fun j hj=>?_⟩;rw[Nat.zero_add,h.cellAt j (by omega)]
 simp[List.getElem?_eq_getElem hj]
theorem Zg {P:Program} {w:World} {o:Oper} {a:Act} {K:Act->World->Prop} {Q:Exit->Act->World->Prop} (s x:Operand) (t:TypeId)
  (ho:o.op=.call { callee := .builtin .append,args:=#[s,x],argTypes:=#[t,t] })
  {base:Nat} {e:TypeId} {z:Value} {size bytes:Nat} (he:Elem P t e z size bytes) (hsz:0<size)
  {v:Value} {n:Nat} {xs:List Value} (hown:w.ownsRow base e size v n xs) (hs:a.eval s=v)
  {b off m c:Nat} {news:List Value} (hx:a.eval x=.slice (some ⟨b,off,none⟩) m c) (hl:news.length=m*size) (hnews:∀j u,news[j]?=some u->w.cell? ⟨b,off+j,none⟩=some u) (h1:∀u∈news,u.oneCell'=true)
  (h63:n+m<=maxLen) (hbytes:(n+m)*bytes<=140737488355328) (hbase:base<=w.heap.size)
  (h:∀v' w',w'.ownsRow base e size v' (n+m) (xs++news)->w.grownBy w' v.ownBlock->(∀k,v'.ownBlock=some k->v.ownBlock=some k∨k=w.heap.size)->K (a.put o.dst v') w'):o.wp P a w K Q:=by
 obtain⟨ht,hi0,hzs⟩:=he;obtain⟨i,hi,hz,hsize,hby⟩:=info_parts hi0
 obtain ⟨v',w',hr,h2,h3,h4,h5⟩:=run_append_own_at (P:=P) w base t o.type e i z size bytes ht hi hz hsize hby hzs hsz v n xs hown ⟨b,off,none⟩ m c news hl (fun j u hj=>by
  have hadd:(⟨b,off,none⟩:Addr).add j=⟨b,off+j,none⟩:=by unfold Addr.add;split<;>simp_all
  rw[hadd];exact hnews j u hj) h1 h63 hbytes hbase
 unfold Oper.wp execOp
 simp only[ho,resolve,invoke,builtin,Sem.run_bind,Sem.run_pure,Result.andThen_ok,List.map_toArray,List.map_cons,List.map_nil,hs,hx,hr]
 refine h _ _ h2 h3 (fun k hk=>?_)
 rcases h5 with h5|h5
 ·exact .inl (h5 ▸ hk)
 ·rw[h5]at hk
  exact .inr (Option.some.inj hk).symm
end Go.Proofs.YtmlghmjjlpioeaaGreatDoor
