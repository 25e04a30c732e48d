/-
  A region that draws its order: loads and arithmetic are taken first, under what holds in every world on the way; the calls, allocations and stores come up one at a time. In an order that is given. (Over Derived.OrdersHeld; a guard that says no is borne.)
-/
import Derived.Test.YtoggpnfeioaidaaDoorGet
import Derived.OrdersHeld
import Derived.Deep.RegionHeld3
import Derived.Test.YtoggpnfeioaidaaDoorErrNew
import Derived.Deep.LoopGhost
namespace Go.Proofs.YtoggpnfeioaidaaDoor
open Go.RowKit
section
variable {P:Program} {ops:Array Oper} {Q:Exit→Act→World→Prop} {S:World→Prop}
def ordOK (ops:Array Oper):List (Nat × Bool)→Array Bool→Bool
 | [],listed=>(Region.ready .any ops listed).isEmpty
 | (i,true)::r,listed=>Region.free .any ops listed i&&(Region.ready .any ops listed).contains i&&ordOK ops r (listed.setIfInBounds i true)
 | (i,false)::r,listed=>decide (Region.ready .any ops listed=[i])&&ordOK ops r (listed.setIfInBounds i true)
def seqTake (P:Program) (ops:Array Oper) (S:World→Prop) (o:Oper) (a:Act) (K:Act→Prop):Prop :=
 ∃ v,(if Region.wanted o (yielded ops a.tmps) then ∀ t:{ x:World // S x },(execOp a.eval o).run P t.1 = .ok (.value v) t.1 else v=undef)∧K (a.put o.dst v)
def seqCome (P:Program) (ops:Array Oper) (Q:Exit→Act→World→Prop) (o:Oper) (a:Act) (w:World) (K:Act→World→Prop):Prop :=
 if Region.wanted o (yielded ops a.tmps) then o.wp P a w K Q else K (a.put o.dst undef) w
def wpSeq (P:Program) (ops:Array Oper) (Q:Exit→Act→World→Prop) (S:World→Prop):List (Nat × Bool)→Act→World→Prop
 | [],a,w=>Q .normal a w
 | (i,true)::r,a,w=>∃ o,ops[i]? = some o∧seqTake P ops S o a (fun a'=>wpSeq P ops Q S r a' w)
 | (i,false)::r,a,w=>∃ o,ops[i]? = some o∧seqCome P ops Q o a w (fun a' w'=>S w'∧wpSeq P ops Q S r a' w')
theorem wpAnyH_of_seq (hsel:Region.noSelect ops=true) (hQ:∀ c a d v w,Q (.panic c) (a.put d v) w→Q (.panic c) a w):∀ (ord:List (Nat × Bool)) (listed:Array Bool) (a:Act) (w:World),
  ordOK ops ord listed=true→S w→wpSeq P ops Q S ord a w→wpAnyH P .any ops Q S ord.length listed a w
 | [],listed,a,w,hB,_,h=>wpAnyH_done (by simpa [ordOK,List.isEmpty_iff] using hB) h _
 | (i,true)::r,listed,a,w,hB,hS,h=>by
  simp only[ordOK,Bool.and_eq_true] at hB
  obtain ⟨⟨hf,hr⟩,hB'⟩:=hB
  obtain ⟨o,ho,v,hv,hn⟩:=h
  refine wpAnyH_take ho hsel hf hr (fun c a w=>hQ c a _ _ w) (v:=v) ?_ hS (wpAnyH_of_seq hsel hQ r _ _ w hB' hS hn)
  split at hv
  ·rename_i hw;exact .inl ⟨hw,fun w hw'=>hv ⟨w,hw'⟩⟩
  ·rename_i hw;exact .inr ⟨by simpa using hw,hv⟩
 | (i,false)::r,listed,a,w,hB,hS,h=>by
  simp only[ordOK,Bool.and_eq_true,decide_eq_true_eq] at hB
  obtain ⟨hr,hB'⟩:=hB
  obtain ⟨o,ho,hc⟩:=h
  refine wpAnyH_all hr (by simp) fun j hj=>?_
  obtain rfl:=List.mem_singleton.1 hj
  unfold wpOp
  simp only[ho]
  unfold seqCome at hc
  split
  ·rename_i hw
   rw[if_pos hw] at hc
   exact .inl (Oper.wp_mono (fun a' w' ⟨h1,h2⟩=>⟨h1,wpAnyH_of_seq hsel hQ r _ a' w' hB' h1 h2⟩) hc)
  ·rename_i hw
   rw[if_neg hw] at hc
   exact ⟨hc.1,wpAnyH_of_seq hsel hQ r _ _ w hB' hc.1 hc.2⟩
theorem wp_region_seq {id:Nat} {a:Act} {w:World} {l:List Oper} (ord:List (Nat × Bool)) (hm:P.follows .mixedOrders=true) (hsel:Region.noSelect l.toArray=true) (hlen:ord.length=l.toArray.size)
  (hB:ordOK l.toArray ord (Array.replicate l.toArray.size false)=true) (hS:S w.drew)
  (h:wpSeq P l.toArray (NoPanic Q) S ord a w.drew):(Code.region id l.toArray true).wp P Q a w:=by
 refine wp_region_noPanic (wp_region_held (S:=S) hm ?_)
 have:=wpAnyH_of_seq hsel (fun _ _ _ _ _ h=>(h:False).elim) ord _ a w.drew hB hS h
 rw[hlen] at this
 exact this
theorem seq_take {i:Nat} {r:List (Nat × Bool)} {a:Act} {w:World} (o:Oper) (ho:ops[i]? = some o)
  (h:∀ K:Act→Prop,(∀ a',wpSeq P ops Q S r a' w→K a')→∃ v,(if Region.wanted o (yielded ops a.tmps) then ∀ t:{ x:World // S x },(execOp a.eval o).run P t.1 = .ok (.value v) t.1 else v=undef)∧K (a.put o.dst v)):wpSeq P ops Q S ((i,true)::r) a w :=
 ⟨o,ho,h _ (fun _ h=>h)⟩
theorem seq_come {i:Nat} {r:List (Nat × Bool)} {a:Act} {w:World} (o:Oper) (ho:ops[i]? = some o)
  (h:∀ K:Act→World→Prop,Hid (∀ a' w',S w'→wpSeq P ops Q S r a' w'→K a' w')→if Region.wanted o (yielded ops a.tmps) then o.wp P a w K Q else K (a.put o.dst undef) w):wpSeq P ops Q S ((i,false)::r) a w :=
 ⟨o,ho,h _ (Lib.hid fun _ _ h1 h2=>⟨h1,h2⟩)⟩
theorem seq_done {a:Act} {w:World} (h:Q .normal a w):wpSeq P ops (NoPanic Q) S [] a w:=h
end
open Go.RowKit
section
variable {P:Program} {ops:Array Oper} {Q:Exit→Act→World→Prop}
end
open Go.RowKit
section
variable {P:Program} {md:Region.Mode} {ops:Array Oper} {Q:Exit→Act→World→Prop} {S:World→Prop} {bs:List Nat}
def wpAnyB (P:Program) (md:Region.Mode) (ops:Array Oper) (Q:Exit→Act→World→Prop) (S:World→Prop) (bs:List Nat):Nat→Array Bool→Act→World→Prop
 | 0,listed,a,w=>Region.ready md ops listed=[]∧Q .normal a w
 | fuel+1,listed,a,w =>
  (Region.ready md ops listed=[]→Q .normal a w) ∧
  ∀ i∈Region.ready md ops listed,wpOp P ops Q i (fun a' w'=>(bs.contains i=false→S w')∧wpAnyB P md ops Q S bs fuel (listed.setIfInBounds i true) a' w') a w
theorem wpAny_of_B:∀ (fuel:Nat) (listed:Array Bool) (a:Act) (w:World),wpAnyB P md ops Q S bs fuel listed a w→wpAny P md ops Q fuel listed a w
 | 0,_,_,_,h=>h
 | fuel+1,_,_,_,h=>⟨h.1,fun i hi=>wpOp_mono (fun a' w' h'=>wpAny_of_B fuel _ a' w' h'.2) (h.2 i hi)⟩
theorem wpAnyB_first {i:Nat} {oi:Oper} {v:Value} (hi:ops[i]? = some oi) (hsel:∀ (j:Nat) (o:Oper) cs b,ops[j]? = some o→o.op ≠ .select cs b)
  (hQ:∀ c a w,Q (.panic c) (a.put oi.dst v) w→Q (.panic c) a w)
  (hbs:∀ (j:Nat) (oj:Oper),ops[j]? = some oj→bs.contains j=true→∃ e∈oj.after,Region.binds md e=true∧e.on=i) :
  ∀ (fuel:Nat) (listed:Array Bool) (a:Act) (w:World),
   (∀ j oj,ops[j]? = some oj→j≠i→listed.getD j true=false→(∀ e∈oj.after,Region.binds md e=true→e.on≠i)→oi.apart ops oj=true) →
   i∈Region.ready md ops listed→YieldsIf P ops S oi v a→S w →
   wpAnyB P md ops Q S bs fuel (listed.setIfInBounds i true) (a.put oi.dst v) w→wpAnyB P md ops Q S bs (fuel+1) listed a w:=by
 intro fuel
 induction fuel with
 | zero =>
  intro listed a w _ hr hy hS H
  refine ⟨fun h=>(by rw[h] at hr;cases hr),fun j hj=>?_⟩
  by_cases hji:j=i
  ·subst hji;exact hy.wpOp hi hS ⟨fun _=>hS,H⟩
  ·have:=ready_mono hj hji
   rw[H.1] at this
   cases this
 | succ fuel ih =>
  intro listed a w hfree hr hy hS H
  refine ⟨fun h=>(by rw[h] at hr;cases hr),fun j hj=>?_⟩
  by_cases hji:j=i
  ·subst hji;exact hy.wpOp hi hS ⟨fun _=>hS,H⟩
  ·have h1:=H.2 j (ready_mono hj hji)
   obtain ⟨hjun,oj,hoj,hall⟩:=mem_ready.1 hj
   have hnot:∀ e∈oj.after,Region.binds md e=true→e.on≠i:=fun e he hb heq=>by
    have h1:=hall e he hb
    have h0:=(mem_ready.1 hr).1
    rw[heq] at h1
    rcases Nat.lt_or_ge i listed.size with h'|h'
    ·simp[h'] at h0 h1;rw[h0] at h1;cases h1
    ·simp[Array.getElem?_eq_none h'] at h1
   have hnb:bs.contains j=false:=by
    cases hb:bs.contains j with
    | false=>rfl
    | true =>
     obtain ⟨e,he,h2,h3⟩:=hbs j oj hoj hb
     exact absurd h3 (hnot e he h2)
   have h2:=wpOp_putIf hoj (hfree j oj hoj hji hjun hnot) (fun cs b=>hsel i oi cs b hi) (fun cs b=>hsel j oj cs b hoj) hQ hy h1
   have hfree':∀ k ok,ops[k]? = some ok→k≠i→(listed.setIfInBounds j true).getD k true=false →
     (∀ e∈ok.after,Region.binds md e=true→e.on≠i)→oi.apart ops ok=true:=fun k ok hk hki hun hno=>by
    refine hfree k ok hk hki ?_ hno
    by_cases hjk:j=k
    ·subst hjk;exact hjun
    ·rw[getD_set_ne true hjk] at hun;exact hun
   refine wpOp_mono (fun a' w' h3=>⟨h3.2.1,ih (listed.setIfInBounds j true) a' w' hfree' (ready_mono hr (Ne.symm hji)) h3.1 (h3.2.1 hnb) ?_⟩) h2
   rw[Array.setIfInBounds_comm _ _ hji]
   exact h3.2.2
theorem wpAnyB_done {listed:Array Bool} {a:Act} {w:World} (hr:Region.ready md ops listed=[]) (h:Q .normal a w) :
  ∀ fuel,wpAnyB P md ops Q S bs fuel listed a w
 | 0=>⟨hr,h⟩
 | _+1=>⟨fun _=>h,by rw[hr];simp⟩
def waitB (ops:Array Oper) (bs:List Nat) (i:Nat):Bool:=bs.all fun j=>match ops[j]? with
 | some o=>o.after.any fun e=>Region.binds .any e&&e.on == i
 | none=>true
theorem waitB_spec {i:Nat} (h:waitB ops bs i=true) (j:Nat) (oj:Oper) (hj:ops[j]? = some oj) (hb:bs.contains j=true):∃ e∈oj.after,Region.binds .any e=true∧e.on=i:=by
 have:=List.all_eq_true.1 h j (by simpa using hb)
 rw[hj] at this
 obtain ⟨e,he,h2⟩:=Array.any_eq_true'.1 this
 simp only[Bool.and_eq_true,beq_iff_eq] at h2
 exact ⟨e,he,h2.1,h2.2⟩
def ordOKB (ops:Array Oper) (bs:List Nat):List (Nat × Bool)→Array Bool→Bool
 | [],listed=>(Region.ready .any ops listed).isEmpty
 | (i,true)::r,listed=>Region.free .any ops listed i&&(Region.ready .any ops listed).contains i&&waitB ops bs i&&ordOKB ops bs r (listed.setIfInBounds i true)
 | (i,false)::r,listed=>decide (Region.ready .any ops listed=[i])&&ordOKB ops bs r (listed.setIfInBounds i true)
def wpSeqB (P:Program) (ops:Array Oper) (Q:Exit→Act→World→Prop) (S:World→Prop) (bs:List Nat):List (Nat × Bool)→Act→World→Prop
 | [],a,w=>Q .normal a w
 | (i,true)::r,a,w=>S w∧∃ o,ops[i]? = some o∧seqTake P ops S o a (fun a'=>wpSeqB P ops Q S bs r a' w)
 | (i,false)::r,a,w=>∃ o,ops[i]? = some o∧seqCome P ops Q o a w (fun a' w'=>(bs.contains i=false→S w')∧wpSeqB P ops Q S bs r a' w')
theorem wpAnyB_of_seq (hsel:Region.noSelect ops=true) (hQ:∀ c a d v w,Q (.panic c) (a.put d v) w→Q (.panic c) a w):∀ (ord:List (Nat × Bool)) (listed:Array Bool) (a:Act) (w:World),
  ordOKB ops bs ord listed=true→wpSeqB P ops Q S bs ord a w→wpAnyB P .any ops Q S bs ord.length listed a w
 | [],listed,a,w,hB,h=>wpAnyB_done (by simpa [ordOKB,List.isEmpty_iff] using hB) h _
 | (i,true)::r,listed,a,w,hB,h=>by
  simp only[ordOKB,Bool.and_eq_true] at hB
  obtain ⟨⟨⟨hf,hr⟩,hw⟩,hB'⟩:=hB
  obtain ⟨hS,o,ho,v,hv,hn⟩:=h
  refine wpAnyB_first ho (Region.noSelect_spec hsel) (fun c a w=>hQ c a _ _ w) (waitB_spec hw) _ listed a w (v:=v) (Region.free_spec ho hf) (by simpa using hr) ?_ hS (wpAnyB_of_seq hsel hQ r _ _ w hB' hn)
  split at hv
  ·rename_i hw;exact .inl ⟨hw,fun w hw'=>hv ⟨w,hw'⟩⟩
  ·rename_i hw;exact .inr ⟨by simpa using hw,hv⟩
 | (i,false)::r,listed,a,w,hB,h=>by
  simp only[ordOKB,Bool.and_eq_true,decide_eq_true_eq] at hB
  obtain ⟨hr,hB'⟩:=hB
  obtain ⟨o,ho,hc⟩:=h
  refine ⟨fun h0=>absurd (hr ▸ h0) (by simp),fun j hj=>?_⟩
  rw[hr] at hj
  obtain rfl:=List.mem_singleton.1 hj
  unfold wpOp
  simp only[ho]
  unfold seqCome at hc
  split
  ·rename_i hw
   rw[if_pos hw] at hc
   exact .inl (Oper.wp_mono (fun a' w' ⟨h1,h2⟩=>⟨h1,wpAnyB_of_seq hsel hQ r _ a' w' hB' h2⟩) hc)
  ·rename_i hw
   rw[if_neg hw] at hc
   exact ⟨hc.1,wpAnyB_of_seq hsel hQ r _ _ w hB' hc.2⟩
theorem wp_region_seqB {id:Nat} {a:Act} {w:World} {l:List Oper} (S:World→Prop) (bs:List Nat) (ord:List (Nat × Bool)) (hm:P.follows .mixedOrders=true) (hsel:Region.noSelect l.toArray=true) (hlen:ord.length=l.toArray.size)
  (hB:ordOKB l.toArray bs ord (Array.replicate l.toArray.size false)=true)
  (h:wpSeqB P l.toArray (NoPanic Q) S bs ord a w.drew):(Code.region id l.toArray true).wp P Q a w:=by
 refine wp_region_noPanic (wp_region_any hm (wpAny_of_B (S:=S) (bs:=bs) _ _ _ _ ?_))
 have:=wpAnyB_of_seq (S:=S) hsel (fun _ _ _ _ _ h=>(h:False).elim) ord _ a w.drew hB h
 rw[hlen] at this
 exact this
theorem seqB_take {i:Nat} {r:List (Nat × Bool)} {a:Act} {w:World} (o:Oper) (ho:ops[i]? = some o) (hS:S w)
  (h:∀ K:Act→Prop,(∀ a',wpSeqB P ops Q S bs r a' w→K a')→∃ v,(if Region.wanted o (yielded ops a.tmps) then ∀ t:{ x:World // S x },(execOp a.eval o).run P t.1 = .ok (.value v) t.1 else v=undef)∧K (a.put o.dst v)):wpSeqB P ops Q S bs ((i,true)::r) a w :=
 ⟨hS,o,ho,h _ (fun _ h=>h)⟩
theorem seqB_come {i:Nat} {r:List (Nat × Bool)} {a:Act} {w:World} (o:Oper) (ho:ops[i]? = some o)
  (h:∀ K:Act→World→Prop,Hid (∀ a' w',(bs.contains i=false→S w')→wpSeqB P ops Q S bs r a' w'→K a' w')→if Region.wanted o (yielded ops a.tmps) then o.wp P a w K Q else K (a.put o.dst undef) w):wpSeqB P ops Q S bs ((i,false)::r) a w :=
 ⟨o,ho,h _ (Lib.hid fun _ _ h1 h2=>⟨h1,h2⟩)⟩
theorem seqB_done {a:Act} {w:World} (h:Q .normal a w):wpSeqB P ops (NoPanic Q) S bs [] a w:=h
end
open Go.RowKit
section
variable {P:Program} {ops:Array Oper} {Q:Exit→Act→World→Prop} {S:World→Prop}
end
open Go.RowKit
def strV (t:List UInt8):Value := .string ⟨t.toArray⟩
open Go.RowKit
end Go.Proofs.YtoggpnfeioaidaaDoor
