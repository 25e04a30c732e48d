/-
  A region that draws its order: loads and arithmetic are taken first, under what holds in every world on the way; the calls, allocations and stores come up one at a time. In an order that is given. (Over Derived.OrdersHeld; a guard that says no is borne.)
-/
import Derived.Test.YtmlghmjjlpioeaaKit
import Derived.OrdersHeld
import Derived.Deep.RegionHeld3
import Derived.Test.YtmlghmjjlpioeaaUpd
import Derived.Deep.LoopGhost
namespace Go.Proofs.Ytmlghmjjlpioeaa
open Go.RowKit
open Lib (hid)
section
variable {P:Program} {ops:Array Oper} {Q:Exit→Act→World→Prop} {S:World→Prop}
def ordOK (ops:Array Oper):List (Nat × Bool)→Array Bool→Bool
 | [],listed=>(Region.ready .any ops listed).isEmpty
 | (i,true)::r,listed=>Region.free .any ops listed i&&(Region.ready .any ops listed).contains i&&ordOK ops r (listed.setIfInBounds i true)
 | (i,false)::r,listed=>decide (Region.ready .any ops listed=[i])&&ordOK ops r (listed.setIfInBounds i true)
def seqTake (P:Program)(ops:Array Oper)(S:World→Prop)(o:Oper)(a:Act)(K:Act→Prop):Prop :=
 ∃ v,(if Region.wanted o (yielded ops a.tmps) then ∀ t:{ x:World // S x },(execOp a.eval o).run P t.1 = .ok (.value v) t.1 else v=undef)∧K (a.put o.dst v)
def seqCome (P:Program)(ops:Array Oper)(Q:Exit→Act→World→Prop)(o:Oper)(a:Act)(w:World)(K:Act→World→Prop):Prop :=
 if Region.wanted o (yielded ops a.tmps) then o.wp P a w K Q else K (a.put o.dst undef) w
def wpSeq (P:Program)(ops:Array Oper)(Q:Exit→Act→World→Prop)(S:World→Prop):List (Nat × Bool)→Act→World→Prop
 | [],a,w=>Q .normal a w
 | (i,true)::r,a,w=>∃ o,ops[i]? = some o∧seqTake P ops S o a (fun a'=>wpSeq P ops Q S r a' w)
 | (i,false)::r,a,w=>∃ o,ops[i]? = some o∧seqCome P ops Q o a w (fun a' w'=>S w'∧wpSeq P ops Q S r a' w')
theorem wpAnyH_of_seq (hsel:Region.noSelect ops=true)(hQ:∀ c a d v w,Q (.panic c) (a.put d v) w→Q (.panic c) a w):∀ (ord:List (Nat × Bool)) (listed:Array Bool) (a:Act) (w:World),
  ordOK ops ord listed=true→S w→wpSeq P ops Q S ord a w→wpAnyH P .any ops Q S ord.length listed a w
 | [],listed,a,w,hB,_,h=>wpAnyH_done (by simpa [ordOK,List.isEmpty_iff] using hB) h _
 | (i,true)::r,listed,a,w,hB,hS,h=>by
  simp only[ordOK,Bool.and_eq_true] at hB
  obtain ⟨⟨hf,hr⟩,hB'⟩:=hB
  obtain ⟨o,ho,v,hv,hn⟩:=h
  refine wpAnyH_take ho hsel hf hr (fun c a w=>hQ c a _ _ w) (v:=v) ?_ hS (wpAnyH_of_seq hsel hQ r _ _ w hB' hS hn)
  split at hv
  ·rename_i hw;exact .inl ⟨hw,fun w hw'=>hv ⟨w,hw'⟩⟩
  ·rename_i hw;exact .inr ⟨by simpa using hw,hv⟩
 | (i,false)::r,listed,a,w,hB,hS,h=>by
  simp only[ordOK,Bool.and_eq_true,decide_eq_true_eq] at hB
  obtain ⟨hr,hB'⟩:=hB
  obtain ⟨o,ho,hc⟩:=h
  refine wpAnyH_all hr (by simp) fun j hj=>?_
  obtain rfl:=List.mem_singleton.1 hj
  unfold wpOp
  simp only[ho]
  unfold seqCome at hc
  split
  ·rename_i hw
   rw[if_pos hw] at hc
   exact .inl (Oper.wp_mono (fun a' w' ⟨h1,h2⟩=>⟨h1,wpAnyH_of_seq hsel hQ r _ a' w' hB' h1 h2⟩) hc)
  ·rename_i hw
   rw[if_neg hw] at hc
   exact ⟨hc.1,wpAnyH_of_seq hsel hQ r _ _ w hB' hc.1 hc.2⟩
theorem wp_region_seq {id:Nat} {a:Act} {w:World} {l:List Oper} (ord:List (Nat × Bool)) (hm:P.follows .mixedOrders=true) (hsel:Region.noSelect l.toArray=true) (hlen:ord.length=l.toArray.size)
  (hB:ordOK l.toArray ord (Array.replicate l.toArray.size false)=true) (hS:S w.drew)
  (h:wpSeq P l.toArray (NoPanic Q) S ord a w.drew):(Code.region id l.toArray true).wp P Q a w:=by
 refine wp_region_noPanic (wp_region_held (S:=S) hm ?_)
 have:=wpAnyH_of_seq hsel (fun _ _ _ _ _ h=>(h:False).elim) ord _ a w.drew hB hS h
 rw[hlen] at this
 exact this
theorem seq_take {i:Nat} {r:List (Nat × Bool)} {a:Act} {w:World} (o:Oper) (ho:ops[i]? = some o)
  (h:∀ K:Act→Prop,(∀ a',wpSeq P ops Q S r a' w→K a')→∃ v,(if Region.wanted o (yielded ops a.tmps) then ∀ t:{ x:World // S x },(execOp a.eval o).run P t.1 = .ok (.value v) t.1 else v=undef)∧K (a.put o.dst v)):wpSeq P ops Q S ((i,true)::r) a w :=
 ⟨o,ho,h _ (fun _ h=>h)⟩
theorem seq_come {i:Nat} {r:List (Nat × Bool)} {a:Act} {w:World} (o:Oper) (ho:ops[i]? = some o)
  (h:∀ K:Act→World→Prop,Hid (∀ a' w',S w'→wpSeq P ops Q S r a' w'→K a' w')→if Region.wanted o (yielded ops a.tmps) then o.wp P a w K Q else K (a.put o.dst undef) w):wpSeq P ops Q S ((i,false)::r) a w :=
 ⟨o,ho,h _ (hid fun _ _ h1 h2=>⟨h1,h2⟩)⟩
theorem seq_done {a:Act}{w:World}(h:Q .normal a w):wpSeq P ops (NoPanic Q) S [] a w:=h
end
open Go.RowKit
section
variable {P:Program} {ops:Array Oper} {Q:Exit→Act→World→Prop}
end
open Go.RowKit
section
variable {P:Program} {md:Region.Mode} {ops:Array Oper} {Q:Exit→Act→World→Prop} {S:World→Prop} {bs:List Nat}
end
open Go.RowKit
section
variable {P:Program} {ops:Array Oper} {Q:Exit→Act→World→Prop} {S:World→Prop}
theorem come_all {i:Nat} {o:Oper} {listed:Array Bool} {a:Act} {w:World} {n:Nat} (ho:ops[i]? = some o)
  (h:seqCome P ops Q o a w (fun a' w'=>S w'∧wpAnyH P .any ops Q S n (listed.setIfInBounds i true) a' w')) :
  wpOp P ops Q i (fun a' w'=>S w'∧wpAnyH P .any ops Q S n (listed.setIfInBounds i true) a' w') a w:=by
 unfold wpOp
 simp only[ho]
 unfold seqCome at h
 split
 ·rename_i hw
  rw[if_pos hw] at h
  exact .inl h
 ·rename_i hw
  rw[if_neg hw] at h
  exact h
theorem seqCome_mono {o:Oper}{a:Act}{w:World}{K K':Act→World→Prop}(hk:∀ a w,K a w→K' a w)(h:seqCome P ops Q o a w K):seqCome P ops Q o a w K':=by
 unfold seqCome at h ⊢
 split
 ·rename_i hw
  rw[if_pos hw] at h
  exact Oper.wp_mono (fun a' w' h'=>hk a' w' h') h
 ·rename_i hw
  rw[if_neg hw] at h
  exact hk _ _ h
end
open Go.RowKit
def strV (t:List UInt8):Value := .string ⟨t.toArray⟩
open Go.RowKit
end Go.Proofs.Ytmlghmjjlpioeaa
