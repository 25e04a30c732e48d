/-
  A message that is being read, with any number of lists.
-/
import Derived.Test.YtcblkndiclkacaaDoorFld
namespace Go.Proofs.YtcblkndiclkacaaDoor
open Go.RowKit
structure LPart (σ:Type) (lo:Nat) where
 V:Type
 rel:σ→V→(Nat→Prop)→World→Prop
 lt:∀ {st v P w},rel st v P w→∀ k,P k→lo≤k∧k<w.heap.size
 kept:∀ {st v P w w'},rel st v P w→Upd (fun k=>¬P k) w w'→rel st v P w'
 same:σ→σ→Prop
 conv:∀ {st st' v P w},same st st'→rel st v P w→rel st' v P w
section
variable {σ:Type} {bx:Nat} {A:LPart σ (bx+1)} {T0:TypeId} {row:σ→A.V→Array Value} {st st':σ} {v:A.V} {P1:Nat→Prop} {w:World}
end
section
variable {α:Type} {S:Sub α}
end
end Go.Proofs.YtcblkndiclkacaaDoor
