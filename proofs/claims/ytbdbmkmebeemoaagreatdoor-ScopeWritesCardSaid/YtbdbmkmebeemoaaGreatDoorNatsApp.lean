/-
  A slice of numbers that is only read: what its cells hold.
-/
/-
  hygref.Nums: two lists of one content.
-/
import Derived.Test.YtbdbmkmebeemoaaGreatDoorKit
import Derived.ProofKit
import Derived.Test.YtbdbmkmebeemoaaGreatDoorUpd
import Derived.Deep.LoopGhost
import Derived.Deep.QuietTactic
import Derived.Laws.AppendOwnNone
namespace Go.Proofs.YtbdbmkmebeemoaaGreatDoor
open Go.ChangeShapes Go.WideShapes Go.ChangeAt Go.RowKit

/-- v is a slice whose elements are the numbers l -/
def Ints (k : IntKind) (w : World) (ao : Option Addr) (l : List Int) : Prop :=
  l ≠ [] → ∃ b off, ao = some ⟨b, off, none⟩ ∧ b < w.heap.size ∧ ∀ j (h : j < l.length), w.cell? ⟨b, off + j, none⟩ = some (.int k l[j])
theorem Ints.below {k : IntKind} {w w' : World} {ao : Option Addr} {l : List Int} (h : Ints k w ao l) (hb : Below w.heap.size w w') : Ints k w' ao l := fun hn => by
  obtain ⟨b, off, e, hlt, hc⟩ := h hn
  exact ⟨b, off, e, Nat.lt_of_lt_of_le hlt hb.size, fun j hj => (hb.cell (p := ⟨b, off + j, none⟩) hlt).trans (hc j hj)⟩
theorem Ints.at {k : IntKind} {w : World} {ao : Option Addr} {l : List Int} (h : Ints k w ao l) {i : Nat} (hi : i < l.length) : ∃ b off, ao = some ⟨b, off, none⟩ ∧ b < w.heap.size ∧ w.cell? ⟨b, off + i, none⟩ = some (.int k l[i]) := by
  obtain ⟨b, off, e, hlt, hc⟩ := h (by intro e; subst e; simp at hi)
  exact ⟨b, off, e, hlt, hc i hi⟩

/-- the same, the numbers as natural ones -/
def Nats (k : IntKind) (w : World) (ao : Option Addr) (l : List Nat) : Prop :=
  l ≠ [] → ∃ b off, ao = some ⟨b, off, none⟩ ∧ b < w.heap.size ∧ ∀ j (h : j < l.length), w.cell? ⟨b, off + j, none⟩ = some (.int k ((l[j] : Nat) : Int))
theorem Nats.below {k : IntKind} {w w' : World} {ao : Option Addr} {l : List Nat} (h : Nats k w ao l) (hb : Below w.heap.size w w') : Nats k w' ao l := fun hn => by
  obtain ⟨b, off, e, hlt, hc⟩ := h hn
  exact ⟨b, off, e, Nat.lt_of_lt_of_le hlt hb.size, fun j hj => (hb.cell (p := ⟨b, off + j, none⟩) hlt).trans (hc j hj)⟩
/-- the i-th one, under a name of its own -/
theorem Nats.at {k : IntKind} {w : World} {ao : Option Addr} {l : List Nat} (h : Nats k w ao l) {i : Nat} (hi : i < l.length) : ∃ b off n, Hid (n = l[i]) ∧ ao = some ⟨b, off, none⟩ ∧ b < w.heap.size ∧ w.cell? ⟨b, off + i, none⟩ = some (.int k ((n : Nat) : Int)) := by
  obtain ⟨b, off, e, hlt, hc⟩ := h (by intro e; subst e; simp at hi)
  exact ⟨b, off, l[i], Lib.hid rfl, e, hlt, hc i hi⟩
end Go.Proofs.YtbdbmkmebeemoaaGreatDoor
/-
  A row of the call's own, to which a slice of numbers is appended.
-/
namespace Go.Proofs.YtbdbmkmebeemoaaGreatDoor
open Go.RowKit

end Go.Proofs.YtbdbmkmebeemoaaGreatDoor
namespace Go.Proofs.YtbdbmkmebeemoaaGreatDoor
open Go.ChangeShapes Go.WideShapes Go.ChangeAt Go.RowKit

end Go.Proofs.YtbdbmkmebeemoaaGreatDoor

