/-
  hygref.Texts: two lists of one content.
-/
import Derived.Test.YtandoppfbilhbaaGreatDoorUpd
import Derived.Test.YtandoppfbilhbaaGreatDoorOrd
import Derived.Deep.LoopGhost
namespace Go.Proofs.YtandoppfbilhbaaGreatDoor
open Go.RowKit

def strV (t : List UInt8) : Value := .string ⟨t.toArray⟩
def Strs (w : World) (ao : Option Addr) (l : List (List UInt8)) : Prop :=
  l ≠ [] → ∃ b off, ao = some ⟨b, off, none⟩ ∧ b < w.heap.size ∧ ∀ j (h : j < l.length), w.cell? ⟨b, off + j, none⟩ = some (strV l[j])
theorem Strs.below {w w' : World} {ao : Option Addr} {l : List (List UInt8)} (h : Strs w ao l) (hb : Below w.heap.size w w') : Strs w' ao l := fun hn => by
  obtain ⟨b, off, e, hlt, hc⟩ := h hn
  exact ⟨b, off, e, Nat.lt_of_lt_of_le hlt hb.size, fun j hj => (hb.cell (p := ⟨b, off + j, none⟩) hlt).trans (hc j hj)⟩
theorem Strs.at {w : World} {ao : Option Addr} {l : List (List UInt8)} (h : Strs w ao l) {i : Nat} (hi : i < l.length) : ∃ b off, ao = some ⟨b, off, none⟩ ∧ b < w.heap.size ∧ w.cell? ⟨b, off + i, none⟩ = some (strV l[i]) := by
  obtain ⟨b, off, e, hlt, hc⟩ := h (by intro e; subst e; simp at hi)
  exact ⟨b, off, e, hlt, hc i hi⟩
theorem strs_of_own {w : World} {base : Nat} {e : TypeId} {ao : Option Addr} {cap : Nat} {l : List (List UInt8)} (h : w.ownsRow base e 1 (.slice ao l.length cap) l.length (l.map strV)) : Strs w ao l := fun hn => by
  obtain ⟨g, cap', hv, _, h2, _⟩ := own_some h (List.length_pos_iff.2 hn)
  simp only [Value.slice.injEq] at hv
  obtain ⟨rfl, _, rfl⟩ := hv
  refine ⟨g, 0, rfl, h2, fun j hj => ?_⟩
  rw [Nat.zero_add, h.cellAt j (by omega)]
  simp [List.getElem?_eq_getElem hj]
end Go.Proofs.YtandoppfbilhbaaGreatDoor
