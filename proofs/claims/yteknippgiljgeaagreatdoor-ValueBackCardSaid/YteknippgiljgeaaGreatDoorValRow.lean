/-
  A value and an attribute beside each other: the rows of a law's two arguments.
-/
import Derived.Test.YteknippgiljgeaaGreatDoorAlikeB
namespace Go.Proofs.YteknippgiljgeaaGreatDoor
open Go.RowKit

/-- an attribute, and another, in a block of their own -/
theorem krels_1 {W : World} {P : Nat → Prop} {x : KV} {c : List Value} {b : Nat} {T : TypeId} (hr : KRel W P x c) (hrow : W.heap[b]? = some (.cells c.toArray T (0, 0))) : KRels W (fun k => P k ∨ k = b) [x] (some ⟨b, 0, none⟩) 0 := by
  rw [KRels, KRels]
  refine ⟨⟨b, 0, c, rfl, .inr rfl, row_lt hrow, fun j hj => ?_, KRel.upd (Upd.refl (fun _ => False) W) (fun _ _ h => h) (fun k hk => .inl hk) _ _ hr⟩, trivial⟩
  exact row_cell hrow (by simp [List.getElem?_eq_getElem hj])
theorem krels_2 {W : World} {P : Nat → Prop} {x : KV} {c : List Value} {b : Nat} {T : TypeId} (hr : KRel W P x c) (hrow : W.heap[b]? = some (.cells (c ++ c).toArray T (0, 0))) : KRels W (fun k => P k ∨ k = b) [x, x] (some ⟨b, 0, none⟩) 0 := by
  have hl := hr.len
  rw [KRels, KRels, KRels]
  refine ⟨⟨b, 0, c, rfl, .inr rfl, row_lt hrow, fun j hj => ?_, KRel.upd (Upd.refl (fun _ => False) W) (fun _ _ h => h) (fun k hk => .inl hk) _ _ hr⟩, ⟨b, 0, c, rfl, .inr rfl, row_lt hrow, fun j hj => ?_, KRel.upd (Upd.refl (fun _ => False) W) (fun _ _ h => h) (fun k hk => .inl hk) _ _ hr⟩, trivial⟩
  · refine row_cell hrow ?_
    show (c ++ c).toArray[0 + 11 * 0 + j]? = _
    rw [List.getElem?_toArray, List.getElem?_append_left (by omega)]
    simp [List.getElem?_eq_getElem hj]
  · refine row_cell hrow ?_
    show (c ++ c).toArray[0 + 11 * (0 + 1) + j]? = _
    rw [List.getElem?_toArray, List.getElem?_append_right (by omega), show 0 + 11 * (0 + 1) + j - c.length = j by omega]
    exact List.getElem?_eq_getElem hj
def XK (w : World) (g : Nat) (ca ck : List Value) : Prop := w.heap[g]? = some (.cells ca.toArray 27 (0, 0)) ∧ w.heap[g + 1]? = some (.cells ck.toArray 35 (0, 0))
theorem XK.below {w w' : World} {g : Nat} {ca cb : List Value} (h : XK w g ca cb) (hb : Below w.heap.size w w') : XK w' g ca cb := ⟨(hb.block _ (row_lt h.1)).trans h.1, (hb.block _ (row_lt h.2)).trans h.2⟩
theorem XK.a {w : World} {g : Nat} {c0 c1 c2 c3 c4 c5 c6 c7 : Value} {ck : List Value} (h : XK w g [c0, c1, c2, c3, c4, c5, c6, c7] ck) : w.cell? ⟨g, 0, none⟩ = some c0 ∧ w.cell? ⟨g, 1, none⟩ = some c1 ∧ w.cell? ⟨g, 2, none⟩ = some c2 ∧ w.cell? ⟨g, 3, none⟩ = some c3 ∧ w.cell? ⟨g, 4, none⟩ = some c4 ∧ w.cell? ⟨g, 5, none⟩ = some c5 ∧ w.cell? ⟨g, 6, none⟩ = some c6 ∧ w.cell? ⟨g, 7, none⟩ = some c7 := ⟨row_cell h.1 (j := 0) rfl, row_cell h.1 (j := 1) rfl, row_cell h.1 (j := 2) rfl, row_cell h.1 (j := 3) rfl, row_cell h.1 (j := 4) rfl, row_cell h.1 (j := 5) rfl, row_cell h.1 (j := 6) rfl, row_cell h.1 (j := 7) rfl⟩
theorem XK.k {w : World} {g : Nat} {ca : List Value} {c0 c1 c2 c3 c4 c5 c6 c7 c8 c9 c10 : Value} (h : XK w g ca [c0, c1, c2, c3, c4, c5, c6, c7, c8, c9, c10]) : w.cell? ⟨g + 1, 0, none⟩ = some c0 ∧ w.cell? ⟨g + 1, 1, none⟩ = some c1 ∧ w.cell? ⟨g + 1, 2, none⟩ = some c2 ∧ w.cell? ⟨g + 1, 3, none⟩ = some c3 ∧ w.cell? ⟨g + 1, 4, none⟩ = some c4 ∧ w.cell? ⟨g + 1, 5, none⟩ = some c5 ∧ w.cell? ⟨g + 1, 6, none⟩ = some c6 ∧ w.cell? ⟨g + 1, 7, none⟩ = some c7 ∧ w.cell? ⟨g + 1, 8, none⟩ = some c8 ∧ w.cell? ⟨g + 1, 9, none⟩ = some c9 ∧ w.cell? ⟨g + 1, 10, none⟩ = some c10 := ⟨row_cell h.2 (j := 0) rfl, row_cell h.2 (j := 1) rfl, row_cell h.2 (j := 2) rfl, row_cell h.2 (j := 3) rfl, row_cell h.2 (j := 4) rfl, row_cell h.2 (j := 5) rfl, row_cell h.2 (j := 6) rfl, row_cell h.2 (j := 7) rfl, row_cell h.2 (j := 8) rfl, row_cell h.2 (j := 9) rfl, row_cell h.2 (j := 10) rfl⟩
end Go.Proofs.YteknippgiljgeaaGreatDoor
