/-
  value.list, of values, of attributes.
-/
import Derived.Test.YtbdbmkmebeemoaaGreatDoorAdd
import Derived.Test.YtbdbmkmebeemoaaGreatDoorValTake
namespace Go.Proofs.YtbdbmkmebeemoaaGreatDoor
open Go.RowKit

/-- a list that is being read, at block b -/
def VLAt (b : Nat) (xs : List Val) (P : Nat → Prop) (w : World) : Prop := ∃ (v : Value) (css : List (List Value)) (Q : Nat → Prop), w.heap[b]? = some (.cells #[v] 74 (0, 0)) ∧ w.ownsRow (b + 1) 76 8 v xs.length css.flatten ∧ css.length = xs.length ∧ (∀ j (h1 : j < xs.length) (h2 : j < css.length), VRel w Q xs[j] css[j]) ∧ (∀ k, Q k → k < w.heap.size ∧ b + 1 ≤ k ∧ v.ownBlock ≠ some k) ∧ P = fun k => k = b ∨ v.ownBlock = some k ∨ Q k
/-- a list that is being read, at block b -/
def KLAt (b : Nat) (xs : List KV) (P : Nat → Prop) (w : World) : Prop := ∃ (v : Value) (css : List (List Value)) (Q : Nat → Prop), w.heap[b]? = some (.cells #[v] 23 (0, 0)) ∧ w.ownsRow (b + 1) 78 11 v xs.length css.flatten ∧ css.length = xs.length ∧ (∀ j (h1 : j < xs.length) (h2 : j < css.length), KRel w Q xs[j] css[j]) ∧ (∀ k, Q k → k < w.heap.size ∧ b + 1 ≤ k ∧ v.ownBlock ≠ some k) ∧ P = fun k => k = b ∨ v.ownBlock = some k ∨ Q k
theorem VLAt.lt {b : Nat} {xs : List Val} {P : Nat → Prop} {w : World} (h : VLAt b xs P w) : ∀ k, P k → k < w.heap.size := by
  obtain ⟨v, css, Q, h1, h2, h3, h4, h5, rfl⟩ := h
  rintro k (rfl | hk | hk)
  · exact row_lt h1
  · exact (h2.lt k hk).2
  · exact (h5 k hk).1
theorem VLAt.kept {b : Nat} {xs : List Val} {P : Nat → Prop} {w w' : World} (h : VLAt b xs P w) (hu : Upd (fun k => ¬ P k) w w') : VLAt b xs P w' := by
  obtain ⟨v, css, Q, h1, h2, h3, h4, h5, rfl⟩ := h
  exact ⟨v, css, Q, (hu.block b (row_lt h1) (fun h => h (.inl rfl))).trans h1, hu.own h2 (fun k hk h => h (.inr (.inl hk))), h3, fun j g1 g2 => VRel.upd hu (fun k hk h => h (.inr (.inr hk))) (fun k hk => hk) _ _ (h4 j g1 g2), fun k hk => ⟨Nat.lt_of_lt_of_le (h5 k hk).1 hu.size, (h5 k hk).2⟩, rfl⟩
theorem KLAt.lt {b : Nat} {xs : List KV} {P : Nat → Prop} {w : World} (h : KLAt b xs P w) : ∀ k, P k → k < w.heap.size := by
  obtain ⟨v, css, Q, h1, h2, h3, h4, h5, rfl⟩ := h
  rintro k (rfl | hk | hk)
  · exact row_lt h1
  · exact (h2.lt k hk).2
  · exact (h5 k hk).1
theorem KLAt.kept {b : Nat} {xs : List KV} {P : Nat → Prop} {w w' : World} (h : KLAt b xs P w) (hu : Upd (fun k => ¬ P k) w w') : KLAt b xs P w' := by
  obtain ⟨v, css, Q, h1, h2, h3, h4, h5, rfl⟩ := h
  exact ⟨v, css, Q, (hu.block b (row_lt h1) (fun h => h (.inl rfl))).trans h1, hu.own h2 (fun k hk h => h (.inr (.inl hk))), h3, fun j g1 g2 => KRel.upd hu (fun k hk h => h (.inr (.inr hk))) (fun k hk => hk) _ _ (h4 j g1 g2), fun k hk => ⟨Nat.lt_of_lt_of_le (h5 k hk).1 hu.size, (h5 k hk).2⟩, rfl⟩
end Go.Proofs.YtbdbmkmebeemoaaGreatDoor

