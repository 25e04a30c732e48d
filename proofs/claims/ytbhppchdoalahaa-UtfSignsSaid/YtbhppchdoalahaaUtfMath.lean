/-
  Plain facts on signs and texts.
-/
import Derived.Test.YtbhppchdoalahaaUtf2
namespace Go.Proofs.Ytbhppchdoalahaa
open Go.RowKit

theorem usign_cases (l : List UInt8) : usign l = 0 ∨ usign l = usize (l.getD 0 0).toNat := by
  unfold usign
  dsimp only
  repeat' split
  all_goals simp
theorem usign_all {l : List UInt8} {n : Nat} (h : usize (l.getD 0 0).toNat = n) (hn : n ≠ 0) (hl : n ≤ l.length) (hs : ¬(1 < n ∧ usecond (l.getD 0 0).toNat (l.getD 1 0).toNat = false)) : usign l = if ((l.take n).drop 2).all ucont then n else 0 := by
  rw [usign_val h, if_neg (by omega), if_neg hs]
theorem usign_take (l : List UInt8) (m : Nat) : usign (l.take m) = if usign l ≤ m then usign l else 0 := by
  rcases Nat.eq_zero_or_pos m with rfl | hm
  · have e : usign ([] : List UInt8) = 0 := by decide
    rw [List.take_zero, e]
    split <;> omega
  · have h0 : (l.take m).getD 0 0 = l.getD 0 0 := by
      rw [List.getD_eq_getElem?_getD, List.getD_eq_getElem?_getD, List.getElem?_take, if_pos hm]
    have hn : usize ((l.take m).getD 0 0).toNat = usize (l.getD 0 0).toNat := by rw [h0]
    have hz := usize_le (l.getD 0 0).toNat
    generalize hz0 : usize (l.getD 0 0).toNat = n at hn hz
    by_cases hn0 : n = 0
    · subst hn0
      rw [usign_0 hn, usign_0 hz0]; split <;> rfl
    · by_cases hl : l.length < n
      · rw [usign_short hz0 hl, usign_short hn (by simp; omega)]; split <;> rfl
      · by_cases hnm : n ≤ m
        · have h1 : 1 < n → (l.take m).getD 1 0 = l.getD 1 0 := fun h => by
            rw [List.getD_eq_getElem?_getD, List.getD_eq_getElem?_getD, List.getElem?_take, if_pos (by omega)]
          have ht : (l.take m).take n = l.take n := by rw [List.take_take, Nat.min_eq_left hnm]
          by_cases hs : 1 < n ∧ usecond (l.getD 0 0).toNat (l.getD 1 0).toNat = false
          · rw [usign_second hz0 hs.1 hs.2, usign_second hn hs.1 (by rw [h0, h1 hs.1]; exact hs.2)]; split <;> rfl
          · rw [usign_all hz0 hn0 (by omega) hs, usign_all hn hn0 (by simp; omega) (by intro h; exact hs (by rw [h0, h1 h.1] at h; exact h)), ht]
            split
            · first | rfl | rw [if_pos hnm]
            · first | rfl | (split <;> rfl)
        · rw [usign_short hn (by simp; omega)]
          split
          · rename_i h
            rcases usign_cases l with e | e
            · exact e.symm
            · rw [hz0] at e; omega
          · rfl
theorem uwhole_cons {l : List UInt8} {n : Int} (h0 : usign l ≠ 0) (h2 : usign l ≤ n) : uwhole l n = usign l + uwhole (l.drop (usign l)) (n - usign l) := by
  have h := whl_next (whl_start l n) (j := 0) (by rintro h; rw [List.drop_zero] at h; subst h; exact h0 (by decide)) (by simpa using h0) (by simpa using h2)
  simpa using h.2
theorem uwhole_stop {l : List UInt8} {n : Int} (h : usign l = 0 ∨ n < usign l) : uwhole l n = 0 := by
  have := whl_stop (whl_start l n) (by rcases h with h | h <;> simp [h])
  simpa using this
theorem uwhole_bound : ∀ (f : Nat) (l : List UInt8) (n : Int), l.length ≤ f → (uwhole l n : Int) ≤ max n 0 := by
  intro f
  induction f with
  | zero =>
    intro l n h
    have : l = [] := List.length_eq_zero_iff.1 (by omega)
    subst this
    have : uwhole ([] : List UInt8) n = 0 := rfl
    omega
  | succ f ih =>
    intro l n h
    by_cases hs : usign l = 0 ∨ n < usign l
    · rw [uwhole_stop hs]; omega
    · have h0 : usign l ≠ 0 := fun e => hs (.inl e)
      have h2 : (usign l : Int) ≤ n := by omega
      rw [uwhole_cons h0 h2]
      have := ih (l.drop (usign l)) (n - usign l) (by simp; omega)
      omega
/-- what is clipped is whole, at its own length and at the bound -/
theorem uwhole_take : ∀ (f : Nat) (l : List UInt8) (n : Int) (m : Int), l.length ≤ f → (uwhole l n : Int) ≤ m → uwhole (l.take (uwhole l n)) m = uwhole l n := by
  intro f
  induction f with
  | zero =>
    intro l n m h _
    have : l = [] := List.length_eq_zero_iff.1 (by omega)
    subst this; rfl
  | succ f ih =>
    intro l n m h hm
    by_cases hs : usign l = 0 ∨ n < usign l
    · rw [uwhole_stop hs]; rfl
    · have h0 : usign l ≠ 0 := fun e => hs (.inl e)
      have h2 : (usign l : Int) ≤ n := by omega
      have hc := uwhole_cons h0 h2
      have hle := (usign_le l).1
      have e1 : usign (l.take (uwhole l n)) = usign l := by rw [usign_take, if_pos (by omega)]
      rw [uwhole_cons (by rw [e1]; exact h0) (by rw [e1]; omega), e1]
      have e2 : (l.take (uwhole l n)).drop (usign l) = (l.drop (usign l)).take (uwhole (l.drop (usign l)) (n - usign l)) := by
        rw [List.drop_take, hc]; congr 1; omega
      rw [e2, ih (l.drop (usign l)) (n - usign l) _ (by simp; omega) (by omega)]
      exact hc.symm
theorem uvalid_iff (l : List UInt8) : uvalid l = true ↔ uwhole l l.length = l.length := by
  unfold uvalid ubad
  split <;> simp [*]
theorem clip_valid (l : List UInt8) (n : Int) : uvalid (l.take (uwhole l n)) = true := by
  rw [uvalid_iff]
  have hle := uwhole_le l n
  have e : (l.take (uwhole l n)).length = uwhole l n := by simp; omega
  rw [e]
  exact uwhole_take l.length l n _ (Nat.le_refl _) (Int.le_refl _)
/-- no longer beginning is a text -/
theorem clip_most (l : List UInt8) (n : Int) (k : Nat) (h1 : 1 ≤ k) (hk : uwhole l n + k ≤ l.length) (hn : (uwhole l n : Int) + k ≤ n) : uvalid ((l.drop (uwhole l n)).take k) = false := by
  have stop : ∀ (f : Nat) (l : List UInt8) (n : Int), l.length ≤ f → usign (l.drop (uwhole l n)) = 0 ∨ n - uwhole l n < usign (l.drop (uwhole l n)) := by
    intro f
    induction f with
    | zero =>
      intro l n h
      have : l = [] := List.length_eq_zero_iff.1 (by omega)
      subst this
      exact .inl rfl
    | succ f ih =>
      intro l n h
      by_cases hs : usign l = 0 ∨ n < usign l
      · rw [uwhole_stop hs]; simpa using hs
      · have h0 : usign l ≠ 0 := fun e => hs (.inl e)
        have hc := uwhole_cons h0 (n := n) (by omega)
        have := ih (l.drop (usign l)) (n - usign l) (by simp; omega)
        rw [List.drop_drop, ← hc] at this
        rw [hc] at this ⊢
        rcases this with h | h
        · exact .inl h
        · exact .inr (by omega)
  have hst := stop l.length l n (Nat.le_refl _)
  have hyl : (l.drop (uwhole l n)).length = l.length - uwhole l n := by simp
  generalize l.drop (uwhole l n) = y at hst hyl
  cases hv : uvalid (y.take k) with
  | false => rfl
  | true =>
    rw [uvalid_iff] at hv
    have hl : (y.take k).length = k := by simp; omega
    rw [hl] at hv
    by_cases hs : usign (y.take k) = 0 ∨ (k : Int) < usign (y.take k)
    · rw [uwhole_stop hs] at hv; omega
    · rw [usign_take] at hs
      split at hs
      · rcases hst with h | h
        · exact absurd (.inl h) hs
        · omega
      · exact absurd (.inl rfl) hs
end Go.Proofs.Ytbhppchdoalahaa
