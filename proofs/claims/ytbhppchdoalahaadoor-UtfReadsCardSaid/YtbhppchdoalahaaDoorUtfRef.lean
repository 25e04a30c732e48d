/-
  What the reference of utf's sign stands on.
-/
import Derived.Test.YtbhppchdoalahaaDoorUtf2
namespace Go.Proofs.YtbhppchdoalahaaDoor
open Go.RowKit

theorem usign_fail {l : List UInt8} {n j : Nat} (hn : usize (l.getD 0 0).toNat = n) (hjn : j < n)
    (h : l.length ≤ j ∨ (j = 1 ∧ usecond (l.getD 0 0).toNat (l.getD 1 0).toNat = false) ∨ (2 ≤ j ∧ ucont (l.getD j 0) = false)) : usign l = 0 := by
  rw [usign_val hn]
  split
  · rfl
  · rename_i h1
    split
    · rfl
    · rename_i h2
      have hl : n ≤ l.length := by omega
      rcases h with h | ⟨_, h⟩ | ⟨h3, h⟩
      · omega
      · exact absurd ⟨by omega, h⟩ h2
      · rw [if_neg]
        intro ha
        rw [List.all_eq_true] at ha
        have hm : l.getD j 0 ∈ (l.take n).drop 2 := by
          rw [List.getD_eq_getElem?_getD, List.getElem?_eq_getElem (by omega)]
          refine List.mem_iff_getElem.2 ⟨j - 2, by simp; omega, ?_⟩
          simp only [List.getElem_drop, List.getElem_take]
          have e : 2 + (j - 2) = j := by omega
          simp [e]
        rw [ha _ hm] at h
        cases h
theorem usign_ok {l : List UInt8} {n : Nat} (hn : usize (l.getD 0 0).toNat = n) (h0 : n ≠ 0) (hl : n ≤ l.length) (h1 : 1 < n → usecond (l.getD 0 0).toNat (l.getD 1 0).toNat = true)
    (h2 : ∀ k, 2 ≤ k → k < n → ucont (l.getD k 0) = true) : usign l = n := by
  rw [usign_val hn, if_neg (by omega), if_neg (by rintro ⟨h3, h4⟩; rw [h1 h3] at h4; cases h4), if_pos]
  rw [List.all_eq_true]
  intro x hx
  obtain ⟨i, hi, rfl⟩ := List.mem_iff_getElem.1 hx
  have hi' : i < n - 2 := by simp at hi; omega
  have := h2 (i + 2) (by omega) (by omega)
  rw [List.getD_eq_getElem?_getD, List.getElem?_eq_getElem (by omega)] at this
  simp only [List.getElem_drop, List.getElem_take]
  have e : 2 + i = i + 2 := by omega
  simpa [e] using this
theorem drop_getD (s : ByteArray) (i j : Nat) (h : i + j < s.size) : (s.data.toList.drop i).getD j 0 = s[i + j]'h := by
  rw [← byte_getD s (i + j) h, List.getD_eq_getElem?_getD, List.getElem?_drop, List.getD_eq_getElem?_getD]
/-- what the loop of the reference's sign holds -/
def SgnRel (l : List UInt8) (n : Nat) (lo hi j : Nat) : Prop :=
  1 ≤ j ∧ j ≤ n ∧ j ≤ l.length ∧ (j = 1 → ∀ d, usecond (l.getD 0 0).toNat d = decide (lo ≤ d ∧ d ≤ hi)) ∧ (1 < j → lo = 128 ∧ hi = 191 ∧ usecond (l.getD 0 0).toNat (l.getD 1 0).toNat = true) ∧
    ∀ k, 2 ≤ k → k < j → ucont (l.getD k 0) = true
theorem sgn_next {l : List UInt8} {n lo hi j : Nat} (h : SgnRel l n lo hi j) (hj : j < n) (hl : j < l.length) (h1 : lo ≤ (l.getD j 0).toNat) (h2 : (l.getD j 0).toNat ≤ hi) : SgnRel l n 128 191 (j + 1) := by
  obtain ⟨a, b, c, d, e, f⟩ := h
  refine ⟨by omega, by omega, by omega, by omega, fun _ => ⟨rfl, rfl, ?_⟩, fun k k1 k2 => ?_⟩
  · by_cases hj1 : j = 1
    · subst hj1
      rw [d rfl]
      simp only [decide_eq_true_eq]
      exact ⟨h1, h2⟩
    · exact (e (by omega)).2.2
  · by_cases hk : k < j
    · exact f k k1 hk
    · obtain rfl : k = j := by omega
      obtain ⟨rfl, rfl, _⟩ := e (by omega)
      unfold ucont
      simp only [decide_eq_true_eq]
      exact ⟨h1, h2⟩
theorem sgn_fail {l : List UInt8} {n lo hi j : Nat} (hn : usize (l.getD 0 0).toNat = n) (h : SgnRel l n lo hi j) (hj : j < n) (hl : l.length ≤ j ∨ (l.getD j 0).toNat < lo ∨ hi < (l.getD j 0).toNat) : usign l = 0 := by
  obtain ⟨a, b, c, d, e, f⟩ := h
  refine usign_fail hn hj ?_
  rcases hl with hl | hl
  · exact .inl hl
  · by_cases hj1 : j = 1
    · subst hj1
      refine .inr (.inl ⟨rfl, ?_⟩)
      rw [d rfl]
      simp only [decide_eq_false_iff_not]
      omega
    · obtain ⟨rfl, rfl, _⟩ := e (by omega)
      refine .inr (.inr ⟨by omega, ?_⟩)
      unfold ucont
      simp only [decide_eq_false_iff_not]
      omega
theorem sgn_done {l : List UInt8} {n lo hi : Nat} (hn : usize (l.getD 0 0).toNat = n) (h : SgnRel l n lo hi n) : usign l = n := by
  obtain ⟨a, b, c, d, e, f⟩ := h
  exact usign_ok hn (by omega) c (fun h => (e h).2.2) f
end Go.Proofs.YtbhppchdoalahaaDoor
