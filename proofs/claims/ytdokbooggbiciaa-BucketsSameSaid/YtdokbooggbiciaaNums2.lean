/-
  Plain facts: what vput writes vget reads.
-/
import Derived.Test.YtdokbooggbiciaaNums
namespace Go.Proofs.Ytdokbooggbiciaa
open Go.RowKit

theorem ofNat_toNat {n : Nat} (h : n < 256) : (UInt8.ofNat n).toNat = n := by simp; omega
theorem vgetGo_vputF : ∀ (f k m n : Nat) (post : List UInt8), f + k = 9 → n < 2 * 128 ^ f → vgetGo (f + 1) k m (vputF f n ++ post) = .ok (m + n * 128 ^ k, k + (vputF f n).length)
  | 0, k, m, n, post, hk, hn => by
    have hn : n < 2 := by simpa using hn
    simp only [vputF, List.cons_append, List.nil_append, vgetGo, List.length_cons, List.length_nil]
    rw [ofNat_toNat (by omega), if_neg (by omega), if_pos (by omega)]
  | f + 1, k, m, n, post, hk, hn => by
    rw [vputF]
    by_cases h : n < 128
    · rw [if_pos h]
      simp only [List.cons_append, List.nil_append, vgetGo, List.length_cons, List.length_nil]
      rw [ofNat_toNat (by omega), if_neg (by omega), if_pos h]
    · rw [if_neg h]
      simp only [List.cons_append, List.length_cons]
      rw [vgetGo, ofNat_toNat (by omega), if_neg (by omega), if_neg (by omega), vgetGo_vputF f (k + 1) _ (n / 128) post (by omega) (by rw [Nat.pow_succ] at hn; omega)]
      have e : n % 128 + 128 - 128 = n % 128 := by omega
      rw [e, Nat.pow_succ]
      generalize 128 ^ k = P
      have h3 : n % 128 * P + n / 128 * (P * 128) = n * P := by
        have e1 : n / 128 * (P * 128) = (n / 128 * 128) * P := by rw [Nat.mul_comm P, Nat.mul_assoc]
        have e0 : n % 128 + n / 128 * 128 = n := by omega
        rw [e1, ← Nat.add_mul, e0]
      generalize vputF f (n / 128) = L
      have e2 : m + n % 128 * P + n / 128 * (P * 128) = m + n * P := by omega
      have e3 : k + 1 + L.length = k + (L.length + 1) := by omega
      rw [e2, e3]
theorem vget_vput (pre post : List UInt8) {n : Nat} (hn : n < 2 ^ 64) : vget (pre ++ vput n ++ post) pre.length = .ok (n, pre.length + (vput n).length) := by
  rw [vget_in (by simp), List.append_assoc, List.drop_left, vput, vgetGo_vputF 9 0 0 n post rfl (by omega)]
  simp
theorem vputF_length : ∀ (f n : Nat), 1 ≤ (vputF f n).length ∧ (vputF f n).length ≤ f + 1
  | 0, n => by simp [vputF]
  | f + 1, n => by
    rw [vputF]
    split
    · simp
    · have := vputF_length f (n / 128)
      simp; omega
theorem vput_length (n : Nat) : 1 ≤ (vput n).length ∧ (vput n).length ≤ 10 := vputF_length 9 n

/-- many numbers, one behind the other -/
def vputs (l : List Nat) : List UInt8 := l.flatMap vput
theorem vputs_length (l : List Nat) : (vputs l).length ≤ 10 * l.length := by
  induction l with
  | nil => simp [vputs]
  | cons n l ih => have := (vput_length n).2; simp [vputs] at ih ⊢; omega
theorem vputs_take (l : List Nat) (k : Nat) (h : k < l.length) : vputs (l.take (k + 1)) = vputs (l.take k) ++ vput l[k] := by
  unfold vputs; rw [List.take_succ_eq_append_getElem h, List.flatMap_append, List.flatMap_singleton]
theorem vputs_split (l : List Nat) (k : Nat) (h : k < l.length) : vputs l = vputs (l.take k) ++ vput l[k] ++ vputs (l.drop (k + 1)) := by
  conv => lhs; rw [← List.take_append_drop (k + 1) l]
  unfold vputs; rw [List.flatMap_append, List.take_succ_eq_append_getElem h, List.flatMap_append, List.flatMap_singleton]
theorem vget_vputs (l : List Nat) (k : Nat) (h : k < l.length) (hl : ∀ n ∈ l, n < 2 ^ 64) : vget (vputs l) (vputs (l.take k)).length = .ok (l[k], (vputs (l.take (k + 1))).length) := by
  have := vget_vput (vputs (l.take k)) (vputs (l.drop (k + 1))) (hl l[k] (List.getElem_mem _))
  rw [← vputs_split l k h] at this
  rw [this, vputs_take l k h]
  simp
end Go.Proofs.Ytdokbooggbiciaa
