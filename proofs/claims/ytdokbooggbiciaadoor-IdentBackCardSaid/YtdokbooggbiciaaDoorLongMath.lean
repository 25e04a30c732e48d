/-
  Plain facts: a varint in more bytes than needed, and one that is cut off.
-/
import Derived.Test.YtdokbooggbiciaaDoorNums2
namespace Go.Proofs.YtdokbooggbiciaaDoor
open Go.RowKit

def hi128 : List UInt8 → List UInt8
  | [] => []
  | [c] => [UInt8.ofNat (c.toNat + 128)]
  | c :: d :: r => c :: hi128 (d :: r)
theorem hi128_snoc : ∀ (l : List UInt8) (c : UInt8), hi128 (l ++ [c]) = l ++ [UInt8.ofNat (c.toNat + 128)]
  | [], c => rfl
  | [a], c => rfl
  | a :: b :: r, c => by
    show hi128 (a :: b :: (r ++ [c])) = _
    rw [hi128]
    have := hi128_snoc (b :: r) c
    simp only [List.cons_append] at this
    rw [this]; rfl
/-- the bytes of a varint: all but the last one have the high bit -/
theorem vputF_shape : ∀ (f n : Nat), n < 2 * 128 ^ f → ∃ init c, vputF f n = init ++ [c] ∧ (∀ b ∈ init, 128 ≤ b.toNat) ∧ c.toNat < 128
  | 0, n, h => ⟨[], UInt8.ofNat n, rfl, by simp, by rw [ofNat_toNat (by omega)]; omega⟩
  | f + 1, n, h => by
    rw [vputF]
    split
    · exact ⟨[], UInt8.ofNat n, rfl, by simp, by rw [ofNat_toNat (by omega)]; omega⟩
    · obtain ⟨init, c, h1, h2, h3⟩ := vputF_shape f (n / 128) (by rw [Nat.pow_succ] at h; omega)
      refine ⟨UInt8.ofNat (n % 128 + 128) :: init, c, by rw [h1]; rfl, ?_, h3⟩
      intro b hb
      rcases List.mem_cons.1 hb with rfl | hb
      · rw [ofNat_toNat (by omega)]; omega
      · exact h2 b hb
theorem vput_shape {n : Nat} (h : n < 2 ^ 64) : ∃ init c, vput n = init ++ [c] ∧ (∀ b ∈ init, 128 ≤ b.toNat) ∧ c.toNat < 128 := vputF_shape 9 n (by omega)
theorem vgetGo_hi {f k m : Nat} {b : UInt8} {r : List UInt8} (h1 : 1 ≤ f) (h : 128 ≤ b.toNat) : vgetGo (f + 1) k m (b :: r) = vgetGo f (k + 1) (m + (b.toNat - 128) * 128 ^ k) r := by
  rw [vgetGo, if_neg (by omega), if_neg (by omega)]
theorem vgetGo_pad : ∀ (r f k m : Nat), r + 1 ≤ f → vgetGo f k m (List.replicate r 128 ++ [0]) = .ok (m, k + r + 1)
  | 0, f + 1, k, m, _ => by
    show vgetGo (f + 1) k m [0] = _
    rw [vgetGo, if_neg (by simp), if_pos (by simp)]; simp
  | r + 1, f + 1, k, m, h => by
    show vgetGo (f + 1) k m ((128 : UInt8) :: (List.replicate r 128 ++ [0])) = _
    rw [vgetGo_hi (by omega) (by decide), vgetGo_pad r f (k + 1) _ (by omega)]
    have : (128 : UInt8).toNat = 128 := rfl
    simp [this]; omega
theorem vgetGo_hi128 : ∀ (f F k m n : Nat) (tail : List UInt8), n < 2 * 128 ^ f → (vputF f n).length < F →
    vgetGo F k m (hi128 (vputF f n) ++ tail) = vgetGo (F - (vputF f n).length) (k + (vputF f n).length) (m + n * 128 ^ k) tail
  | 0, F, k, m, n, tail, hn, hF => by
    simp only [vputF, hi128, List.length_cons, List.length_nil, List.cons_append, List.nil_append] at hF ⊢
    obtain ⟨g, rfl⟩ : ∃ g, F = g + 1 := ⟨F - 1, by omega⟩
    rw [ofNat_toNat (n := n) (by omega), vgetGo_hi (by omega) (by rw [ofNat_toNat (by omega)]; omega), ofNat_toNat (by omega)]
    simp
  | f + 1, F, k, m, n, tail, hn, hF => by
    by_cases h : n < 128
    · rw [vputF, if_pos h] at hF ⊢
      simp only [hi128, List.length_cons, List.length_nil, List.cons_append, List.nil_append] at hF ⊢
      obtain ⟨g, rfl⟩ : ∃ g, F = g + 1 := ⟨F - 1, by omega⟩
      rw [ofNat_toNat (n := n) (by omega), vgetGo_hi (by omega) (by rw [ofNat_toNat (by omega)]; omega), ofNat_toNat (by omega)]
      simp
    · rw [vputF, if_neg h] at hF ⊢
      obtain ⟨d, r, hd⟩ : ∃ d r, vputF f (n / 128) = d :: r := by
        have := (vputF_length f (n / 128)).1
        cases hh : vputF f (n / 128) with
        | nil => rw [hh] at this; simp at this
        | cons d r => exact ⟨d, r, rfl⟩
      have ih := vgetGo_hi128 f (F - 1) (k + 1) (m + n % 128 * 128 ^ k) (n / 128) tail (by rw [Nat.pow_succ] at hn; omega) (by simp at hF; omega)
      have hh : hi128 (UInt8.ofNat (n % 128 + 128) :: vputF f (n / 128)) = UInt8.ofNat (n % 128 + 128) :: hi128 (vputF f (n / 128)) := by rw [hd]; rfl
      have hlen := (vputF_length f (n / 128)).1
      rw [hh]
      simp only [List.cons_append, List.length_cons] at hF ⊢
      obtain ⟨g, rfl⟩ : ∃ g, F = g + 1 := ⟨F - 1, by omega⟩
      rw [vgetGo_hi (by omega) (by rw [ofNat_toNat (by omega)]; omega), ofNat_toNat (by omega), show n % 128 + 128 - 128 = n % 128 by omega]
      rw [show g + 1 - 1 = g by omega] at ih
      rw [ih, Nat.pow_succ]
      generalize 128 ^ k = P
      have h3 : n % 128 * P + n / 128 * (P * 128) = n * P := by
        have e1 : n / 128 * (P * 128) = (n / 128 * 128) * P := by rw [Nat.mul_comm P, Nat.mul_assoc]
        have e0 : n % 128 + n / 128 * 128 = n := by omega
        rw [e1, ← Nat.add_mul, e0]
      generalize vputF f (n / 128) = L
      have e2 : m + n % 128 * P + n / 128 * (P * 128) = m + n * P := by omega
      have e3 : k + 1 + L.length = k + (L.length + 1) := by omega
      have e4 : g + 1 - (L.length + 1) = g - L.length := by omega
      rw [e2, e3, e4]
/-- a number in more bytes than needed -/
theorem vget_long {n r : Nat} (hn : n < 2 ^ 64) (h : (vput n).length + r + 1 ≤ 10) : vget (hi128 (vput n) ++ List.replicate r 128 ++ [0]) 0 = .ok (n, (vput n).length + r + 1) := by
  have h0 := vget_in (l := hi128 (vput n) ++ List.replicate r 128 ++ [0]) (p := 0) (by omega)
  rw [show ((0 : Nat) : Int) = 0 from rfl] at h0
  rw [h0, List.drop_zero, List.append_assoc, vput, vgetGo_hi128 9 10 0 0 n _ (by omega) (by rw [vput] at h; omega), vgetGo_pad _ _ _ _ (by rw [vput] at h; omega)]
  simp
theorem vgetGo_cut : ∀ (l : List UInt8) (f k m : Nat), (∀ b ∈ l, 128 ≤ b.toNat) → l.length < f → vgetGo f k m l = .error 1
  | [], f + 1, k, m, _, _ => rfl
  | b :: l, f + 1, k, m, h, hl => by
    simp at hl
    rw [vgetGo_hi (by omega) (h b (by simp))]
    exact vgetGo_cut l f _ _ (fun x hx => h x (by simp [hx])) hl
theorem vget_cut {l : List UInt8} {q : Nat} (hl : l.length ≤ 10) (hq : q < l.length) (h : ∀ b ∈ l.dropLast, 128 ≤ b.toNat) : vget (l.take q) 0 = .error 1 := by
  have h0 := vget_in (l := l.take q) (p := 0) (by omega)
  rw [show ((0 : Nat) : Int) = 0 from rfl] at h0
  rw [h0, List.drop_zero, vgetGo_cut _ _ _ _ (fun b hb => h b ?_) (by simp; omega)]
  rw [List.dropLast_eq_take]
  have : l.take q = (l.take (l.length - 1)).take q := by rw [List.take_take, Nat.min_eq_left (by omega)]
  rw [this] at hb
  exact List.mem_of_mem_take hb
theorem vget_self {n : Nat} (hn : n < 2 ^ 64) : vget (vput n) 0 = .ok (n, (vput n).length) := by
  have := vget_vput [] [] hn
  simpa using this
end Go.Proofs.YtdokbooggbiciaaDoor
