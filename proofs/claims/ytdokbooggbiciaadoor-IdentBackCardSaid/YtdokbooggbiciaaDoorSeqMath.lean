/-
  Numbers behind one another in a text: what is read, whether it is written in no more bytes than needed.
-/
import Derived.Test.YtdokbooggbiciaaDoorLongMath
import Derived.Test.YtdokbooggbiciaaDoorNums2
namespace Go.Proofs.YtdokbooggbiciaaDoor
open Go.RowKit

theorem vgetGo_inv : ∀ (f k m : Nat) (l : List UInt8) {v e : Nat}, vgetGo (f + 1) k m l = .ok (v, e) → ∃ n j, e = k + j ∧ 1 ≤ j ∧ j ≤ l.length ∧ v = m + n * 128 ^ k ∧ n < 2 * 128 ^ f ∧ (vputF f n).length ≤ j ∧ ((vputF f n).length = j → l.take j = vputF f n)
  | f, k, m, [], v, e, h => by simp [vgetGo] at h
  | 0, k, m, c :: r, v, e, h => by
    simp only [vgetGo] at h
    split at h
    · simp at h
    · rename_i h0
      have h0' : c.toNat ≤ 1 := by simp at h0; exact h0
      split at h
      · simp at h
        obtain ⟨rfl, rfl⟩ := h
        refine ⟨c.toNat, 1, rfl, by omega, by simp, rfl, by simp; omega, by simp [vputF], fun _ => ?_⟩
        simp [vputF]
      · simp at h
  | f + 1, k, m, c :: r, v, e, h => by
    rw [vgetGo, if_neg (by omega)] at h
    split at h
    · rename_i hc
      simp at h
      obtain ⟨rfl, rfl⟩ := h
      have hp : 1 ≤ 128 ^ f := Nat.pow_pos (by decide)
      refine ⟨c.toNat, 1, rfl, by omega, by simp, rfl, by rw [Nat.pow_succ]; omega, by rw [vputF, if_pos hc]; simp, fun _ => ?_⟩
      rw [vputF, if_pos hc]
      simp
    · rename_i hc
      obtain ⟨n, j, rfl, h1, h2, rfl, h3, h4, h5⟩ := vgetGo_inv f (k + 1) _ r h
      have hb := c.toNat_lt
      refine ⟨c.toNat - 128 + 128 * n, j + 1, by omega, by omega, by simp; omega, ?_, by rw [Nat.pow_succ]; omega, ?_, ?_⟩
      · rw [Nat.pow_succ, Nat.add_mul, Nat.add_assoc]
        congr 2
        rw [Nat.mul_comm (128 ^ k), ← Nat.mul_assoc, Nat.mul_comm n]
      · rw [vputF]
        split
        · simp
        · rw [show (c.toNat - 128 + 128 * n) / 128 = n by omega]
          simp
          omega
      · intro he
        rw [vputF] at he ⊢
        split at he
        · simp at he; omega
        · rename_i hn
          rw [if_neg hn]
          rw [show (c.toNat - 128 + 128 * n) / 128 = n by omega] at he ⊢
          rw [show (c.toNat - 128 + 128 * n) % 128 + 128 = c.toNat by omega]
          simp at he
          rw [List.take_succ_cons, h5 (by omega)]
          simp
theorem vget_inv {l : List UInt8} {p n q : Nat} (h : vget l (p : Int) = .ok (n, q)) : p < q ∧ q ≤ l.length ∧ n < 2 ^ 64 ∧ (vput n).length ≤ q - p ∧ ((vput n).length = q - p → l.take q = l.take p ++ vput n) := by
  have hp : p ≤ l.length := by
    rcases Nat.lt_or_ge l.length p with h1 | h1
    · rw [get_out (by omega)] at h; simp at h
    · exact h1
  rw [vget_in hp] at h
  split at h
  · rename_i v e hv
    simp at h
    obtain ⟨rfl, rfl⟩ := h
    obtain ⟨n, j, rfl, h1, h2, rfl, h3, h4, h5⟩ := vgetGo_inv 9 0 0 _ hv
    simp at h2
    have e0 : 0 + n * 128 ^ 0 = n := by simp
    rw [e0]
    refine ⟨by omega, by omega, by omega, ?_, fun he => ?_⟩
    · show (vputF 9 n).length ≤ _
      omega
    · have he' : (vputF 9 n).length = j := by
        have : (vput n).length = (vputF 9 n).length := rfl
        omega
      have := h5 he'
      rw [show p + (0 + j) = p + j by omega, List.take_add, this]
      rfl
  · simp at h

/-- the first k numbers: they, where they end, whether one is longer than needed -/
def rdn (l : List UInt8) : Nat → Except Nat (List Nat × Nat × Bool)
  | 0 => .ok ([], 0, false)
  | k + 1 => match rdn l k with
    | .ok (xs, q, b) => match vget l (q : Int) with
      | .ok (n, e) => .ok (xs ++ [n], e, b || decide ((vput n).length < e - q))
      | .error c => .error c
    | .error c => .error c
theorem rdn_step {l : List UInt8} {k : Nat} {xs : List Nat} {q : Nat} {b : Bool} (h : rdn l k = .ok (xs, q, b)) {n e : Nat} (hv : vget l (q : Int) = .ok (n, e)) : rdn l (k + 1) = .ok (xs ++ [n], e, b || decide ((vput n).length < e - q)) := by
  simp only [rdn, h, hv]
theorem rdn_stop {l : List UInt8} {k : Nat} {xs : List Nat} {q : Nat} {b : Bool} (h : rdn l k = .ok (xs, q, b)) {c : Nat} (hv : vget l (q : Int) = .error c) : rdn l (k + 1) = .error c := by
  simp only [rdn, h, hv]
theorem rdn_more {l : List UInt8} {k c : Nat} (h : rdn l k = .error c) (j : Nat) : rdn l (k + j) = .error c := by
  induction j with
  | zero => exact h
  | succ j ih => rw [← Nat.add_assoc]; simp only [rdn, ih]
theorem rdn_back {l : List UInt8} {k : Nat} {xs : List Nat} {q : Nat} {b : Bool} (h : rdn l (k + 1) = .ok (xs, q, b)) : ∃ ys p d n, rdn l k = .ok (ys, p, d) ∧ vget l (p : Int) = .ok (n, q) ∧ xs = ys ++ [n] ∧ b = (d || decide ((vput n).length < q - p)) := by
  simp only [rdn] at h
  split at h
  · rename_i ys p d hk
    split at h
    · rename_i n e hv
      simp at h
      obtain ⟨rfl, rfl, rfl⟩ := h
      exact ⟨ys, p, d, n, hk, hv, rfl, rfl⟩
    · simp at h
  · simp at h
theorem rdn_facts {l : List UInt8} : ∀ {k : Nat} {xs : List Nat} {q : Nat} {b : Bool}, rdn l k = .ok (xs, q, b) → xs.length = k ∧ k ≤ q ∧ q ≤ l.length ∧ (∀ n ∈ xs, n < 2 ^ 64) ∧ (b = false → l.take q = vputs xs)
  | 0, xs, q, b, h => by
    simp [rdn] at h
    obtain ⟨rfl, rfl, rfl⟩ := h
    simp [vputs]
  | k + 1, xs, q, b, h => by
    obtain ⟨ys, p, d, n, hk, hv, rfl, rfl⟩ := rdn_back h
    obtain ⟨h1, h2, h3, h4, h5⟩ := rdn_facts hk
    obtain ⟨g1, g2, g3, g4, g5⟩ := vget_inv hv
    refine ⟨by simp [h1], by omega, g2, ?_, ?_⟩
    · intro m hm
      rcases List.mem_append.1 hm with hm | hm
      · exact h4 m hm
      · simp at hm; omega
    · intro hb
      simp at hb
      rw [g5 (by omega), h5 hb.1]
      simp [vputs]
theorem rdn_puts (xs : List Nat) (rest : List UInt8) (hx : ∀ n ∈ xs, n < 2 ^ 64) : ∀ k, k ≤ xs.length → rdn (vputs xs ++ rest) k = .ok (xs.take k, (vputs (xs.take k)).length, false)
  | 0, _ => by simp [rdn, vputs]
  | k + 1, h => by
    have ih := rdn_puts xs rest hx k (by omega)
    have hs := vputs_split xs k (by omega)
    have hv : vget (vputs xs ++ rest) ((vputs (xs.take k)).length : Nat) = .ok (xs[k], (vputs (xs.take k)).length + (vput xs[k]).length) := by
      rw [hs, List.append_assoc]
      exact vget_vput _ _ (hx _ (List.getElem_mem _))
    rw [rdn_step ih hv]
    have e1 : xs.take (k + 1) = xs.take k ++ [xs[k]] := List.take_succ_eq_append_getElem (by omega)
    have e2 : (vputs (xs.take (k + 1))).length = (vputs (xs.take k)).length + (vput xs[k]).length := by rw [vputs_take xs k (by omega)]; simp
    rw [e1, ← e1, e2, e1]
    simp
theorem rdn_all (xs : List Nat) (rest : List UInt8) (hx : ∀ n ∈ xs, n < 2 ^ 64) : rdn (vputs xs ++ rest) xs.length = .ok (xs, (vputs xs).length, false) := by
  have := rdn_puts xs rest hx xs.length (Nat.le_refl _)
  rwa [List.take_length] at this
/-- no number stands behind the last one -/
theorem rdn_past (xs : List Nat) (hx : ∀ n ∈ xs, n < 2 ^ 64) (j : Nat) : ∃ c, rdn (vputs xs) (xs.length + j + 1) = .error c := by
  have h := rdn_all xs [] hx
  rw [List.append_nil] at h
  have hv : vget (vputs xs) ((vputs xs).length : Nat) = .error 1 := by
    rw [vget_in (Nat.le_refl _), List.drop_length]; rfl
  have h1 := rdn_stop h hv
  exact ⟨1, by rw [show xs.length + j + 1 = xs.length + 1 + j by omega]; exact rdn_more h1 j⟩
/-- cut off by a byte -/
theorem rdn_cut (xs : List Nat) (n : Nat) (hx : ∀ m ∈ xs, m < 2 ^ 64) (hn : n < 2 ^ 64) : ∃ c, rdn ((vputs (xs ++ [n])).dropLast) (xs ++ [n]).length = .error c := by
  have hne : vput n ≠ [] := by
    intro h
    have := (vput_length n).1
    rw [h] at this
    simp at this
  have e : (vputs (xs ++ [n])).dropLast = vputs xs ++ (vput n).dropLast := by
    have : vputs (xs ++ [n]) = vputs xs ++ vput n := by simp [vputs]
    rw [this, List.dropLast_append_of_ne_nil hne]
  have h := rdn_all xs ((vput n).dropLast) hx
  obtain ⟨init, c, hsh, h1, h2⟩ := vput_shape hn
  have hd : (vput n).dropLast = init := by rw [hsh]; simp
  have hlen := (vput_length n).2
  have hv : vget (vputs xs ++ (vput n).dropLast) ((vputs xs).length : Nat) = .error 1 := by
    rw [vget_in (by simp), List.drop_left, hd, vgetGo_cut init 10 0 0 h1 (by rw [hsh] at hlen; simp at hlen; omega)]
  refine ⟨1, ?_⟩
  rw [e, List.length_append]
  exact rdn_stop h hv
end Go.Proofs.YtdokbooggbiciaaDoor
