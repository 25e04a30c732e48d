/-
  To nearest, ties to even, in whole numbers: the reference's ten bits more.
-/
import Derived.Test.YtkpljnfakidjeaaFmA
namespace Go.Proofs.Ytkpljnfakidjeaa.Fm

/-- what the reference's round keeps. -/
def K (S j m : Nat) : Prop := m < 2^64 ∧ m = stk (1024*S) j ∧ (2^61 ≤ m ∨ m*2^j = 1024*S)

theorem K_sum {x y : Nat} (h : y ≤ x) : K (dec x + dec y) (pe x - 1) (pm x * 1024 + stk (pm y * 1024) (pe x - pe y)) := by
  have e := sum_stk h 512
  have a := pm_lt x; have b := pm_lt y
  have hle : stk (pm y * 1024) (pe x - pe y) ≤ stk (2^53*1024) 0 := by
    have h1 : stk (pm y * 1024) (pe x - pe y) ≤ stk (2^53*1024) (pe x - pe y) := stk_mono _ (by omega)
    have hg := (stk_spec (2^53*1024) (pe x - pe y)).gt (2^53*512)
    have hs := stk_spec (2^53*1024) (pe x - pe y) (2^53*512)
    have := Nat.two_pow_pos (pe x - pe y)
    rw [stk_zero]
    have : 2*(2^53*512)*1 ≤ 2*(2^53*512)*2^(pe x - pe y) := Nat.mul_le_mul_left _ this
    omega
  rw [stk_zero] at hle
  refine ⟨by omega, e.symm, ?_⟩
  rcases Nat.lt_or_ge (pm x) (2^52) with h1 | h1
  · right
    have h2 : pe x = 1 := by
      unfold pm at h1; unfold pe
      split <;> simp_all <;> omega
    have := pe_mono h; have := pe_pos y
    rw [h2, show pe y = 1 by omega]
    simp [stk_zero, dec_parts, h2, show pe y = 1 by omega]
    omega
  · left; omega

theorem K_diff {x y : Nat} (hx : x ≤ inf) (h : y ≤ x) : K (dec x - dec y) (pe x - 1) (pm x * 1024 - stk (pm y * 1024) (pe x - pe y)) := by
  have hd := dec_le hx (by omega) h
  have e := diff_stk h hd 512
  have a := pm_lt x; have b := pm_lt y
  have n := near_or (c := 512) (q := 10) h (by decide) (by decide)
  simp only [Nat.reduceMul, Nat.reduceAdd] at e n
  refine ⟨by omega, e.symm, ?_⟩
  rcases n with h1 | h1
  · left; exact h1
  · right
    rw [Nat.sub_mul, h1, Nat.mul_sub]
    congr 1
    rw [dec_parts, Nat.mul_comm (pm x), Nat.mul_assoc]

/-- the place of the reference's lowest bit, and the shift to it. -/
theorem K.place {S j m : Nat} (h : K S j m) (hS : 0 < S) : 0 < m ∧ rk S = m.log2 + j - 62 := by
  obtain ⟨h1, h2, h3⟩ := h
  have hm : 0 < m := by
    have := stk_spec (1024*S) j 0
    simp at this
    omega
  refine ⟨hm, ?_⟩
  have a : 2^m.log2 ≤ m := Nat.log2_self_le (by omega)
  have b : m < 2^(m.log2+1) := Nat.lt_log2_self
  -- as bounds on S
  have bnd : ∀ t, (2^(t+1) ≤ m → 2^(t+1)*2^j ≤ 1024*S) ∧ (m < 2^(t+1) → 1024*S < 2^(t+1)*2^j) := by
    intro t
    have e : 2^(t+1) = 2*2^t := by rw [Nat.mul_comm, ← Nat.pow_succ]
    have g1 := stk_ge (x := 1024*S) (j := j) (t := 2^t)
    have g2 := (stk_spec (1024*S) j).gt (2^t)
    rw [← h2, ← e] at g1 g2
    exact ⟨g1.1, g2.1⟩
  have hi := (bnd m.log2).2 b
  have lo : 2^m.log2 * 2^j ≤ 1024*S := by
    rcases Nat.eq_zero_or_pos m.log2 with hz | hz
    · rcases h3 with h3 | h3
      · rw [hz] at b; omega
      · rw [← h3]; exact Nat.mul_le_mul_right _ a
    · have := (bnd (m.log2-1)).1 (by rw [show m.log2 - 1 + 1 = m.log2 by omega]; exact a)
      rwa [show m.log2 - 1 + 1 = m.log2 by omega] at this
  rw [← Nat.pow_add] at hi lo
  refine rk_eq ?_ ?_
  · rcases Nat.lt_or_ge 62 (m.log2 + j) with h4 | h4
    · right
      have e : 2^(m.log2+j) = 1024 * 2^(52 + (m.log2 + j - 62)) := by
        rw [show (1024:Nat) = 2^10 from rfl, ← Nat.pow_add]; congr 1; omega
      omega
    · left; omega
  · have e : 2^(m.log2+1+j) ≤ 1024 * 2^(53 + (m.log2 + j - 62)) := by
      rw [show (1024:Nat) = 2^10 from rfl, ← Nat.pow_add]
      exact Nat.pow_le_pow_right (by decide) (by omega)
    omega

/-- shifted right. -/
theorem K.right {S j m : Nat} (h : K S j m) (hS : 0 < S) {s : Nat} (hs : 0 < s) (he : s + j = rk S + 10) : g (stk (4*m) s) = rne S (rk S) := by
  obtain ⟨hm, hk⟩ := h.place hS
  obtain ⟨h1, h2, h3⟩ := h
  unfold rne
  rcases h3 with h3 | h3
  · have h5 : 61 ≤ m.log2 := (Nat.le_log2 (by omega)).2 h3
    have e1 : stk (4*m) s = stk m (s-2) := by
      have := stk_mul m 2 (s-2)
      rw [show s - 2 + 2 = s by omega] at this
      rw [← this]; congr 1; omega
    rw [e1, h2, stk_stk]
    have e2 := stk_mul (4*S) 8 (rk S)
    rw [← e2]
    congr 2 <;> omega
  · have e1 := stk_mul (4*m) j s
    rw [← e1, Nat.mul_assoc, h3]
    have e2 := stk_mul (4*S) 10 (rk S)
    rw [← e2]
    congr 2 <;> omega

/-- shifted left. -/
theorem K.left {S j m : Nat} (h : K S j m) (hS : 0 < S) {s : Nat} (he : j = rk S + 10 + s) : m * 2^s = rne S (rk S) := by
  obtain ⟨hm, hk⟩ := h.place hS
  obtain ⟨h1, h2, h3⟩ := h
  rcases h3 with h3 | h3
  · have h5 : 61 ≤ m.log2 := (Nat.le_log2 (by omega)).2 h3
    omega
  · symm
    refine rne_exact ?_
    rw [he, Nat.add_assoc, Nat.add_comm, Nat.pow_add, Nat.pow_add] at h3
    have : m * 2^s * 2^rk S * 2^10 = S * 2^10 := by
      rw [Nat.mul_comm S, show (2:Nat)^10 = 1024 from rfl, ← h3]
      simp [Nat.mul_assoc, Nat.mul_comm, Nat.mul_left_comm]
    exact (Nat.eq_of_mul_eq_mul_right (by decide) this).symm

theorem rne_rk (S : Nat) : rne S (rk S) ≤ 2^53 ∧ (rk S = 0 ∨ 2^52 ≤ rne S (rk S)) := by
  have h := rk_spec S
  exact ⟨rne_le h.2, h.1.imp id rne_ge⟩

/-- what the reference answers, of its q and its place. -/
theorem ref_small {S : Nat} (h : rne S (rk S) < 2^52) : rnd S = rne S (rk S) := by
  have := rne_rk S
  unfold rnd inf
  have h0 : rk S = 0 := by omega
  rw [h0] at h ⊢
  omega
theorem ref_great {S : Nat} (h : rne S (rk S) = 2^53) : rnd S = if 2047 ≤ rk S + 2 then 2047*2^52 else (rk S + 2)*2^52 := by
  unfold rnd inf
  rw [h]
  split <;> omega
theorem ref_mid {S : Nat} (h : rne S (rk S) < 2^53) (h' : 2^52 ≤ rne S (rk S)) : rnd S = if 2047 ≤ rk S + 1 then 2047*2^52 else (rk S + 1)*2^52 + rne S (rk S) % 2^52 := by
  unfold rnd inf
  split <;> omega
end Go.Proofs.Ytkpljnfakidjeaa.Fm
