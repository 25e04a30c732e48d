/-
  Whole numbers as doubles: FromInt of what is up to 2^53.
-/
import Derived.Test.YtkpljnfakidjeaaFaddAdd
namespace Go.Proofs.Ytkpljnfakidjeaa
open Go.RowKit

/-- the size of a whole number's double -/
def whole (N : Nat) : Nat := if N = 0 then 0 else if N = 2^53 then 1076 * 2^52 else (N.log2 + 1022) * 2^52 + N * 2^(52 - N.log2)
theorem log_bounds {N : Nat} (h0 : 0 < N) (h : N < 2^53) : N.log2 ≤ 52 ∧ 2^52 ≤ N * 2^(52 - N.log2) ∧ N * 2^(52 - N.log2) < 2^53 := by
  have h1 : 2^N.log2 ≤ N := Nat.log2_self_le (by omega)
  have h2 : N < 2^(N.log2+1) := Nat.lt_log2_self
  have h3 : N.log2 < 53 := (Nat.log2_lt (by omega)).2 h
  have e1 : (2:Nat)^52 = 2^N.log2 * 2^(52 - N.log2) := by rw [← Nat.pow_add]; congr 1; omega
  have e2 : (2:Nat)^53 = 2^(N.log2+1) * 2^(52 - N.log2) := by rw [← Nat.pow_add]; congr 1; omega
  refine ⟨by omega, ?_, ?_⟩
  · rw [e1]; exact Nat.mul_le_mul_right _ h1
  · rw [e2]; exact Nat.mul_lt_mul_of_pos_right h2 (Nat.two_pow_pos _)
def unit : Nat := 2^1074
theorem unit_pow {a b : Nat} (h : a + b = 1074) : 2^a * 2^b = unit := by rw [← Nat.pow_add, h, unit]
theorem unit_pos : 0 < unit := by unfold unit; exact Nat.two_pow_pos 1074
theorem dec_big {e f : Nat} (h1 : 1 ≤ e) (h : f < 2^52) : Fm.dec (e * 2^52 + f) = (f + 2^52) * 2^(e - 1) := by
  unfold Fm.dec
  rw [if_neg (by omega), show (e * 2^52 + f) % 2^52 = f by omega, show (e * 2^52 + f) / 2^52 = e by omega]
theorem whole_spec {N : Nat} (h : N ≤ 2^53) : whole N < Fm.inf ∧ Fm.dec (whole N) = N * unit := by
  have hi : Fm.inf = 2047 * 2^52 := rfl
  unfold whole
  split
  · rename_i h0
    subst h0
    exact ⟨by omega, by rw [Fm.dec_zero, Nat.zero_mul]⟩
  · split
    · rename_i h1
      refine ⟨by omega, ?_⟩
      have e := dec_big (e := 1076) (f := 0) (by decide) (by decide)
      rw [Nat.add_zero, Nat.zero_add, show 1076 - 1 = 1 + 1074 from rfl, Nat.pow_add 2 1 1074, ← unit] at e
      rw [e, h1, ← Nat.mul_assoc]
    · rename_i h0 h1
      obtain ⟨a, b, c⟩ := log_bounds (N := N) (by omega) (by omega)
      refine ⟨by omega, ?_⟩
      have e := dec_big (e := N.log2 + 1023) (f := N * 2^(52 - N.log2) - 2^52) (by omega) (by omega)
      rw [show (N.log2 + 1023) * 2^52 + (N * 2^(52 - N.log2) - 2^52) = (N.log2 + 1022) * 2^52 + N * 2^(52 - N.log2) by omega, show N * 2^(52 - N.log2) - 2^52 + 2^52 = N * 2^(52 - N.log2) by omega] at e
      rw [e, Nat.mul_assoc, unit_pow (by omega)]
def fi (n : Int) : Nat := (if n < 0 then 1 else 0) * 2^63 + whole n.natAbs
theorem whole_lt {N : Nat} (h : N ≤ 2^53) : whole N < 2^63 := by
  have h1 := (whole_spec h).1
  have hi : Fm.inf = 2047 * 2^52 := rfl
  omega
theorem rnd_whole {N : Nat} (h : N ≤ 2^53) : Fm.rnd (N * unit) = whole N := by
  have h1 := whole_spec h
  rw [← h1.2]
  exact Fm.rnd_dec (Nat.le_of_lt h1.1)
theorem fi_lt {n : Int} (h : n.natAbs ≤ 2^53) : fi n < 2^64 := by
  have := whole_lt h
  unfold fi
  split <;> omega
theorem add_fi {n m : Int} (hn : n.natAbs ≤ 2^52) (hm : m.natAbs ≤ 2^52) : Fm.add (fi n) (fi m) = fi (n + m) := by
  have wn := whole_spec (N := n.natAbs) (by omega)
  have wm := whole_spec (N := m.natAbs) (by omega)
  have ln := whole_lt (N := n.natAbs) (by omega)
  have lm := whole_lt (N := m.natAbs) (by omega)
  have zn : Fm.sz (fi n) = whole n.natAbs := Fm.sz_mk ln
  have zm : Fm.sz (fi m) = whole m.natAbs := Fm.sz_mk lm
  have sn : Fm.sg (fi n) = if n < 0 then 1 else 0 := Fm.sg_mk ln
  have sm : Fm.sg (fi m) = if m < 0 then 1 else 0 := Fm.sg_mk lm
  have hd1 := Fm.dec_lt (x := whole n.natAbs) (y := whole m.natAbs) (Nat.le_of_lt wn.1) (Nat.le_of_lt wm.1)
  have hd2 := Fm.dec_lt (x := whole m.natAbs) (y := whole n.natAbs) (Nat.le_of_lt wm.1) (Nat.le_of_lt wn.1)
  have hp := unit_pos
  rw [wn.2, wm.2, Nat.mul_lt_mul_right hp] at hd1
  rw [wn.2, wm.2, Nat.mul_lt_mul_right hp] at hd2
  rw [Fm.add_fin (Fm.cls_fin.2 (by rw [zn]; exact wn.1)) (Fm.cls_fin.2 (by rw [zm]; exact wm.1))]
  unfold Fm.fin
  rw [zn, zm, sn, sm, wn.2, wm.2, ← Nat.add_mul, ← Nat.sub_mul, ← Nat.sub_mul, rnd_whole (by omega), rnd_whole (by omega), rnd_whole (by omega)]
  unfold fi
  by_cases h1 : n < 0 <;> by_cases h2 : m < 0
  · rw [if_pos h1, if_pos h2, if_pos rfl, if_pos (by omega), show n.natAbs + m.natAbs = (n + m).natAbs by omega]
  · rw [if_pos h1, if_neg h2, if_neg (by decide)]
    by_cases h3 : whole n.natAbs = whole m.natAbs
    · rw [if_pos h3, show n + m = 0 by omega]; rfl
    · rw [if_neg h3]
      by_cases h4 : whole m.natAbs < whole n.natAbs
      · rw [if_pos h4, if_pos (by omega), show n.natAbs - m.natAbs = (n + m).natAbs by omega]
      · rw [if_neg h4, if_neg (by omega), show m.natAbs - n.natAbs = (n + m).natAbs by omega]
  · rw [if_neg h1, if_pos h2, if_neg (by decide)]
    by_cases h3 : whole n.natAbs = whole m.natAbs
    · rw [if_pos h3, show n + m = 0 by omega]; rfl
    · rw [if_neg h3]
      by_cases h4 : whole m.natAbs < whole n.natAbs
      · rw [if_pos h4, if_neg (by omega), show n.natAbs - m.natAbs = (n + m).natAbs by omega]
      · rw [if_neg h4, if_pos (by omega), show m.natAbs - n.natAbs = (n + m).natAbs by omega]
  · rw [if_neg h1, if_neg h2, if_pos rfl, if_neg (by omega), show n.natAbs + m.natAbs = (n + m).natAbs by omega]

theorem log_end {n m j : Nat} (hm : m = n / 2^j) (h1 : m = 1) : j = n.log2 := by
  have hp : 0 < 2^j := Nat.two_pow_pos j
  have h2 := Nat.div_add_mod n (2^j)
  have h3 := Nat.mod_lt n hp
  rw [← hm, h1, Nat.mul_one] at h2
  have h0 : n ≠ 0 := by omega
  have h4 : j ≤ n.log2 := (Nat.le_log2 h0).2 (by omega)
  have h5 : n.log2 < j + 1 := (Nat.log2_lt h0).2 (by rw [Nat.pow_succ]; omega)
  omega
set_option maxRecDepth 1000000 in
set_option maxHeartbeats 1000000 in
theorem top_at (n L : Nat) (w : World) (h0 : 0 < n) (hn : n < 2^64) (hL : Hid (n.log2 = L)) :
    Calls Try.prog 35 #[.int .u64 n] w fun e w' => e = .returned (.int .i64 (L : Nat)) ∧ w = w' := by
  go_enter Try.func35, Try.ntmps35
  go_wp2
  go_loop [0, 3] (fun v k => ∃ (m j : Nat), v = .int .u64 m ∧ k = .int .i64 (j : Int) ∧ 0 < m ∧ m ≤ n ∧ j ≤ 64 ∧ Hid (m = n / 2^j)) (fun v _ => (intOf v).toNat)
  case atStart => exact ⟨n, 0, rfl, rfl, h0, Nat.le_refl _, by omega, Lib.hid (by simp)⟩
  case round =>
    obtain ⟨m, j, rfl, rfl, hm0, hmn, hj, HM⟩ := hrel
    by_cases hc : m = 1
    · have HE := Lib.hid (log_end HM.out hc)
      subst hc
      go_wp2
      go_ret
      exact ⟨ret_int (by rw [← hL.out, HE.out]), rfl⟩
    · have hc2 : decide ((m : Int) > 1) = true := by simp; omega
      have hj2 : j + 1 ≤ 64 := by
        rcases Nat.lt_or_ge j 64 with h | h
        · omega
        · have h1 := HM.out
          have : n / 2^j = 0 := Nat.div_eq_of_lt (Nat.lt_of_lt_of_le hn (Nat.pow_le_pow_right (by decide) h))
          omega
      have HM2 : Hid (m / 2 = n / 2^(j+1)) := Lib.hid (by rw [HM.out, Nat.pow_succ, Nat.div_div_eq_div_mul])
      clear hc
      go_wp2
      exact ⟨⟨m / 2, j + 1, int_eq (by omega), int_eq (by omega), by simp at hc2; omega, by omega, hj2, HM2⟩, by simp at hc2; simp [intOf]; omega⟩
end Go.Proofs.Ytkpljnfakidjeaa
