/-
  hyglaw5.BitsEnds: for every number the law returns true.
-/
import Derived.Test.YtbhppchdoalahaaFirst5
namespace Go.Proofs.Ytbhppchdoalahaa
open Go.RowKit

set_option maxRecDepth 1000000 in
set_option maxHeartbeats 1000000 in
theorem ends_zero (w : World) : Calls Try.prog 7 #[.int .u64 0] w fun e w' => e = .returned (.bool true) ∧ Below w.heap.size w w' := by
  go_enter Try.func7, Try.ntmps7
  go_wp2_with fail
  refine (first5 w).mono ?_; rintro e w1 ⟨rfl, hb1⟩
  go_wp2_with fail
  refine (leads_any 0 w1 (Lib.hid (by decide))).mono ?_; rintro e w2 ⟨rfl, rfl⟩
  rw [show 64 - blen 0 = 64 by decide]
  go_wp2_with fail
  refine (trail_zero w1).mono ?_; rintro e w2 ⟨rfl, rfl⟩
  go_wp2_with fail
  refine (first5 w1).mono ?_; rintro e w2 ⟨rfl, hb2⟩
  go_wp2
  go_ret
  exact ⟨rfl, hb1.trans (hb2.mono hb1.size)⟩
theorem ends_math {n : Nat} (h0 : 0 < n) (hn : n < 2 ^ 64) : tz n + 1 ≤ blen n ∧ blen n ≤ 64 ∧ n / 2 ^ tz n % 2 = 1 ∧ n / 2 ^ tz n / 2 ^ (blen n - 1 - tz n) = 1 ∧ n / 2 ^ tz n * 2 ^ tz n = n := by
  obtain ⟨h1, h2, h3⟩ := blen_bound hn
  obtain ⟨h4, h5⟩ := h3 h0
  obtain ⟨h6, h7, h8⟩ := tz_spec h0 hn
  have h9 : tz n + 1 ≤ blen n := by
    rcases Nat.lt_or_ge (tz n) (blen n) with hh | hh
    · exact hh
    · exfalso
      have : 2 ^ blen n ≤ 2 ^ tz n := Nat.pow_le_pow_right (by omega) hh
      rw [Nat.div_eq_of_lt (by omega)] at h7
      simp at h7
  refine ⟨h9, h2, h7, ?_, h8⟩
  rw [Nat.div_div_eq_div_mul, ← Nat.pow_add, show tz n + (blen n - 1 - tz n) = blen n - 1 by omega]
  have e : 2 ^ blen n = 2 ^ (blen n - 1) * 2 := by rw [← Nat.pow_succ]; congr 1; omega
  have h10 : n / 2 ^ (blen n - 1) < 2 := by rw [Nat.div_lt_iff_lt_mul (Nat.pow_pos (by omega)), Nat.mul_comm, ← e]; exact h1
  have h11 : 1 ≤ n / 2 ^ (blen n - 1) := by rw [Nat.le_div_iff_mul_le (Nat.pow_pos (by omega))]; omega
  omega
set_option maxRecDepth 1000000 in
set_option maxHeartbeats 1000000 in
theorem ends_some (n : Nat) (w : World) (h0 : 0 < n) (hn : Hid (n < 2 ^ 64)) : Calls Try.prog 7 #[.int .u64 n] w fun e w' => e = .returned (.bool true) ∧ Below w.heap.size w w' := by
  obtain ⟨h1, h2, h3, h4, h5⟩ := ends_math h0 hn.out
  have hz : ((n : Int) == 0) = false := by simp; omega
  generalize hb : tz n = b at h1 h3 h4 h5
  generalize hl : blen n = l at h1 h2 h4
  have HB := Lib.hid hb
  have HL := Lib.hid hl
  have H3 := Lib.hid h3
  have H4 := Lib.hid h4
  have H5 := Lib.hid h5
  clear hb hl h3 h4 h5
  go_enter Try.func7, Try.ntmps7
  go_wp2_with fail
  refine (first5 w).mono ?_; rintro e w1 ⟨rfl, hb1⟩
  go_wp2_with fail
  refine (leads_any n w1 hn).mono ?_; rintro e w2 ⟨rfl, rfl⟩
  rw [HL.out]
  obtain ⟨a, ha⟩ : ∃ a : Nat, 64 - l = a := ⟨_, rfl⟩
  have hal : a + l = 64 := by omega
  rw [ha]
  clear ha
  go_wp2_with fail
  refine (trail_any n w1 h0 hn).mono ?_; rintro e w2 ⟨rfl, rfl⟩
  rw [HB.out]
  go_wp2_with fail
  refine (first5 w1).mono ?_; rintro e w2 ⟨rfl, hb2⟩
  have e0 : (n : Int) / 2 ^ b = ((n / 2 ^ b : Nat) : Int) := by simp
  have a1 : bits .and .u64 ((n : Int) / 2 ^ b) 1 = 1 := by rw [e0, u64_and_one, H3.out]; rfl
  have a2 : (n : Int) / 2 ^ b / 2 ^ (63 - a - b) = 1 := by
    have := H4.out
    rw [show l - 1 - b = 63 - a - b by omega] at this
    rw [e0]
    have e1 : ((n / 2 ^ b : Nat) : Int) / 2 ^ (63 - a - b) = ((n / 2 ^ b / 2 ^ (63 - a - b) : Nat) : Int) := by simp
    rw [e1, this]; rfl
  have a3 : IntKind.u64.wrap ((n : Int) / 2 ^ b * 2 ^ b) = n := by
    rw [e0]
    have e1 : ((n / 2 ^ b : Nat) : Int) * 2 ^ b = ((n / 2 ^ b * 2 ^ b : Nat) : Int) := by simp
    rw [e1, H5.out, IntKind.wrap_u64]
    have := hn.out
    omega
  clear e0
  go_wp2_with fail
  all_goals go_ret
  all_goals exact ⟨by simp, hb1.trans (hb2.mono hb1.size)⟩
theorem ends_walk (n : Nat) (w : World) (hn : n < 2 ^ 64) : Calls Try.prog 7 #[.int .u64 n] w fun e w' => e = .returned (.bool true) ∧ Below w.heap.size w w' := by
  rcases Nat.eq_zero_or_pos n with rfl | h
  · exact ends_zero w
  · exact ends_some n w h (Lib.hid hn)
end Go.Proofs.Ytbhppchdoalahaa
