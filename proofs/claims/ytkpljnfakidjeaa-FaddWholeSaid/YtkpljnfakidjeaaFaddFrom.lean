/-
  Whole numbers as doubles: FromInt of what is up to 2^53.
-/
import Derived.Test.YtkpljnfakidjeaaFaddInt
import Derived.Test.YtkpljnfakidjeaaOrd
namespace Go.Proofs.Ytkpljnfakidjeaa
open Go.RowKit

theorem join_sign' (r : Nat) (hr : r < 2^63) : bits .or .u64 9223372036854775808 (r : Int) = ((2^63 + r : Nat) : Int) := by
  have h := join_sign 1 r (.inr rfl) hr
  have e : ((1 * 2^63 : Nat) : Int) = 9223372036854775808 := by decide
  rw [e, Nat.one_mul] at h
  exact h
set_option maxRecDepth 1000000 in
set_option maxHeartbeats 4000000 in
theorem from_zero (w : World) : Calls Try.prog 22 #[.int .i64 0] w fun e w' => e = .returned (.int .u64 0) ∧ w = w' := by
  go_enter Try.func22, Try.ntmps22
  go_wp2
  go_ret
  exact ⟨rfl, rfl⟩
set_option maxRecDepth 1000000 in
set_option maxHeartbeats 4000000 in
theorem from_plus (N L R : Nat) (w : World) (h0 : 0 < N) (hN : N < 9007199254740992) (hL : Hid (N.log2 = L)) (hL2 : L ≤ 52) (hR : Hid ((L + 1022) * 2^52 + N * 2^(52 - L) = R)) :
    Calls Try.prog 22 #[.int .i64 N] w fun e w' => e = .returned (.int .u64 R) ∧ w = w' := by
  go_enter Try.func22, Try.ntmps22
  go_wp2_with fail
  refine (top_at N L _ h0 (by omega) hL).mono ?_; rintro e w' ⟨rfl, rfl⟩
  go_wp2_with fail
  go_ret
  refine ⟨ret_int ?_, rfl⟩
  show IntKind.u64.wrap (bits .or .u64 0 (((L : Int) + 1023 - 1) * 4503599627370496) + IntKind.u64.wrap ((N : Int) * 2 ^ (52 - L))) = (R : Int)
  have hb := (log_bounds h0 hN).2
  rw [hL.out] at hb
  have e2 : ((N : Int) * 2 ^ (52 - L)) = ((N * 2 ^ (52 - L) : Nat) : Int) := by simp
  have e3 := or64 0 ((L + 1022) * 2^52) (by decide) (by omega)
  have hr := hR.out
  rw [e2, show ((L : Int) + 1023 - 1) * 4503599627370496 = (((L + 1022) * 2^52 : Nat) : Int) by omega, show (0 : Int) = ((0 : Nat) : Int) from rfl, e3, Nat.zero_or, IntKind.wrap_u64, IntKind.wrap_u64]
  omega
set_option maxRecDepth 1000000 in
set_option maxHeartbeats 4000000 in
theorem from_minus (N L R : Nat) (w : World) (h0 : 0 < N) (hN : N < 9007199254740992) (hL : Hid (N.log2 = L)) (hL2 : L ≤ 52) (hR : Hid (2^63 + ((L + 1022) * 2^52 + N * 2^(52 - L)) = R)) :
    Calls Try.prog 22 #[.int .i64 (-(N : Int))] w fun e w' => e = .returned (.int .u64 R) ∧ w = w' := by
  have hw : IntKind.u64.wrap (-IntKind.u64.wrap (-(N : Int))) = (N : Int) := by rw [IntKind.wrap_u64, IntKind.wrap_u64]; omega
  go_enter Try.func22, Try.ntmps22
  go_wp2_with fail
  refine (top_at N L _ h0 (by omega) hL).mono ?_; rintro e w' ⟨rfl, rfl⟩
  clear hw
  go_wp2_with fail
  go_ret
  refine ⟨ret_int ?_, rfl⟩
  show IntKind.u64.wrap (bits .or .u64 9223372036854775808 (((L : Int) + 1023 - 1) * 4503599627370496) + IntKind.u64.wrap ((N : Int) * 2 ^ (52 - L))) = (R : Int)
  have hb := (log_bounds h0 hN).2
  rw [hL.out] at hb
  have e2 : ((N : Int) * 2 ^ (52 - L)) = ((N * 2 ^ (52 - L) : Nat) : Int) := by simp
  have e3 := join_sign' ((L + 1022) * 2^52) (by omega)
  have hr := hR.out
  rw [e2, show ((L : Int) + 1023 - 1) * 4503599627370496 = (((L + 1022) * 2^52 : Nat) : Int) by omega, e3, IntKind.wrap_u64, IntKind.wrap_u64]
  omega
set_option maxRecDepth 1000000 in
set_option maxHeartbeats 4000000 in
theorem from_top (w : World) : Calls Try.prog 22 #[.int .i64 9007199254740992] w fun e w' => e = .returned (.int .u64 4845873199050653696) ∧ Below w.heap.size w w' := by
  have hl := Lib.hid (show Nat.log2 9007199254740992 = 53 by decide +kernel)
  have f0 : IntKind.i64.wrap 0 = 0 := by decide
  have f1 : IntKind.u64.wrap 2 = 2 := by decide
  have f2 : IntKind.u64.wrap 1 = 1 := by decide
  have f4 : bits .and .u64 9007199254740992 1 = 0 := by decide +kernel
  have f5 : IntKind.u64.wrap (2 - 1) = 1 := by decide
  go_enter Try.func22, Try.ntmps22
  go_wp2_with fail
  refine (top_at 9007199254740992 53 _ (by decide) (by decide) hl).mono ?_; rintro e w' ⟨rfl, rfl⟩
  go_wp2_with fail
  refine wp_region_seq (S := fun _ => True) [(0, true), (1, true), (2, true), (3, true), (4, true), (5, true), (6, true), (7, true), (8, true), (9, true), (10, true), (11, true), (12, true), (13, true)] (by kernel_rfl) (by kernel_rfl) (by kernel_rfl) (by kernel_rfl) trivial ?_
  iterate 14 (refine seq_take _ rfl (fun K hK => ?_); go_simp; (first | refine hK _ ?_ | (refine ⟨undef, by rw [if_neg (by simp [undef])], ?_⟩; refine hK _ ?_)); clear hK K)
  refine seq_done ?_
  go_wp2_with fail
  go_ret
  exact ⟨ret_int (by decide +kernel), (Below.refl _ _).trans ⟨rfl, rfl, rfl, Nat.le_refl _, fun _ _ => rfl⟩⟩
set_option maxRecDepth 1000000 in
set_option maxHeartbeats 4000000 in
theorem from_bottom (w : World) : Calls Try.prog 22 #[.int .i64 (-9007199254740992)] w fun e w' => e = .returned (.int .u64 14069245235905429504) ∧ Below w.heap.size w w' := by
  have hl := Lib.hid (show Nat.log2 9007199254740992 = 53 by decide +kernel)
  have hw : IntKind.u64.wrap (-IntKind.u64.wrap (-9007199254740992)) = 9007199254740992 := by decide
  have f0 : IntKind.i64.wrap 0 = 0 := by decide
  have f1 : IntKind.u64.wrap 2 = 2 := by decide
  have f2 : IntKind.u64.wrap 1 = 1 := by decide
  have f4 : bits .and .u64 9007199254740992 1 = 0 := by decide +kernel
  have f5 : IntKind.u64.wrap (2 - 1) = 1 := by decide
  go_enter Try.func22, Try.ntmps22
  go_wp2_with fail
  refine (top_at 9007199254740992 53 _ (by decide) (by decide) hl).mono ?_; rintro e w' ⟨rfl, rfl⟩
  go_wp2_with fail
  refine wp_region_seq (S := fun _ => True) [(0, true), (1, true), (2, true), (3, true), (4, true), (5, true), (6, true), (7, true), (8, true), (9, true), (10, true), (11, true), (12, true), (13, true)] (by kernel_rfl) (by kernel_rfl) (by kernel_rfl) (by kernel_rfl) trivial ?_
  iterate 14 (refine seq_take _ rfl (fun K hK => ?_); go_simp; (first | refine hK _ ?_ | (refine ⟨undef, by rw [if_neg (by simp [undef])], ?_⟩; refine hK _ ?_)); clear hK K)
  refine seq_done ?_
  go_wp2_with fail
  go_ret
  exact ⟨ret_int (by decide +kernel), (Below.refl _ _).trans ⟨rfl, rfl, rfl, Nat.le_refl _, fun _ _ => rfl⟩⟩
theorem from_at (n : Int) (R : Nat) (w : World) (h : n.natAbs ≤ 2^53) (hR : Hid (fi n = R)) :
    Calls Try.prog 22 #[.int .i64 n] w fun e w' => e = .returned (.int .u64 R) ∧ Below w.heap.size w w' := by
  have same : ∀ {f : Int} {r : Nat} {w : World}, Calls Try.prog 22 #[.int .i64 f] w (fun e w' => e = .returned (.int .u64 (r : Nat)) ∧ w = w') → Calls Try.prog 22 #[.int .i64 f] w (fun e w' => e = .returned (.int .u64 (r : Nat)) ∧ Below w.heap.size w w') :=
    fun h => h.mono (by rintro e w' ⟨h, rfl⟩; exact ⟨h, Below.refl _ _⟩)
  rw [← hR.out]
  rcases Int.lt_trichotomy n 0 with hs | hs | hs
  · by_cases ht : n.natAbs = 2^53
    · obtain rfl : n = -9007199254740992 := by omega
      have e : fi (-9007199254740992) = 14069245235905429504 := by decide +kernel
      rw [e]
      exact from_bottom w
    · obtain ⟨N, hN⟩ : ∃ N : Nat, N = n.natAbs := ⟨_, rfl⟩
      obtain rfl : n = -(N : Int) := by omega
      have hb := (log_bounds (N := N) (by omega) (by omega)).1
      have e : fi (-(N : Int)) = 2^63 + ((N.log2 + 1022) * 2^52 + N * 2^(52 - N.log2)) := by
        unfold fi whole
        rw [if_pos hs, ← hN, if_neg (by omega), if_neg (by omega), Nat.one_mul]
      rw [e]
      exact same (from_minus N N.log2 _ w (by omega) (by omega) (Lib.hid rfl) hb (Lib.hid rfl))
  · subst hs
    exact same (from_zero w)
  · by_cases ht : n.natAbs = 2^53
    · obtain rfl : n = 9007199254740992 := by omega
      have e : fi 9007199254740992 = 4845873199050653696 := by decide +kernel
      rw [e]
      exact from_top w
    · obtain ⟨N, hN⟩ : ∃ N : Nat, N = n.natAbs := ⟨_, rfl⟩
      obtain rfl : n = (N : Int) := by omega
      have hb := (log_bounds (N := N) (by omega) (by omega)).1
      have e : fi (N : Int) = (N.log2 + 1022) * 2^52 + N * 2^(52 - N.log2) := by
        unfold fi whole
        rw [if_neg (by omega), ← hN, if_neg (by omega), if_neg (by omega), Nat.zero_mul, Nat.zero_add]
      rw [e]
      exact same (from_plus N N.log2 _ w (by omega) (by omega) (Lib.hid rfl) hb (Lib.hid rfl))
end Go.Proofs.Ytkpljnfakidjeaa
