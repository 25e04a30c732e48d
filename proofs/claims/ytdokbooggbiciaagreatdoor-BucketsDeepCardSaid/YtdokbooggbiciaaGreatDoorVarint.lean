/-
  The functions of package varint and of its reference (but Get): what each call returns; the world grows at most.
-/
import Derived.Test.YtdokbooggbiciaaGreatDoorNums
namespace Go.Proofs.YtdokbooggbiciaaGreatDoor
open Go.RowKit

theorem Tryz.elU8 : Elem Tryz.prog 120 5 (.int .u8 0) 1 1 := ⟨Tryz.underlying120, by kernel_rfl, by decide⟩

set_option maxRecDepth 1000000 in
set_option maxHeartbeats 400000 in
theorem put_any (n : Nat) (w : World) (hn : PutRel n n 9 []) :
    Calls Tryz.prog 45 #[.int .u64 n] w fun e w' => e = .returned (.string ⟨(vput n).toArray⟩) ∧ Below w.heap.size w w' := by
  obtain ⟨i0, hi, hz0, hz1, hz2⟩ := info_parts Tryz.elU8.2.1
  go_enter Tryz.func45, Tryz.ntmps45
  go_wp2_with (at_make; refine wpList_make_own _ rfl _ _ 120 rfl w.heap.size 5 i0 (.int .u8 0) 1 Tryz.underlying120 hi hz0 hz1 _ _ _ 10 rfl rfl (by omega) (by rw [hz2]; omega) (by unfold maxLen; omega) (Nat.le_refl _) ?_; intro w0 hown0 hgrow0)
  go_loopw [0, 3] (fun v b wr => ∃ (m f : Nat) (acc : List UInt8), v = .int .u64 m ∧ wr.ownsRow w.heap.size 5 1 b acc.length (bys acc) ∧ PutRel n m f acc ∧ Below w.heap.size w wr)
    (fun v _ _ => (intOf v).toNat)
  case atStart => exact ⟨n, 9, [], rfl, hown0, hn, (Below.refl _ _).grown hgrow0 (Nat.le_refl _) (by simp)⟩
  case round =>
    obtain ⟨m, f, acc, rfl, hown, HR, hb⟩ := hrel
    have hbs := hb.size
    by_cases hc : 128 ≤ m
    · have R := put_step HR hc
      have hl : acc.length ≤ 9 := by have := HR.1; omega
      go_wp2_with (at_builtin; refine wpList_app1 rfl _ _ 120 rfl Tryz.elU8 (by decide) hown rfl rfl rfl (by simp [Value.oneCell']) (by unfold maxLen; omega) (by omega) hbs ?_; intro v' w1 hown' hgrow)
      obtain ⟨g, rfl, R'⟩ := R
      exact ⟨⟨m / 128, g, _, by simp, by simpa [bys_snoc, byte_or] using hown', R', hb.grown hgrow hbs (fun k hk => (hown.lt k hk).1)⟩, by simp [intOf]; omega⟩
    · have R := put_end HR (by omega)
      have hl := R.2
      have HE := Lib.hid R.1
      clear R
      have hc' : m < 128 := by omega
      go_wp2_with (at_builtin; refine wpList_app1 rfl _ _ 120 rfl Tryz.elU8 (by decide) hown rfl rfl rfl (by simp [Value.oneCell']) (by unfold maxLen; omega) (by omega) hbs ?_; intro v' w1 hown' hgrow; rw [bys_push _ (UInt8.ofNat m) (by simp; omega)] at hown'; have hcv := run_conv_own (P := Tryz.prog) (src := 120) (dst := 9) Tryz.underlying120 Tryz.underlying5 Tryz.underlying9 hown')
      go_ret
      exact ⟨by simp [HE.out], hb.grown hgrow hbs (fun k hk => (hown.lt k hk).1)⟩
set_option maxRecDepth 1000000 in
set_option maxHeartbeats 400000 in
theorem refput_any (n : Nat) (w : World) (hn : PutRel n n 9 []) (hlt : Hid (n < 2^64)) :
    Calls Tryz.prog 67 #[.int .u64 n] w fun e w' => e = .returned (.string ⟨(vput n).toArray⟩) ∧ Below w.heap.size w w' := by
  go_enter Tryz.func67, Tryz.ntmps67
  go_wp2
  go_loopw [0, 3] (fun v b wr => ∃ (m f : Nat) (acc : List UInt8), v = .int .u64 m ∧ wr.ownsRow w.heap.size 5 1 b acc.length (bys acc) ∧ PutRel n m f acc ∧ Below w.heap.size w wr ∧ Hid (m < 2^64))
    (fun v _ _ => (intOf v).toNat)
  case atStart => exact ⟨n, 9, [], rfl, World.ownsRow_nil _ _ _ _, hn, Below.refl _ _, hlt⟩
  case round =>
    obtain ⟨m, f, acc, rfl, hown, HR, hb, hM⟩ := hrel
    have hbs := hb.size
    by_cases hc : 128 ≤ m
    · have R := put_step HR hc
      have hl : acc.length ≤ 9 := by have := HR.1; omega
      go_wp2_with (at_builtin; refine wpList_app1 rfl _ _ 120 rfl Tryz.elU8 (by decide) hown rfl rfl rfl (by simp [Value.oneCell']) (by unfold maxLen; omega) (by omega) hbs ?_; intro v' w1 hown' hgrow)
      obtain ⟨g, rfl, R'⟩ := R
      have hM' := hM.out
      rw [byte_or64 m hM', ← bys_snoc] at hown'
      exact ⟨⟨m / 128, g, _, by simp, by simpa using hown', R', hb.grown hgrow hbs (fun k hk => (hown.lt k hk).1), Lib.hid (by omega)⟩, by simp [intOf]; omega⟩
    · have R := put_end HR (by omega)
      have hl := R.2
      have HE := Lib.hid R.1
      clear R
      have hc' : m < 128 := by omega
      go_wp2_with (at_builtin; refine wpList_app1 rfl _ _ 120 rfl Tryz.elU8 (by decide) hown rfl rfl rfl (by simp [Value.oneCell']) (by unfold maxLen; omega) (by omega) hbs ?_; intro v' w1 hown' hgrow; rw [bys_push _ (UInt8.ofNat m) (by simp; omega)] at hown'; have hcv := run_conv_own (P := Tryz.prog) (src := 120) (dst := 9) Tryz.underlying120 Tryz.underlying5 Tryz.underlying9 hown')
      go_ret
      exact ⟨by simp [HE.out], hb.grown hgrow hbs (fun k hk => (hown.lt k hk).1)⟩
theorem refzig_any (n : Int) (w : World) (h1 : -9223372036854775808 ≤ n) (h2 : n ≤ 9223372036854775807) :
    Calls Tryz.prog 66 #[.int .i64 n] w fun e w' => e = .returned (.int .u64 (zig n)) ∧ w = w' := by
  have H1 := Lib.hid h1
  have H2 := Lib.hid h2
  clear h1 h2
  go_enter Tryz.func66, Tryz.ntmps66
  go_wp2
  all_goals go_ret
  all_goals refine ⟨ret_int ?_, rfl⟩
  all_goals have h1 := H1.out
  all_goals have h2 := H2.out
  all_goals simp only [IntKind.wrap_u64, zig, wrap64]
  all_goals split <;> omega
theorem refzag_any (n : Nat) (w : World) (hn : Hid (n < 2^64)) :
    Calls Tryz.prog 56 #[.int .u64 n] w fun e w' => e = .returned (.int .i64 (zag n)) ∧ w = w' := by
  go_enter Tryz.func56, Tryz.ntmps56
  go_wp2
  all_goals go_ret
  all_goals refine ⟨ret_int ?_, rfl⟩
  all_goals have h := hn.out
  · have h1 : ((n : Int) % 2 == 1) = true := by assumption
    have h1 := eq_of_beq h1
    rw [zag, if_pos (by omega), IntKind.wrap_u64]
    simp only [wrap64]
    omega
  · have h1 : ((n : Int) % 2 == 1) = false := by assumption
    have h1 : ¬ (n : Int) % 2 = 1 := by simpa using h1
    rw [zag, if_neg (by omega), IntKind.wrap_u64]
    simp only [wrap64]
    omega
theorem zig32_any (n : Int) (w : World) (h1 : -2147483648 ≤ n) (h2 : n ≤ 2147483647) :
    Calls Tryz.prog 37 #[.int .i32 n] w fun e w' => e = .returned (.int .u64 (zig n)) ∧ w = w' := by
  have H1 := Lib.hid h1
  have H2 := Lib.hid h2
  clear h1 h2
  go_enter Tryz.func37, Tryz.ntmps37
  go_wp2
  go_ret
  refine ⟨ret_int ?_, rfl⟩
  have h1 := H1.out
  have h2 := H2.out
  unfold zig
  by_cases hn : n < 0
  · rw [show n / 2147483648 % 4294967296 = 4294967295 by omega, u32_xor_ones, if_pos hn, IntKind.wrap_u64]
    omega
  · rw [show n / 2147483648 % 4294967296 = 0 by omega, u32_xor_zero, if_neg hn, IntKind.wrap_u64]
    omega
theorem refzig32_any (n : Int) (w : World) (h1 : -2147483648 ≤ n) (h2 : n ≤ 2147483647) :
    Calls Tryz.prog 42 #[.int .i32 n] w fun e w' => e = .returned (.int .u64 (zig n)) ∧ w = w' := by
  go_enter Tryz.func42, Tryz.ntmps42
  go_wp2_with (go_at_call 66; refine (refzig_any _ _ (by omega) (by omega)).mono ?_; rintro e w' ⟨rfl, rfl⟩)
  go_ret
  exact ⟨rfl, rfl⟩
theorem zag32_any (n : Nat) (w : World) (hn : Hid (n < 2^64)) :
    Calls Tryz.prog 23 #[.int .u64 n] w fun e w' => e = .returned (.int .i32 (zag (n % 2^32))) ∧ w = w' := by
  go_enter Tryz.func23, Tryz.ntmps23
  go_wp2
  go_ret
  refine ⟨ret_int ?_, rfl⟩
  have h := hn.out
  rw [show (n : Int) % 4294967296 = ((n % 2^32 : Nat) : Int) by omega, u32_and_one]
  generalize hm : n % 2^32 = m
  have hm' : m < 4294967296 := by omega
  unfold zag
  rcases (by omega : m % 2 = 0 ∨ m % 2 = 1) with h0 | h0
  · rw [h0, if_neg (by omega), wrap32_id (n := ((0 : Nat) : Int)) (by omega) (by omega), wrap32_id (n := -((0 : Nat) : Int)) (by omega) (by omega), show -((0 : Nat) : Int) = 0 from rfl, i32_xor_zero, i32_wrap_id (by omega) (by omega)]
    omega
  · rw [h0, if_pos rfl, wrap32_id (n := ((1 : Nat) : Int)) (by omega) (by omega), wrap32_id (n := -((1 : Nat) : Int)) (by omega) (by omega), show -((1 : Nat) : Int) = -1 from rfl, i32_xor_ones, i32_wrap_id (by omega) (by omega)]
    omega
theorem refzag32_any (n : Nat) (w : World) (hn : Hid (n < 2^64)) :
    Calls Tryz.prog 29 #[.int .u64 n] w fun e w' => e = .returned (.int .i32 (zag (n % 2^32))) ∧ w = w' := by
  go_enter Tryz.func29, Tryz.ntmps29
  go_wp2_with fail
  rw [show (4294967295 : Int) = ((4294967295 : Nat) : Int) from rfl, u64_and_nat n 4294967295 (by have := hn.out; omega) (by omega), show 4294967295 = 2^32 - 1 from rfl, Nat.and_two_pow_sub_one_eq_mod]
  refine (refzag_any (n % 2^32) w (Lib.hid (by omega))).mono ?_
  rintro e w' ⟨rfl, rfl⟩
  go_wp2
  go_ret
  refine ⟨ret_int ?_, rfl⟩
  have hm : n % 2^32 < 4294967296 := by omega
  generalize n % 2^32 = m at hm ⊢
  unfold zag
  split <;> (simp only [wrap32]; omega)
end Go.Proofs.YtdokbooggbiciaaGreatDoor
