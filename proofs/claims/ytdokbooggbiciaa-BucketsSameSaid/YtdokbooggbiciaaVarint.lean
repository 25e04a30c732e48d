/-
  The functions of package varint and of its reference (but Get): what each call returns; the world grows at most.
-/
import Derived.Test.YtdokbooggbiciaaNums
namespace Go.Proofs.Ytdokbooggbiciaa
open Go.RowKit

theorem Try.elU8 : Elem Try.prog 73 5 (.int .u8 0) 1 1 := ⟨Try.underlying73, by kernel_rfl, by decide⟩

set_option maxRecDepth 1000000 in
set_option maxHeartbeats 400000 in
theorem put_any (n : Nat) (w : World) (hn : PutRel n n 9 []) :
    Calls Try.prog 33 #[.int .u64 n] w fun e w' => e = .returned (.string ⟨(vput n).toArray⟩) ∧ Below w.heap.size w w' := by
  obtain ⟨i0, hi, hz0, hz1, hz2⟩ := info_parts Try.elU8.2.1
  go_enter Try.func33, Try.ntmps33
  go_wp2_with (at_make; refine wpList_make_own _ rfl _ _ 73 rfl w.heap.size 5 i0 (.int .u8 0) 1 Try.underlying73 hi hz0 hz1 _ _ _ 10 rfl rfl (by omega) (by rw [hz2]; omega) (by unfold maxLen; omega) (Nat.le_refl _) ?_; intro w0 hown0 hgrow0)
  go_loopw [0, 3] (fun v b wr => ∃ (m f : Nat) (acc : List UInt8), v = .int .u64 m ∧ wr.ownsRow w.heap.size 5 1 b acc.length (bys acc) ∧ PutRel n m f acc ∧ Below w.heap.size w wr)
    (fun v _ _ => (intOf v).toNat)
  case atStart => exact ⟨n, 9, [], rfl, hown0, hn, (Below.refl _ _).grown hgrow0 (Nat.le_refl _) (by simp)⟩
  case round =>
    obtain ⟨m, f, acc, rfl, hown, HR, hb⟩ := hrel
    have hbs := hb.size
    by_cases hc : 128 ≤ m
    · have R := put_step HR hc
      have hl : acc.length ≤ 9 := by have := HR.1; omega
      go_wp2_with (at_builtin; refine wpList_app1 rfl _ _ 73 rfl Try.elU8 (by decide) hown rfl rfl rfl (by simp [Value.oneCell']) (by unfold maxLen; omega) (by omega) hbs ?_; intro v' w1 hown' hgrow)
      obtain ⟨g, rfl, R'⟩ := R
      exact ⟨⟨m / 128, g, _, by simp, by simpa [bys_snoc, byte_or] using hown', R', hb.grown hgrow hbs (fun k hk => (hown.lt k hk).1)⟩, by simp [intOf]; omega⟩
    · have R := put_end HR (by omega)
      have hl := R.2
      have HE := Lib.hid R.1
      clear R
      have hc' : m < 128 := by omega
      go_wp2_with (at_builtin; refine wpList_app1 rfl _ _ 73 rfl Try.elU8 (by decide) hown rfl rfl rfl (by simp [Value.oneCell']) (by unfold maxLen; omega) (by omega) hbs ?_; intro v' w1 hown' hgrow; rw [bys_push _ (UInt8.ofNat m) (by simp; omega)] at hown'; have hcv := run_conv_own (P := Try.prog) (src := 73) (dst := 9) Try.underlying73 Try.underlying5 Try.underlying9 hown')
      go_ret
      exact ⟨by simp [HE.out], hb.grown hgrow hbs (fun k hk => (hown.lt k hk).1)⟩
theorem zig32_any (n : Int) (w : World) (h1 : -2147483648 ≤ n) (h2 : n ≤ 2147483647) :
    Calls Try.prog 23 #[.int .i32 n] w fun e w' => e = .returned (.int .u64 (zig n)) ∧ w = w' := by
  have H1 := Lib.hid h1
  have H2 := Lib.hid h2
  clear h1 h2
  go_enter Try.func23, Try.ntmps23
  go_wp2
  go_ret
  refine ⟨ret_int ?_, rfl⟩
  have h1 := H1.out
  have h2 := H2.out
  unfold zig
  by_cases hn : n < 0
  · rw [show n / 2147483648 % 4294967296 = 4294967295 by omega, u32_xor_ones, if_pos hn, IntKind.wrap_u64]
    omega
  · rw [show n / 2147483648 % 4294967296 = 0 by omega, u32_xor_zero, if_neg hn, IntKind.wrap_u64]
    omega
theorem zag32_any (n : Nat) (w : World) (hn : Hid (n < 2^64)) :
    Calls Try.prog 30 #[.int .u64 n] w fun e w' => e = .returned (.int .i32 (zag (n % 2^32))) ∧ w = w' := by
  go_enter Try.func30, Try.ntmps30
  go_wp2
  go_ret
  refine ⟨ret_int ?_, rfl⟩
  have h := hn.out
  rw [show (n : Int) % 4294967296 = ((n % 2^32 : Nat) : Int) by omega, u32_and_one]
  generalize hm : n % 2^32 = m
  have hm' : m < 4294967296 := by omega
  unfold zag
  rcases (by omega : m % 2 = 0 ∨ m % 2 = 1) with h0 | h0
  · rw [h0, if_neg (by omega), wrap32_id (n := ((0 : Nat) : Int)) (by omega) (by omega), wrap32_id (n := -((0 : Nat) : Int)) (by omega) (by omega), show -((0 : Nat) : Int) = 0 from rfl, i32_xor_zero, i32_wrap_id (by omega) (by omega)]
    omega
  · rw [h0, if_pos rfl, wrap32_id (n := ((1 : Nat) : Int)) (by omega) (by omega), wrap32_id (n := -((1 : Nat) : Int)) (by omega) (by omega), show -((1 : Nat) : Int) = -1 from rfl, i32_xor_ones, i32_wrap_id (by omega) (by omega)]
    omega
end Go.Proofs.Ytdokbooggbiciaa
