/-
  The functions of package varint and of its reference (but Get): what each call returns; the world grows at most.
-/
import Derived.Test.YteknippgiljgeaaGreatDoorNums
namespace Go.Proofs.YteknippgiljgeaaGreatDoor
open Go.RowKit

theorem Tryz.elU8 : Elem Tryz.prog 153 5 (.int .u8 0) 1 1 := ⟨Tryz.underlying153, by kernel_rfl, by decide⟩

set_option maxRecDepth 1000000 in
set_option maxHeartbeats 400000 in
theorem put_any (n : Nat) (w : World) (hn : PutRel n n 9 []) :
    Calls Tryz.prog 76 #[.int .u64 n] w fun e w' => e = .returned (.string ⟨(vput n).toArray⟩) ∧ Below w.heap.size w w' := by
  obtain ⟨i0, hi, hz0, hz1, hz2⟩ := info_parts Tryz.elU8.2.1
  go_enter Tryz.func76, Tryz.ntmps76
  go_wp2_with (at_make; refine wpList_make_own _ rfl _ _ 153 rfl w.heap.size 5 i0 (.int .u8 0) 1 Tryz.underlying153 hi hz0 hz1 _ _ _ 10 rfl rfl (by omega) (by rw [hz2]; omega) (by unfold maxLen; omega) (Nat.le_refl _) ?_; intro w0 hown0 hgrow0)
  go_loopw [0, 3] (fun v b wr => ∃ (m f : Nat) (acc : List UInt8), v = .int .u64 m ∧ wr.ownsRow w.heap.size 5 1 b acc.length (bys acc) ∧ PutRel n m f acc ∧ Below w.heap.size w wr)
    (fun v _ _ => (intOf v).toNat)
  case atStart => exact ⟨n, 9, [], rfl, hown0, hn, (Below.refl _ _).grown hgrow0 (Nat.le_refl _) (by simp)⟩
  case round =>
    obtain ⟨m, f, acc, rfl, hown, HR, hb⟩ := hrel
    have hbs := hb.size
    by_cases hc : 128 ≤ m
    · have R := put_step HR hc
      have hl : acc.length ≤ 9 := by have := HR.1; omega
      go_wp2_with (at_builtin; refine wpList_app1 rfl _ _ 153 rfl Tryz.elU8 (by decide) hown rfl rfl rfl (by simp [Value.oneCell']) (by unfold maxLen; omega) (by omega) hbs ?_; intro v' w1 hown' hgrow)
      obtain ⟨g, rfl, R'⟩ := R
      exact ⟨⟨m / 128, g, _, by simp, by simpa [bys_snoc, byte_or] using hown', R', hb.grown hgrow hbs (fun k hk => (hown.lt k hk).1)⟩, by simp [intOf]; omega⟩
    · have R := put_end HR (by omega)
      have hl := R.2
      have HE := Lib.hid R.1
      clear R
      have hc' : m < 128 := by omega
      go_wp2_with (at_builtin; refine wpList_app1 rfl _ _ 153 rfl Tryz.elU8 (by decide) hown rfl rfl rfl (by simp [Value.oneCell']) (by unfold maxLen; omega) (by omega) hbs ?_; intro v' w1 hown' hgrow; rw [bys_push _ (UInt8.ofNat m) (by simp; omega)] at hown'; have hcv := run_conv_own (P := Tryz.prog) (src := 153) (dst := 9) Tryz.underlying153 Tryz.underlying5 Tryz.underlying9 hown')
      go_ret
      exact ⟨by simp [HE.out], hb.grown hgrow hbs (fun k hk => (hown.lt k hk).1)⟩
set_option maxRecDepth 1000000 in
set_option maxHeartbeats 400000 in
theorem refput_any (n : Nat) (w : World) (hn : PutRel n n 9 []) (hlt : Hid (n < 2^64)) :
    Calls Tryz.prog 98 #[.int .u64 n] w fun e w' => e = .returned (.string ⟨(vput n).toArray⟩) ∧ Below w.heap.size w w' := by
  go_enter Tryz.func98, Tryz.ntmps98
  go_wp2
  go_loopw [0, 3] (fun v b wr => ∃ (m f : Nat) (acc : List UInt8), v = .int .u64 m ∧ wr.ownsRow w.heap.size 5 1 b acc.length (bys acc) ∧ PutRel n m f acc ∧ Below w.heap.size w wr ∧ Hid (m < 2^64))
    (fun v _ _ => (intOf v).toNat)
  case atStart => exact ⟨n, 9, [], rfl, World.ownsRow_nil _ _ _ _, hn, Below.refl _ _, hlt⟩
  case round =>
    obtain ⟨m, f, acc, rfl, hown, HR, hb, hM⟩ := hrel
    have hbs := hb.size
    by_cases hc : 128 ≤ m
    · have R := put_step HR hc
      have hl : acc.length ≤ 9 := by have := HR.1; omega
      go_wp2_with (at_builtin; refine wpList_app1 rfl _ _ 153 rfl Tryz.elU8 (by decide) hown rfl rfl rfl (by simp [Value.oneCell']) (by unfold maxLen; omega) (by omega) hbs ?_; intro v' w1 hown' hgrow)
      obtain ⟨g, rfl, R'⟩ := R
      have hM' := hM.out
      rw [byte_or64 m hM', ← bys_snoc] at hown'
      exact ⟨⟨m / 128, g, _, by simp, by simpa using hown', R', hb.grown hgrow hbs (fun k hk => (hown.lt k hk).1), Lib.hid (by omega)⟩, by simp [intOf]; omega⟩
    · have R := put_end HR (by omega)
      have hl := R.2
      have HE := Lib.hid R.1
      clear R
      have hc' : m < 128 := by omega
      go_wp2_with (at_builtin; refine wpList_app1 rfl _ _ 153 rfl Tryz.elU8 (by decide) hown rfl rfl rfl (by simp [Value.oneCell']) (by unfold maxLen; omega) (by omega) hbs ?_; intro v' w1 hown' hgrow; rw [bys_push _ (UInt8.ofNat m) (by simp; omega)] at hown'; have hcv := run_conv_own (P := Tryz.prog) (src := 153) (dst := 9) Tryz.underlying153 Tryz.underlying5 Tryz.underlying9 hown')
      go_ret
      exact ⟨by simp [HE.out], hb.grown hgrow hbs (fun k hk => (hown.lt k hk).1)⟩
end Go.Proofs.YteknippgiljgeaaGreatDoor
