/-
  The functions of package varint and of its reference (but Get): what each call returns; the world grows at most.
-/
import Derived.Test.YtdokbooggbiciaaDoorNums
namespace Go.Proofs.YtdokbooggbiciaaDoor
open Go.RowKit

theorem Tryd.elU8 : Elem Tryd.prog 49 5 (.int .u8 0) 1 1 := ⟨Tryd.underlying49, by kernel_rfl, by decide⟩

set_option maxRecDepth 1000000 in
set_option maxHeartbeats 400000 in
theorem put_any (n : Nat) (w : World) (hn : PutRel n n 9 []) :
    Calls Tryd.prog 21 #[.int .u64 n] w fun e w' => e = .returned (.string ⟨(vput n).toArray⟩) ∧ Below w.heap.size w w' := by
  obtain ⟨i0, hi, hz0, hz1, hz2⟩ := info_parts Tryd.elU8.2.1
  go_enter Tryd.func21, Tryd.ntmps21
  go_wp2_with (at_make; refine wpList_make_own _ rfl _ _ 49 rfl w.heap.size 5 i0 (.int .u8 0) 1 Tryd.underlying49 hi hz0 hz1 _ _ _ 10 rfl rfl (by omega) (by rw [hz2]; omega) (by unfold maxLen; omega) (Nat.le_refl _) ?_; intro w0 hown0 hgrow0)
  go_loopw [0, 3] (fun v b wr => ∃ (m f : Nat) (acc : List UInt8), v = .int .u64 m ∧ wr.ownsRow w.heap.size 5 1 b acc.length (bys acc) ∧ PutRel n m f acc ∧ Below w.heap.size w wr)
    (fun v _ _ => (intOf v).toNat)
  case atStart => exact ⟨n, 9, [], rfl, hown0, hn, (Below.refl _ _).grown hgrow0 (Nat.le_refl _) (by simp)⟩
  case round =>
    obtain ⟨m, f, acc, rfl, hown, HR, hb⟩ := hrel
    have hbs := hb.size
    by_cases hc : 128 ≤ m
    · have R := put_step HR hc
      have hl : acc.length ≤ 9 := by have := HR.1; omega
      go_wp2_with (at_builtin; refine wpList_app1 rfl _ _ 49 rfl Tryd.elU8 (by decide) hown rfl rfl rfl (by simp [Value.oneCell']) (by unfold maxLen; omega) (by omega) hbs ?_; intro v' w1 hown' hgrow)
      obtain ⟨g, rfl, R'⟩ := R
      exact ⟨⟨m / 128, g, _, by simp, by simpa [bys_snoc, byte_or] using hown', R', hb.grown hgrow hbs (fun k hk => (hown.lt k hk).1)⟩, by simp [intOf]; omega⟩
    · have R := put_end HR (by omega)
      have hl := R.2
      have HE := Lib.hid R.1
      clear R
      have hc' : m < 128 := by omega
      go_wp2_with (at_builtin; refine wpList_app1 rfl _ _ 49 rfl Tryd.elU8 (by decide) hown rfl rfl rfl (by simp [Value.oneCell']) (by unfold maxLen; omega) (by omega) hbs ?_; intro v' w1 hown' hgrow; rw [bys_push _ (UInt8.ofNat m) (by simp; omega)] at hown'; have hcv := run_conv_own (P := Tryd.prog) (src := 49) (dst := 9) Tryd.underlying49 Tryd.underlying5 Tryd.underlying9 hown')
      go_ret
      exact ⟨by simp [HE.out], hb.grown hgrow hbs (fun k hk => (hown.lt k hk).1)⟩
set_option maxRecDepth 1000000 in
set_option maxHeartbeats 400000 in
theorem refput_any (n : Nat) (w : World) (hn : PutRel n n 9 []) (hlt : Hid (n < 2^64)) :
    Calls Tryd.prog 19 #[.int .u64 n] w fun e w' => e = .returned (.string ⟨(vput n).toArray⟩) ∧ Below w.heap.size w w' := by
  go_enter Tryd.func19, Tryd.ntmps19
  go_wp2
  go_loopw [0, 3] (fun v b wr => ∃ (m f : Nat) (acc : List UInt8), v = .int .u64 m ∧ wr.ownsRow w.heap.size 5 1 b acc.length (bys acc) ∧ PutRel n m f acc ∧ Below w.heap.size w wr ∧ Hid (m < 2^64))
    (fun v _ _ => (intOf v).toNat)
  case atStart => exact ⟨n, 9, [], rfl, World.ownsRow_nil _ _ _ _, hn, Below.refl _ _, hlt⟩
  case round =>
    obtain ⟨m, f, acc, rfl, hown, HR, hb, hM⟩ := hrel
    have hbs := hb.size
    by_cases hc : 128 ≤ m
    · have R := put_step HR hc
      have hl : acc.length ≤ 9 := by have := HR.1; omega
      go_wp2_with (at_builtin; refine wpList_app1 rfl _ _ 49 rfl Tryd.elU8 (by decide) hown rfl rfl rfl (by simp [Value.oneCell']) (by unfold maxLen; omega) (by omega) hbs ?_; intro v' w1 hown' hgrow)
      obtain ⟨g, rfl, R'⟩ := R
      have hM' := hM.out
      rw [byte_or64 m hM', ← bys_snoc] at hown'
      exact ⟨⟨m / 128, g, _, by simp, by simpa using hown', R', hb.grown hgrow hbs (fun k hk => (hown.lt k hk).1), Lib.hid (by omega)⟩, by simp [intOf]; omega⟩
    · have R := put_end HR (by omega)
      have hl := R.2
      have HE := Lib.hid R.1
      clear R
      have hc' : m < 128 := by omega
      go_wp2_with (at_builtin; refine wpList_app1 rfl _ _ 49 rfl Tryd.elU8 (by decide) hown rfl rfl rfl (by simp [Value.oneCell']) (by unfold maxLen; omega) (by omega) hbs ?_; intro v' w1 hown' hgrow; rw [bys_push _ (UInt8.ofNat m) (by simp; omega)] at hown'; have hcv := run_conv_own (P := Tryd.prog) (src := 49) (dst := 9) Tryd.underlying49 Tryd.underlying5 Tryd.underlying9 hown')
      go_ret
      exact ⟨by simp [HE.out], hb.grown hgrow hbs (fun k hk => (hown.lt k hk).1)⟩
set_option maxRecDepth 1000000 in
set_option maxHeartbeats 400000 in
theorem size_any (n : Nat) (w : World) (hn : PutRel n n 9 []) :
    Calls Tryd.prog 34 #[.int .u64 n] w fun e w' => e = .returned (.int .i64 ((vput n).length : Nat)) ∧ w = w' := by
  go_enter Tryd.func34, Tryd.ntmps34
  go_wp2
  go_loop [0, 3] (fun v k => ∃ (m f : Nat) (acc : List UInt8), v = .int .u64 m ∧ k = .int .i64 (acc.length + 1) ∧ PutRel n m f acc) (fun v _ => (intOf v).toNat)
  case atStart => exact ⟨n, 9, [], rfl, by simp, hn⟩
  case round =>
    obtain ⟨m, f, acc, rfl, rfl, HR⟩ := hrel
    by_cases hc : 128 ≤ m
    · have R := put_step HR hc
      have hl : acc.length ≤ 9 := by have := HR.1; omega
      go_wp2
      obtain ⟨g, rfl, R'⟩ := R
      exact ⟨⟨m / 128, g, _, by simp, by simp, R'⟩, by simp [intOf]; omega⟩
    · have R := put_end HR (by omega)
      have hl := R.2
      have HE := Lib.hid R.1
      clear R
      go_wp2
      go_ret
      exact ⟨by simp [← HE.out], rfl⟩
end Go.Proofs.YtdokbooggbiciaaDoor
