/-
  Doubles added: rounding.
-/
import Derived.Test.YtkpljnfakidjeaaFaddA
import Derived.Lib.MinMax
namespace Go.Proofs.Ytkpljnfakidjeaa
open Go.RowKit

theorem g_eight (M : Nat) : Fm.g (Fm.stk M 1) = M / 8 + (if 4 < M % 8 ∨ (M % 8 = 4 ∧ M / 8 % 2 = 1) then 1 else 0) := by
  unfold Fm.g Fm.stk
  split <;> split <;> split <;> omega

/-- how the last step goes -/
theorem round_bits {S e M : Nat} (h : Fm.J S e M) (hs : 2^55 ≤ M ∨ e = 1) :
    (4 < M % 8 → min ((e - 1) * 2^52 + (M / 8 + 1)) Fm.inf = Fm.rnd S) ∧ (M % 8 = 4 → M / 8 % 2 = 1 → min ((e - 1) * 2^52 + (M / 8 + 1)) Fm.inf = Fm.rnd S) ∧
    (M % 8 = 4 → M / 8 % 2 = 0 → min ((e - 1) * 2^52 + M / 8) Fm.inf = Fm.rnd S) ∧ (M % 8 < 4 → min ((e - 1) * 2^52 + M / 8) Fm.inf = Fm.rnd S) := by
  have hd := h.done hs
  rw [g_eight] at hd
  refine ⟨fun h1 => ?_, fun h1 h2 => ?_, fun h1 h2 => ?_, fun h1 => ?_⟩
  · rw [if_pos (.inl h1)] at hd; exact hd
  · rw [if_pos (.inr ⟨h1, h2⟩)] at hd; exact hd
  · rw [if_neg (by omega)] at hd; exact hd
  · rw [if_neg (by omega)] at hd; exact hd

theorem min_int {e q R : Nat} {m : Int} (he : 1 ≤ e) (h : min ((e - 1) * 2^52 + q) Fm.inf = R) (hm : m = ((q : Nat) : Int) := by omega) :
    min (((e : Int) - 1) * 4503599627370496 + m) 9218868437227405312 = ((R : Nat) : Int) := by
  have hi : Fm.inf = 2047 * 2^52 := rfl
  rw [hi] at h
  omega
set_option maxRecDepth 1000000 in
set_option maxHeartbeats 1000000 in
theorem round_any' (S e M R : Nat) (w : World) (hR : Hid (Fm.rnd S = R)) (h : Hid (Fm.J0 S e M)) (he : e ≤ 2046) (he1 : 1 ≤ e) (hM : M < 144115188075855872) :
    Calls Try.prog 48 #[.int .i64 e, .int .u64 M] w fun x w' => x = .returned (.int .u64 (R : Int)) ∧ w = w' := by
  rcases Nat.lt_or_ge M 72057594037927936 with hm | hm
  · have h1 : decide ((M : Int) ≥ 72057594037927936) = false := by simp; omega
    have HJ := Lib.hid (h.out.low hm)
    go_enter Try.func48, Try.ntmps48
    go_wp2
    go_loop [0, 1] (fun v k => ∃ (e' M' : Nat), v = .int .i64 (e' : Int) ∧ k = .int .u64 (M' : Int) ∧ Fm.J S e' M' ∧ e' ≤ 2047) (fun v _ => (intOf v).toNat)
    case atStart => exact ⟨e, M, rfl, rfl, HJ.out, by omega⟩
    case round =>
      obtain ⟨e', M', rfl, rfl, HR0, hle⟩ := hrel
      have hb : M' < 72057594037927936 := HR0.2.1
      have hp := HR0.1
      have HR := Lib.hid HR0
      clear HR0
      rcases (by omega : (M' < 2^55 ∧ 1 < e') ∨ (2^55 ≤ M' ∨ e' = 1)) with ⟨hc, hc1⟩ | hc
      · have R := Lib.hid (HR.out.step hc hc1)
        have hx : IntKind.u64.wrap ((M' : Int) * 2) = ((M' * 2 : Nat) : Int) := by rw [IntKind.wrap_u64]; omega
        have hd1 : decide ((M' : Int) < 36028797018963968) = true := by simp; omega
        have hd2 : decide ((e' : Int) > 1) = true := by simp; omega
        clear hc
        go_wp2
        refine ⟨⟨e' - 1, M' * 2, int_eq (by omega), int_eq (by omega), R.out, by omega⟩, by simp [intOf]; omega⟩
      · have HB := Lib.hid (round_bits HR.out hc)
        have HM := mask64 M' 3 (by omega) (by decide) (M := 7) (by decide)
        have HO := u64_and_one (M' / 8)
        have hq : ((M' / 8 : Nat) : Int) = (M' : Int) / 8 := by omega
        rw [hq] at HO
        clear hq
        have hd : (decide ((M' : Int) < 36028797018963968) = false ∨ (decide ((M' : Int) < 36028797018963968) = true ∧ decide ((e' : Int) > 1) = false)) := by
          rcases Nat.lt_or_ge M' (2^55) with h | h
          · right; constructor
            · simp; omega
            · simp; omega
          · left; simp; omega
        have hr : (M' % 8 < 4 ∨ 4 < M' % 8 ∨ (M' % 8 = 4 ∧ M' / 8 % 2 = 1) ∨ (M' % 8 = 4 ∧ M' / 8 % 2 = 0)) := by omega
        clear hc
        rcases hr with hr | hr | ⟨hr, hr2⟩ | ⟨hr, hr2⟩
        · have HF := Lib.hid ((HB.out.2.2.2 hr).trans hR.out)
          have e2 : decide (((M' % 2^3 : Nat) : Int) > 4) = false := by simp; omega
          have e3 : (((M' % 2^3 : Nat) : Int) == 4) = false := by simp; omega
          clear hr HO
          generalize ((M' % 2^3 : Nat) : Int) = r at HM e2 e3
          rcases hd with hd1 | ⟨hd1, hd2⟩ <;>
          · go_wp2
            go_ret
            exact ⟨ret_int (min_int hp HF.out), rfl⟩
        · have HF := Lib.hid ((HB.out.1 hr).trans hR.out)
          have e2 : decide (((M' % 2^3 : Nat) : Int) > 4) = true := by simp; omega
          clear hr HO
          generalize ((M' % 2^3 : Nat) : Int) = r at HM e2
          rcases hd with hd1 | ⟨hd1, hd2⟩ <;>
          · go_wp2
            go_ret
            exact ⟨ret_int (min_int hp HF.out), rfl⟩
        · have HF := Lib.hid ((HB.out.2.1 hr hr2).trans hR.out)
          have e2 : bits .and .u64 (M' : Int) 7 = 4 := by rw [HM, show 2^3 = 8 from rfl, hr]; rfl
          rw [hr2] at HO
          clear hr HM hr2
          rcases hd with hd1 | ⟨hd1, hd2⟩ <;>
          · go_wp2
            go_ret
            exact ⟨ret_int (min_int hp HF.out), rfl⟩
        · have HF := Lib.hid ((HB.out.2.2.1 hr hr2).trans hR.out)
          have e2 : bits .and .u64 (M' : Int) 7 = 4 := by rw [HM, show 2^3 = 8 from rfl, hr]; rfl
          rw [hr2] at HO
          clear hr HM hr2
          rcases hd with hd1 | ⟨hd1, hd2⟩ <;>
          · go_wp2
            go_ret
            exact ⟨ret_int (min_int hp HF.out), rfl⟩
  · have h1 : decide ((M : Int) ≥ 72057594037927936) = true := by simp; omega
    have HJ := Lib.hid (h.out.high hm)
    go_enter Try.func48, Try.ntmps48
    go_wp2_with fail
    refine (shrink_any M 1 _ (by omega)).mono ?_; rintro x w' ⟨rfl, rfl⟩
    go_wp2
    go_loop [0, 1] (fun v k => ∃ (e' M' : Nat), v = .int .i64 (e' : Int) ∧ k = .int .u64 (M' : Int) ∧ Fm.J S e' M' ∧ e' ≤ 2047) (fun v _ => (intOf v).toNat)
    case atStart => exact ⟨e + 1, Fm.stk M 1, rfl, rfl, HJ.out, by omega⟩
    case round =>
      obtain ⟨e', M', rfl, rfl, HR0, hle⟩ := hrel
      have hb : M' < 72057594037927936 := HR0.2.1
      have hp := HR0.1
      have HR := Lib.hid HR0
      clear HR0
      rcases (by omega : (M' < 2^55 ∧ 1 < e') ∨ (2^55 ≤ M' ∨ e' = 1)) with ⟨hc, hc1⟩ | hc
      · have R := Lib.hid (HR.out.step hc hc1)
        have hx : IntKind.u64.wrap ((M' : Int) * 2) = ((M' * 2 : Nat) : Int) := by rw [IntKind.wrap_u64]; omega
        have hd1 : decide ((M' : Int) < 36028797018963968) = true := by simp; omega
        have hd2 : decide ((e' : Int) > 1) = true := by simp; omega
        clear hc
        go_wp2
        refine ⟨⟨e' - 1, M' * 2, int_eq (by omega), int_eq (by omega), R.out, by omega⟩, by simp [intOf]; omega⟩
      · have HB := Lib.hid (round_bits HR.out hc)
        have HM := mask64 M' 3 (by omega) (by decide) (M := 7) (by decide)
        have HO := u64_and_one (M' / 8)
        have hq : ((M' / 8 : Nat) : Int) = (M' : Int) / 8 := by omega
        rw [hq] at HO
        clear hq
        have hd : (decide ((M' : Int) < 36028797018963968) = false ∨ (decide ((M' : Int) < 36028797018963968) = true ∧ decide ((e' : Int) > 1) = false)) := by
          rcases Nat.lt_or_ge M' (2^55) with h | h
          · right; constructor
            · simp; omega
            · simp; omega
          · left; simp; omega
        have hr : (M' % 8 < 4 ∨ 4 < M' % 8 ∨ (M' % 8 = 4 ∧ M' / 8 % 2 = 1) ∨ (M' % 8 = 4 ∧ M' / 8 % 2 = 0)) := by omega
        clear hc
        rcases hr with hr | hr | ⟨hr, hr2⟩ | ⟨hr, hr2⟩
        · have HF := Lib.hid ((HB.out.2.2.2 hr).trans hR.out)
          have e2 : decide (((M' % 2^3 : Nat) : Int) > 4) = false := by simp; omega
          have e3 : (((M' % 2^3 : Nat) : Int) == 4) = false := by simp; omega
          clear hr HO
          generalize ((M' % 2^3 : Nat) : Int) = r at HM e2 e3
          rcases hd with hd1 | ⟨hd1, hd2⟩ <;>
          · go_wp2
            go_ret
            exact ⟨ret_int (min_int hp HF.out), rfl⟩
        · have HF := Lib.hid ((HB.out.1 hr).trans hR.out)
          have e2 : decide (((M' % 2^3 : Nat) : Int) > 4) = true := by simp; omega
          clear hr HO
          generalize ((M' % 2^3 : Nat) : Int) = r at HM e2
          rcases hd with hd1 | ⟨hd1, hd2⟩ <;>
          · go_wp2
            go_ret
            exact ⟨ret_int (min_int hp HF.out), rfl⟩
        · have HF := Lib.hid ((HB.out.2.1 hr hr2).trans hR.out)
          have e2 : bits .and .u64 (M' : Int) 7 = 4 := by rw [HM, show 2^3 = 8 from rfl, hr]; rfl
          rw [hr2] at HO
          clear hr HM hr2
          rcases hd with hd1 | ⟨hd1, hd2⟩ <;>
          · go_wp2
            go_ret
            exact ⟨ret_int (min_int hp HF.out), rfl⟩
        · have HF := Lib.hid ((HB.out.2.2.1 hr hr2).trans hR.out)
          have e2 : bits .and .u64 (M' : Int) 7 = 4 := by rw [HM, show 2^3 = 8 from rfl, hr]; rfl
          rw [hr2] at HO
          clear hr HM hr2
          rcases hd with hd1 | ⟨hd1, hd2⟩ <;>
          · go_wp2
            go_ret
            exact ⟨ret_int (min_int hp HF.out), rfl⟩
theorem round_any (S e M : Nat) (w : World) (h : Hid (Fm.J0 S e M)) (he : e ≤ 2046) :
    Calls Try.prog 48 #[.int .i64 e, .int .u64 M] w fun x w' => x = .returned (.int .u64 (Fm.rnd S : Nat)) ∧ w = w' :=
  round_any' S e M (Fm.rnd S) w (Lib.hid rfl) h he h.out.1 h.out.2.1
end Go.Proofs.Ytkpljnfakidjeaa
