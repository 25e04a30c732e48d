/-
  Doubles added: the parts.
-/
import Derived.Test.YtkpljnfakidjeaaFaddBits
import Derived.Deep.LoopGhost
namespace Go.Proofs.Ytkpljnfakidjeaa
open Go.RowKit

theorem stk_min (m d : Nat) (hm : m < 2^64) : Fm.stk m d = if m % 2^(min d 64) = 0 then m / 2^(min d 64) else m / 2^(min d 64) / 2 * 2 + 1 := by
  rcases Nat.le_total d 64 with h | h
  · rw [Nat.min_eq_left h]; rfl
  · have h1 : m < 2^d := Nat.lt_of_lt_of_le hm (Nat.pow_le_pow_right (by decide) h)
    rw [Nat.min_eq_right h]
    unfold Fm.stk
    rw [Nat.mod_eq_of_lt h1, Nat.div_eq_of_lt h1, Nat.mod_eq_of_lt hm, Nat.div_eq_of_lt hm]
theorem wrap_mask (D : Nat) (h : D ≤ 64) : IntKind.u64.wrap (IntKind.u64.wrap (2 ^ D) - 1) = ((2^D - 1 : Nat) : Int) := by
  have h0 : 0 < 2^D := Nat.two_pow_pos D
  have h1 : 2^D ≤ 2^64 := Nat.pow_le_pow_right (by decide) h
  have e : ((2 : Int) ^ D) = ((2^D : Nat) : Int) := by simp
  rw [e, IntKind.wrap_u64, IntKind.wrap_u64]
  generalize 2^D = P at *
  omega
theorem or_one (q : Nat) (hq : q < 2^64) : bits .or .u64 (q : Int) 1 = ((q / 2 * 2 + 1 : Nat) : Int) := by
  have h := set_bit q 0 hq (by decide) (M := 1) rfl
  rw [h]
  simp
  split <;> omega
theorem tuple_eq {a b : Value} {c d : Value} (h : a = c) (h2 : b = d) : Ending.returned (.tuple #[a, b]) = Ending.returned (.tuple #[c, d]) := by rw [h, h2]
theorem int_eq {k : IntKind} {a b : Int} (h : a = b) : Value.int k a = .int k b := by rw [h]

set_option maxRecDepth 100000 in
set_option maxHeartbeats 1000000 in
theorem class_any (a : Nat) (w : World) (ha : a < 2^64) :
    Calls Try.prog 20 #[.int .u64 a] w fun e w' => e = .returned (.int .i64 (Fm.cls a : Nat)) ∧ w = w' := by
  have e1 := not_sign a ha
  have hi : Fm.inf = 9218868437227405312 := by decide
  have HC := Lib.hid (show Fm.cls a = if 9218868437227405312 < Fm.sz a then 4 else if Fm.sz a = 9218868437227405312 then 3 else if 4503599627370496 ≤ Fm.sz a then 2 else if 0 < Fm.sz a then 1 else 0 by unfold Fm.cls; rw [hi])
  clear hi
  generalize Fm.cls a = c at HC ⊢
  generalize Fm.sz a = s at e1 HC
  have h1 : decide ((s : Int) > 9218868437227405312) = decide (9218868437227405312 < s) := by rw [decide_eq_decide]; omega
  have h2 : ((s : Int) == 9218868437227405312) = decide (s = 9218868437227405312) := by rw [Bool.eq_iff_iff]; simp; omega
  have h3 : decide ((s : Int) ≥ 4503599627370496) = decide (4503599627370496 ≤ s) := by rw [decide_eq_decide]; omega
  go_enter Try.func20, Try.ntmps20
  go_wp2
  all_goals go_ret
  all_goals (refine ⟨ret_int ?_, rfl⟩; rw [HC.out]; repeat' split)
  all_goals first | omega | rfl

set_option maxRecDepth 100000 in
set_option maxHeartbeats 1000000 in
theorem quiet_any (a : Nat) (w : World) (ha : a < 2^64) :
    Calls Try.prog 16 #[.int .u64 a] w fun e w' => e = .returned (.int .u64 (Fm.quiet a : Nat)) ∧ w = w' := by
  have e1 := quiet_of a ha
  go_enter Try.func16, Try.ntmps16
  go_wp2
  go_ret
  exact ⟨rfl, rfl⟩

set_option maxRecDepth 100000 in
set_option maxHeartbeats 1000000 in
theorem shrink_any (m d : Nat) (w : World) (hm : m < 2^64) :
    Calls Try.prog 47 #[.int .u64 m, .int .i64 d] w fun e w' => e = .returned (.int .u64 (Fm.stk m d : Nat)) ∧ w = w' := by
  have HS := Lib.hid (stk_min m d hm)
  have hD : min d 64 ≤ 64 := Nat.min_le_right _ _
  have e0 := wrap_mask (min d 64) hD
  have e1 := mask64 m (min d 64) hm hD e0
  have E3 := Lib.hid (or_one (m / 2^(min d 64)) (Nat.lt_of_le_of_lt (Nat.div_le_self _ _) hm))
  have E1 := Lib.hid e1
  clear hD e0 e1
  go_enter Try.func47, Try.ntmps47
  go_wp2
  all_goals go_ret
  · rename_i hc
    refine ⟨ret_int ?_, rfl⟩
    rw [HS.out, if_neg (by rw [E1.out] at hc; intro h; rw [h] at hc; exact absurd hc (by decide))]
    have := E3.out
    rw [Int.natCast_ediv, Int.natCast_pow] at this
    exact this
  · rename_i hc
    refine ⟨ret_int ?_, rfl⟩
    rw [HS.out, if_pos (by rw [E1.out] at hc; generalize m % 2^(min d 64) = r at hc; simpa using hc)]
    simp

theorem cls_small {a : Nat} : Fm.cls a < 2 ↔ Fm.sz a < 2^52 := by
  have hi : Fm.inf = 2047*2^52 := rfl
  unfold Fm.cls
  repeat' split
  all_goals omega
set_option maxRecDepth 100000 in
set_option maxHeartbeats 1000000 in
theorem parts_any (a : Nat) (w : World) (ha : a < 2^64) :
    Calls Try.prog 46 #[.int .u64 a] w fun e w' => e = .returned (.tuple #[.int .i64 (Fm.pe (Fm.sz a) : Nat), .int .u64 (Fm.pm (Fm.sz a) * 8 : Nat)]) ∧ w = w' := by
  have HC := Lib.hid (@cls_small a)
  have HP := Lib.hid (Fm.sz_lt a)
  have E2 := Lib.hid (mask64 a 52 ha (by decide) (M := 4503599627370495) (by decide))
  have E3 := Lib.hid (show bits .or .u64 ((a % 2^52 : Nat) : Int) 4503599627370496 = ((a % 2^52 + 2^52 : Nat) : Int) by
    have h := set_bit (a % 2^52) 52 (by omega) (by decide) (M := 4503599627370496) (by decide)
    rw [h, Nat.mod_div_self]
    rfl)
  go_enter Try.func46, Try.ntmps46
  go_wp2_with fail
  refine (class_any a _ ha).mono ?_; rintro e w' ⟨rfl, rfl⟩
  go_wp2
  all_goals go_ret2
  all_goals (refine ⟨tuple_eq (int_eq ?_) (int_eq ?_), rfl⟩)
  all_goals (have hc := HC.out; have hp := HP.out; have e3 := E3.out; have e2 := E2.out; clear HC HP E3 E2)
  · simp at *
    rw [Fm.pe, if_pos (by omega)]; rfl
  · have hs : Fm.sz a < 2^52 := hc.1 (by rename_i h; simp at h; omega)
    show IntKind.u64.wrap (bits .and .u64 (a : Int) 4503599627370495 * 8) = _
    rw [e2, Fm.pm, if_pos hs, IntKind.wrap_u64]
    unfold Fm.sz at *
    omega
  · simp at *
    rw [Fm.pe, if_pos (by omega)]; rfl
  · have hs : Fm.sz a < 2^52 := hc.1 (by rename_i h; simp at h; omega)
    show IntKind.u64.wrap (bits .and .u64 (a : Int) 4503599627370495 * 8) = _
    rw [e2, Fm.pm, if_pos hs, IntKind.wrap_u64]
    unfold Fm.sz at *
    omega
  · have hs : ¬ Fm.sz a < 2^52 := fun h => by rename_i h1 h2; have := hc.2 h; simp at h1 h2; omega
    show wrap64 (bits .andNot .u64 (a : Int) 9223372036854775808 / 4503599627370496) = _
    rw [not_sign a ha, wrap64_id (by omega) (by omega), Fm.pe, if_neg hs]
    omega
  · have hs : ¬ Fm.sz a < 2^52 := fun h => by rename_i h1 h2; have := hc.2 h; simp at h1 h2; omega
    show IntKind.u64.wrap (bits .or .u64 (bits .and .u64 (a : Int) 4503599627370495) 4503599627370496 * 8) = _
    rw [e2, e3, Fm.pm, if_neg hs, IntKind.wrap_u64]
    unfold Fm.sz at *
    omega
end Go.Proofs.Ytkpljnfakidjeaa
