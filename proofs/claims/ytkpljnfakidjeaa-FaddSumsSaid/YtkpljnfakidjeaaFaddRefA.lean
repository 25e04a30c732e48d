/-
  Doubles added: the reference's small functions.
-/
import Derived.Test.YtkpljnfakidjeaaFaddRef
namespace Go.Proofs.Ytkpljnfakidjeaa
open Go.RowKit

theorem expo' (a : Nat) (ha : a < 2^64) : bits .and .u64 ((a : Int) / 4503599627370496) 2047 = ((Fm.sz a / 2^52 : Nat) : Int) := by
  have e : ((a : Int) / 4503599627370496) = ((a / 2^52 : Nat) : Int) := by omega
  rw [e, mask64 (a / 2^52) 11 (by omega) (by decide) (by decide)]
  congr 1
  unfold Fm.sz
  omega
theorem frac (a : Nat) (ha : a < 2^64) : bits .and .u64 (a : Int) 4503599627370495 = ((Fm.sz a % 2^52 : Nat) : Int) := by
  rw [mask64 a 52 ha (by decide) (M := 4503599627370495) (by decide)]
  congr 1
  unfold Fm.sz
  omega
theorem cls_split (a : Nat) : Fm.cls a = if Fm.sz a / 2^52 = 2047 ∧ 0 < Fm.sz a % 2^52 then 4 else if Fm.sz a / 2^52 = 2047 then 3 else if 0 < Fm.sz a / 2^52 then 2 else if 0 < Fm.sz a % 2^52 then 1 else 0 := by
  have hi : Fm.inf = 2047*2^52 := rfl
  have := Fm.sz_lt a
  unfold Fm.cls
  repeat' split
  all_goals omega
set_option maxRecDepth 100000 in
set_option maxHeartbeats 2000000 in
theorem rclass_is (a : Nat) (w : World) (ha : a < 2^64) {c : Int} (hC : Hid (c = (Fm.cls a : Nat))) :
    Calls Try.prog 29 #[.int .u64 a] w fun e w' => e = .returned (.int .i64 c) ∧ w = w' := by
  have h1 := expo' a ha
  have h2 := frac a ha
  have HC := Lib.hid (cls_split a)
  rw [hC.out]
  generalize Fm.cls a = x at HC ⊢
  generalize Fm.sz a / 2^52 = E at h1 HC
  generalize Fm.sz a % 2^52 = F at h2 HC
  go_enter Try.func29, Try.ntmps29
  go_wp2
  all_goals go_ret
  all_goals (refine ⟨ret_int ?_, rfl⟩; rw [HC.out]; repeat' split)
  all_goals first | rfl | (simp at *; omega)
set_option maxRecDepth 100000 in
set_option maxHeartbeats 1000000 in
theorem rsize_at (a A : Nat) (w : World) (ha : a < 2^64) (hA : Hid (Fm.sz a = A)) :
    Calls Try.prog 30 #[.int .u64 a] w fun e w' => e = .returned (.int .u64 A) ∧ w = w' := by
  have h1 : bits .and .u64 (a : Int) 9223372036854775807 = (A : Int) := by rw [← hA.out]; exact mask64 a 63 ha (by decide) (M := 9223372036854775807) (by decide)
  go_enter Try.func30, Try.ntmps30
  go_wp2
  go_ret
  exact ⟨rfl, rfl⟩
set_option maxRecDepth 100000 in
set_option maxHeartbeats 1000000 in
theorem rneg_at (a : Nat) (b : Bool) (w : World) (_ha : a < 2^64) (hb : Hid (decide (Fm.sg a = 1) = b)) :
    Calls Try.prog 32 #[.int .u64 a] w fun e w' => e = .returned (.bool b) ∧ w = w' := by
  have h1 : ((a : Int) / 9223372036854775808 == 1) = b := by
    rw [← hb.out, Bool.eq_iff_iff]
    unfold Fm.sg
    simp
    omega
  go_enter Try.func32, Try.ntmps32
  go_wp2
  all_goals go_ret
  all_goals exact ⟨by first | rfl | simp_all, rfl⟩
set_option maxRecDepth 100000 in
set_option maxHeartbeats 1000000 in
theorem rparts_at (a m : Nat) (e : Int) (w : World) (ha : a < 2^64) (hM : Hid (Fm.pm (Fm.sz a) = m)) (hE : Hid ((Fm.pe (Fm.sz a) : Int) - 1075 = e)) :
    Calls Try.prog 31 #[.int .u64 a] w fun x w' => x = .returned (.tuple #[.int .u64 m, .int .i64 e]) ∧ w = w' := by
  have h1 := expo' a ha
  have h2 := frac a ha
  have hz := Fm.sz_lt a
  have hp := hM.out
  have hq := hE.out
  unfold Fm.pm at hp
  unfold Fm.pe at hq
  have h3 : bits .or .u64 ((Fm.sz a % 2^52 : Nat) : Int) 4503599627370496 = ((Fm.sz a % 2^52 + 2^52 : Nat) : Int) := by
    have h := set_bit (Fm.sz a % 2^52) 52 (by omega) (by decide) (M := 4503599627370496) (by decide)
    rw [h, Nat.mod_div_self]
    rfl
  by_cases hs : Fm.sz a < 2^52
  · rw [if_pos hs] at hp hq
    have e1 : Fm.sz a / 2^52 = 0 := by omega
    have e2 : Fm.sz a % 2^52 = m := by omega
    rw [e1] at h1
    rw [e2] at h2
    have hq' : (-1074 : Int) = e := by omega
    clear hp hq h3 e1 e2 hz
    go_enter Try.func31, Try.ntmps31
    go_wp2
    all_goals go_ret2
    all_goals exact ⟨tuple_eq (by first | rfl | exact int_eq h2) (by first | rfl | exact int_eq hq'), rfl⟩
  · rw [if_neg hs] at hp hq
    rw [hp] at h3
    obtain ⟨E, hE'⟩ : ∃ E, Fm.sz a / 2^52 = E := ⟨_, rfl⟩
    rw [hE'] at h1 hq
    have hE0 : 0 < E ∧ E ≤ 2047 := by omega
    obtain ⟨hE1, hE2⟩ := hE0
    generalize Fm.sz a % 2^52 = F at h2 h3
    have hf : ((E : Int) == 0) = false := by simp; omega
    have HQ := Lib.hid hq
    clear hp hq hz hs hE'
    go_enter Try.func31, Try.ntmps31
    go_wp2
    all_goals go_ret2
    all_goals exact ⟨tuple_eq (by first | rfl | exact int_eq h3) (int_eq (by first | exact HQ.out | (have := HQ.out; omega))), rfl⟩
set_option maxRecDepth 100000 in
set_option maxHeartbeats 1000000 in
theorem rquiet_is (a q : Nat) (w : World) (ha : a < 2^64) (hQ : Hid (Fm.quiet a = q)) :
    Calls Try.prog 17 #[.int .u64 a] w fun e w' => e = .returned (.int .u64 q) ∧ w = w' := by
  have e1 := quiet_of a ha
  rw [hQ.out] at e1
  go_enter Try.func17, Try.ntmps17
  go_wp2
  go_ret
  exact ⟨rfl, rfl⟩
set_option maxRecDepth 100000 in
set_option maxHeartbeats 1000000 in
theorem rturn_at (a R : Nat) (w : World) (ha : a < 2^64) (hR : Hid (Fm.ngt a = R)) :
    Calls Try.prog 34 #[.int .u64 a] w fun e w' => e = .returned (.int .u64 R) ∧ w = w' := by
  have e1 := turn_sign a ha
  rw [hR.out] at e1
  go_enter Try.func34, Try.ntmps34
  go_wp2
  go_ret
  exact ⟨rfl, rfl⟩
theorem rround_to (neg : Bool) (m j S R : Nat) (e : Int) (w : World) (hK : Fm.K S j m) (hS : 0 < S) (hj : j ≤ 2045) (he : e = (j : Int) - 1084) (hR : Hid ((if neg then 1 else 0) * 2^63 + Fm.rnd S = R)) {M : Int} (hM : M = (m : Int)) :
    Calls Try.prog 33 #[.bool neg, .int .u64 M, .int .i64 e] w fun x w' => x = .returned (.int .u64 (R : Nat)) ∧ w = w' := by
  rw [hM]
  exact rround_at neg m j S R e w hK hS hj he hR
end Go.Proofs.Ytkpljnfakidjeaa
