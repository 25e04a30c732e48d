/-
  hyglaw4.WireCut: for every two texts, depth and cut the law returns true.
-/
import Derived.Test.YtbhppchdoalahaaWireCut1
import Derived.Test.YtbhppchdoalahaaWireCut2
namespace Go.Proofs.Ytbhppchdoalahaa
open Go.RowKit

set_option maxRecDepth 100000 in
set_option maxHeartbeats 8000000 in
theorem cut_eg (t : ByteArray) (d k : Int) (ks : List Rec) (w : World) (h2 : t.size ≤ 4000) (h3 : 0 ≤ d) (h4 : 0 ≤ k) (ht : wall t.data.toList d = .ok ks) :
    Calls Try.prog 5 #[.string ⟨#[]⟩, .string t, .int .i64 d, .int .i64 k] w fun e w' => e = .returned (.bool true) ∧ Below w.heap.size w w' := by
  have HE : Hid (wall (ByteArray.mk #[]).data.toList d = .ok []) := Lib.hid rfl
  have HT := Lib.hid ht
  have hdB : decide (4000 < (t.size : Int)) = false := by simp; omega
  have hdC : decide (d < 0) = false := by simpa using h3
  have hdD : decide (k < 0) = false := by simpa using h4
  clear ht
  go_enter Try.func5, Try.ntmps5
  go_wp2_with fail
  refine (first4 w).mono ?_; rintro e w1 ⟨rfl, hb1⟩
  have HB1 := Lib.hid hb1
  clear hb1
  go_wp2_with fail
  refine (all_good w1 (by decide) HE.out).mono ?_; rintro e w2 ⟨ao, cap, rfl, ho, hl, hb2⟩
  rw [show ([] : List Rec).length = 0 from rfl] at hl ⊢
  have HB2 := Lib.hid (below_step HB1.out hb2)
  clear hb2 ho
  go_wp2_with fail
  refine (all_good w2 (by have e0 : (ByteArray.mk #[]).size = 0 := rfl; simp only [ByteArray.size_append]; omega) (rs := ks) (by simpa using HT.out)).mono ?_; rintro e w3 ⟨ao3, cap3, rfl, _, hl3, hb3⟩
  have HB3 := Lib.hid (below_step HB2.out hb3)
  clear hb3
  go_wp2_with fail
  refine (all_good w3 (by omega) HT.out).mono ?_; rintro e w4 ⟨ao4, cap4, rfl, _, hl4, hb4⟩
  have hwk : IntKind.i64.wrap (ks.length : Int) = (ks.length : Int) := i64_wrap_id (by omega) (by omega)
  have HB4 := Lib.hid (below_step HB3.out hb4)
  clear hb4
  go_wp2_with fail
  refine wp_loop_rounds 1 ?_
  rw [rounds_succ]
  go_wp2_with fail
  refine wp_region_seq (S := fun _ => True) [(0, true), (1, true), (2, true), (3, true), (4, true), (5, true), (6, true), (7, true), (8, true), (9, true), (10, true), (11, true), (12, true), (13, true), (14, true), (15, true), (16, true), (17, true), (18, true), (19, true), (20, true), (21, true), (22, true), (23, true)] (by kernel_rfl) (by kernel_rfl) (by kernel_rfl) (by kernel_rfl) trivial ?_
  iterate 24 (refine seq_take _ rfl (fun K hK => ?_); go_simp; (first | refine hK _ ?_ | (refine ⟨undef, by rw [if_neg (by simp [undef])], ?_⟩; refine hK _ ?_)); clear hK K)
  refine seq_done ?_
  obtain ⟨w7, hw7⟩ : ∃ w7, w7 = w4.drew := ⟨_, rfl⟩
  rw [← hw7]
  have HB7 : Hid (Below w.heap.size w w7) := Lib.hid (by rw [hw7]; exact below_step HB4.out (below_drewN0 w4 1))
  clear hw7
  go_wp2_with fail
  refine (first4 w7).mono ?_; rintro e w9 ⟨rfl, hb9⟩
  have HB9 := Lib.hid (below_step HB7.out hb9)
  clear hb9
  go_wp2_with fail
  go_ret
  exact ⟨rfl, HB9.out⟩
set_option maxRecDepth 100000 in
set_option maxHeartbeats 8000000 in
theorem cut_eb (t : ByteArray) (d k : Int) (c : Nat) (w : World) (h2 : t.size ≤ 4000) (h3 : 0 ≤ d) (h4 : 0 ≤ k) (ht : wall t.data.toList d = .error c) :
    Calls Try.prog 5 #[.string ⟨#[]⟩, .string t, .int .i64 d, .int .i64 k] w fun e w' => e = .returned (.bool true) ∧ Below w.heap.size w w' := by
  have HE : Hid (wall (ByteArray.mk #[]).data.toList d = .ok []) := Lib.hid rfl
  have HT := Lib.hid ht
  have hdB : decide (4000 < (t.size : Int)) = false := by simp; omega
  have hdC : decide (d < 0) = false := by simpa using h3
  have hdD : decide (k < 0) = false := by simpa using h4
  clear ht
  go_enter Try.func5, Try.ntmps5
  go_wp2_with fail
  refine (first4 w).mono ?_; rintro e w1 ⟨rfl, hb1⟩
  have HB1 := Lib.hid hb1
  clear hb1
  go_wp2_with fail
  refine (all_good w1 (by decide) HE.out).mono ?_; rintro e w2 ⟨ao, cap, rfl, ho, hl, hb2⟩
  rw [show ([] : List Rec).length = 0 from rfl] at hl ⊢
  have HB2 := Lib.hid (below_step HB1.out hb2)
  clear hb2 ho
  go_wp2_with fail
  refine (all_err w2 (by have e0 : (ByteArray.mk #[]).size = 0 := rfl; simp only [ByteArray.size_append]; omega) (c := c) (by simpa using HT.out)).mono ?_; rintro e w3 ⟨T3, y3, rfl, hb3⟩
  have HB3 := Lib.hid (below_step HB2.out hb3)
  clear hb3
  go_wp2_with fail
  refine (all_err w3 (by omega) HT.out).mono ?_; rintro e w4 ⟨T4, y4, rfl, hb4⟩
  have HB4 := Lib.hid (below_step HB3.out hb4)
  clear hb4
  go_wp2_with fail
  refine wp_loop_rounds 1 ?_
  rw [rounds_succ]
  go_wp2_with fail
  refine wp_region_seq (S := fun _ => True) [(0, true), (1, true), (2, true), (3, true), (4, true), (5, true), (6, true), (7, true), (8, true), (9, true), (10, true), (11, true), (12, true), (13, true), (14, true), (15, true), (16, true), (17, true), (18, true), (19, true), (20, true), (21, true), (22, true), (23, true)] (by kernel_rfl) (by kernel_rfl) (by kernel_rfl) (by kernel_rfl) trivial ?_
  iterate 24 (refine seq_take _ rfl (fun K hK => ?_); go_simp; (first | refine hK _ ?_ | (refine ⟨undef, by rw [if_neg (by simp [undef])], ?_⟩; refine hK _ ?_)); clear hK K)
  refine seq_done ?_
  obtain ⟨w7, hw7⟩ : ∃ w7, w7 = w4.drew := ⟨_, rfl⟩
  rw [← hw7]
  have HB7 : Hid (Below w.heap.size w w7) := Lib.hid (by rw [hw7]; exact below_step HB4.out (below_drewN0 w4 1))
  clear hw7
  go_wp2_with fail
  refine (first4 w7).mono ?_; rintro e w9 ⟨rfl, hb9⟩
  have HB9 := Lib.hid (below_step HB7.out hb9)
  clear hb9
  go_wp2_with fail
  go_ret
  exact ⟨rfl, HB9.out⟩
theorem cut_walk (s t : ByteArray) (d k : Int) (w : World) (hk : k ≤ 9223372036854775807) :
    Calls Try.prog 5 #[.string s, .string t, .int .i64 d, .int .i64 k] w fun e w' => e = .returned (.bool true) ∧ Below w.heap.size w w' := by
  by_cases h : 4000 < s.size ∨ 4000 < t.size ∨ d < 0 ∨ k < 0
  · exact cut_early s t d k w h
  · have h1 : s.size ≤ 4000 := by omega
    have h2 : t.size ≤ 4000 := by omega
    have h3 : 0 ≤ d := by omega
    have h4 : 0 ≤ k := by omega
    cases hs : wall s.data.toList d with
    | error c => exact cut_bad s t d k c w h1 h2 h3 h4 hs
    | ok rs =>
      cases rs with
      | nil =>
        have e : s = ⟨#[]⟩ := by
          have := (wall_raws _ (Nat.le_refl _) hs).1
          apply ByteArray.ext
          apply Array.toList_inj.1
          simpa using this.symm
        subst e
        cases ht : wall t.data.toList d with
        | error c => exact cut_eb t d k c w h2 h3 h4 ht
        | ok ks => exact cut_eg t d k ks w h2 h3 h4 ht
      | cons r rs =>
        cases ht : wall t.data.toList d with
        | error c => exact cut_gb s t d k (r :: rs) c w h1 h2 h3 h4 hk hs rs.length rfl ht
        | ok ks => exact cut_gg s t d k (r :: rs) ks w h1 h2 h3 h4 hk hs rs.length rfl ht
end Go.Proofs.Ytbhppchdoalahaa
