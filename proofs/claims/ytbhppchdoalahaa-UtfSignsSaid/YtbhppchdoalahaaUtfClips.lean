/-
  hyglaw3.first; hyglaw3.UtfClips: for every text and every number the law returns true.
-/
import Derived.Test.YtbhppchdoalahaaUtfMath
namespace Go.Proofs.Ytbhppchdoalahaa
open Go.RowKit

set_option maxRecDepth 100000 in
set_option maxHeartbeats 1000000 in
theorem first3 (w : World) : Calls Try.prog 8 #[] w fun e w' => e = .returned (.bool true) ∧ w = w' := by
  have h1 := Lib.hid (show ubad [97, 192] = 1 by decide)
  have h2 := Lib.hid (show uvalid [97, 195, 169] = true by decide)
  have h3 := Lib.hid (show uvalid [237, 160, 128] = false by decide)
  have h4 := Lib.hid (show ubad [] = -1 by decide)
  have h5 := Lib.hid (show ([97, 195, 169] : List UInt8).take (uwhole [97, 195, 169] 2) = [97] by decide)
  go_enter Try.func8, Try.ntmps8
  go_wp2_with fail
  refine (bad_any _ w (by decide)).mono ?_; rintro e w1 ⟨rfl, rfl⟩
  rw [show ubad _ = 1 from h1.out]
  go_wp2_with fail
  refine (valid_any _ w (by decide)).mono ?_; rintro e w1 ⟨rfl, rfl⟩
  rw [show uvalid _ = true from h2.out]
  go_wp2_with fail
  refine (valid_any _ w (by decide)).mono ?_; rintro e w1 ⟨rfl, rfl⟩
  rw [show uvalid _ = false from h3.out]
  go_wp2_with fail
  refine (bad_any _ w (by decide)).mono ?_; rintro e w1 ⟨rfl, rfl⟩
  rw [show ubad _ = -1 from h4.out]
  go_wp2_with fail
  refine (clip_any _ 2 w (by decide) (by omega) (by omega)).mono ?_; rintro e w1 ⟨rfl, rfl⟩
  rw [show List.take (uwhole (ByteArray.mk #[97, 195, 169]).data.toList 2) (ByteArray.mk #[97, 195, 169]).data.toList = [97] from h5.out]
  go_wp2
  go_ret
  exact ⟨rfl, rfl⟩

theorem extract_sub (s : ByteArray) (a b : Nat) : (s.extract a b).data.toList = (s.data.toList.drop a).take (b - a) := by
  rw [ByteArray.data_extract, Array.toList_extract, List.extract_eq_take_drop]

set_option maxRecDepth 100000 in
set_option maxHeartbeats 4000000 in
theorem clips_pos (s : ByteArray) (n : Int) (w : World) (hs : s.size ≤ 4000) (hn1 : 0 ≤ n) (hn2 : n ≤ 9223372036854775807) :
    Calls Try.prog 4 #[.string s, .int .i64 n] w fun e w' => e = .returned (.bool true) ∧ Below w.heap.size w w' := by
  have HL := Lib.hid (show s.data.toList.length = s.size by simp)
  obtain ⟨T, HT⟩ : ∃ T : ByteArray, Hid (T = ByteArray.mk (s.data.toList.take (uwhole s.data.toList n)).toArray) := ⟨_, Lib.hid rfl⟩
  have HTL : Hid (T.data.toList = s.data.toList.take (uwhole s.data.toList n)) := Lib.hid (by rw [HT.out])
  have hts0 : T.size = uwhole s.data.toList n := by
    have e : T.size = T.data.toList.length := by simp
    rw [e, HTL.out]
    have := uwhole_le s.data.toList n
    simp at this ⊢
    omega
  have HTS := Lib.hid hts0
  have ht1 : T.size ≤ s.size := by rw [hts0]; have := uwhole_le s.data.toList n; simpa using this
  have ht2 : (T.size : Int) ≤ n := by have := uwhole_bound _ s.data.toList n (Nat.le_refl _); omega
  have hx : (s.extract 0 T.size).toList = T.toList := by rw [extract_take, HTS.out, HT.out]
  have HV : Hid (uvalid T.data.toList = true) := Lib.hid (by rw [HTL.out]; exact clip_valid _ _)
  have HC : Hid (T.data.toList.take (uwhole T.data.toList n) = T.data.toList) := Lib.hid (by
    rw [HTL.out, uwhole_take _ _ _ _ (Nat.le_refl _) (by have := uwhole_bound _ s.data.toList n (Nat.le_refl _); omega)]
    exact List.take_of_length_le (by simp; omega))
  clear hts0
  have hd1 : decide (n < (T.size : Int)) = false := by simp; omega
  have hd2 : decide (s.size < T.size) = false := by simp; omega
  have hd3 : decide (4000 < (s.size : Int)) = false := by simp; omega
  go_enter Try.func4, Try.ntmps4
  go_wp2_with fail
  refine (first3 w).mono ?_; rintro e w1 ⟨rfl, rfl⟩
  go_wp2_with fail
  refine (clip_any s n w (by omega) (by omega) hn2).mono ?_; rintro e w1 ⟨rfl, rfl⟩
  rw [← HT.out]
  go_wp2_with fail
  refine (valid_any T w (by omega)).mono ?_; rintro e w1 ⟨rfl, rfl⟩
  rw [HV.out]
  go_wp2_with fail
  go_loopg [6] 5 (fun g k wr => ∃ q : Nat, k = .int .i64 ((T.size : Int) + (q : Int)) ∧ 1 ≤ q ∧ q + g = 6 ∧ wr = w)
  case atStart => exact ⟨1, rfl, by omega, by omega, rfl⟩
  case round =>
    obtain ⟨q, rfl, hq, hg, rfl⟩ := hrel
    have HG := Lib.hid hg
    have hq6 : q ≤ 6 := by omega
    clear hg
    by_cases hc : T.size + q ≤ s.size ∧ (T.size : Int) + (q : Int) ≤ n ∧ q ≤ 4
    · obtain ⟨c1, c2, c3⟩ := hc
      have HM : Hid (uvalid (s.extract T.size (T.size + q)).data.toList = false) := Lib.hid (by
        rw [extract_sub, Nat.add_sub_cancel_left, HTS.out]
        exact clip_most _ n q hq (by have := HL.out; have := HTS.out; omega) (by have := HTS.out; omega))
      go_wp2_with fail
      refine (valid_any _ wr (by simp; omega)).mono ?_; rintro e w1 ⟨rfl, rfl⟩
      rw [HM.out]
      go_wp2
      have hg := HG.out
      go_roundg (gk - 1)
      case measure => omega
      case rel => exact ⟨q + 1, by simp; omega, by omega, by omega, rfl⟩
    · have HF : Hid (ByteArray.mk (T.data.toList.take (uwhole T.data.toList n)).toArray = T) := Lib.hid (by rw [HC.out])
      rcases (by omega : s.size < T.size + q ∨ (T.size + q ≤ s.size ∧ n < (T.size : Int) + (q : Int)) ∨ (T.size + q ≤ s.size ∧ (T.size : Int) + (q : Int) ≤ n ∧ 4 < q)) with c1 | ⟨c1, c2⟩ | ⟨c1, c2, c3⟩
      all_goals clear hc
      all_goals go_wp2_with fail
      all_goals refine (first3 wr).mono ?_
      all_goals rintro e w1 ⟨rfl, rfl⟩
      all_goals go_wp2_with fail
      all_goals refine (clip_any T n wr (by omega) (by omega) hn2).mono ?_
      all_goals rintro e w1 ⟨rfl, rfl⟩
      all_goals rw [HF.out]
      all_goals go_wp2
      all_goals go_ret
      all_goals exact ⟨rfl, Below.refl _ _⟩

set_option maxRecDepth 100000 in
set_option maxHeartbeats 4000000 in
theorem clips_neg (s : ByteArray) (n : Int) (w : World) (hs : s.size ≤ 4000) (hn1 : -9223372036854775808 ≤ n) (hn : n < 0) :
    Calls Try.prog 4 #[.string s, .int .i64 n] w fun e w' => e = .returned (.bool true) ∧ Below w.heap.size w w' := by
  have H1 : Hid (ByteArray.mk (s.data.toList.take (uwhole s.data.toList n)).toArray = ⟨#[]⟩) := Lib.hid (by rw [uwhole_neg _ _ hn]; rfl)
  have H2 : Hid (uvalid (ByteArray.mk #[]).data.toList = true) := Lib.hid (show uvalid [] = true by decide)
  have H3 : Hid (ByteArray.mk ((ByteArray.mk #[]).data.toList.take (uwhole (ByteArray.mk #[]).data.toList n)).toArray = ⟨#[]⟩) := Lib.hid (by rw [uwhole_neg _ _ hn]; rfl)
  have hd3 : decide (4000 < (s.size : Int)) = false := by simp; omega
  go_enter Try.func4, Try.ntmps4
  go_wp2_with fail
  refine (first3 w).mono ?_; rintro e w1 ⟨rfl, rfl⟩
  go_wp2_with fail
  refine (clip_any s n w (by omega) (by omega) (by omega)).mono ?_; rintro e w1 ⟨rfl, rfl⟩
  rw [H1.out]
  go_wp2_with fail
  refine (valid_any _ w (by decide)).mono ?_; rintro e w1 ⟨rfl, rfl⟩
  rw [H2.out]
  go_wp2_with fail
  refine wp_loop_rounds 1 ?_
  rw [rounds_succ]
  go_wp2_with fail
  all_goals refine (first3 w).mono ?_
  all_goals rintro e w1 ⟨rfl, rfl⟩
  all_goals go_wp2_with fail
  all_goals refine (clip_any _ n w (by decide) (by omega) (by omega)).mono ?_
  all_goals rintro e w1 ⟨rfl, rfl⟩
  all_goals rw [H3.out]
  all_goals go_wp2
  all_goals go_ret
  all_goals exact ⟨rfl, Below.refl _ _⟩

set_option maxRecDepth 100000 in
theorem clips_long (s : ByteArray) (n : Int) (w : World) (hs : 4000 < s.size) :
    Calls Try.prog 4 #[.string s, .int .i64 n] w fun e w' => e = .returned (.bool true) ∧ Below w.heap.size w w' := by
  go_enter Try.func4, Try.ntmps4
  go_wp2_with fail
  refine (first3 w).mono ?_; rintro e w1 ⟨rfl, rfl⟩
  go_wp2_with fail
  refine (first3 w).mono ?_; rintro e w1 ⟨rfl, rfl⟩
  go_wp2
  go_ret
  exact ⟨rfl, Below.refl _ _⟩
theorem clips_walk (s : ByteArray) (n : Int) (w : World) (hn1 : -9223372036854775808 ≤ n) (hn2 : n ≤ 9223372036854775807) :
    Calls Try.prog 4 #[.string s, .int .i64 n] w fun e w' => e = .returned (.bool true) ∧ Below w.heap.size w w' := by
  by_cases hs : s.size ≤ 4000
  · by_cases h0 : 0 ≤ n
    · exact clips_pos s n w hs h0 hn2
    · exact clips_neg s n w hs hn1 (by omega)
  · exact clips_long s n w (by omega)
end Go.Proofs.Ytbhppchdoalahaa
