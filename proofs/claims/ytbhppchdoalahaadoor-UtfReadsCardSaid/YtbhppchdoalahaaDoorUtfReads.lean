/-
  hyglaw3.UtfReads: for every text and every number the law returns true.
-/
import Derived.Test.YtbhppchdoalahaaDoorFirst3
import Derived.Test.YtbhppchdoalahaaDoorUtfRefW
import Derived.Test.YtbhppchdoalahaaDoorErrNew
import Derived.Test.YtbhppchdoalahaaDoorGet
namespace Go.Proofs.YtbhppchdoalahaaDoor
open Go.RowKit

theorem ubad_at {l : List UInt8} {j : Nat} (h : WhlRel l l.length j) (hj : j < l.length) (h0 : usign (l.drop j) = 0) : ubad l = j := by
  have := whl_stop h (.inr (.inl h0))
  unfold ubad
  rw [this, if_neg (by omega)]
theorem ubad_none {l : List UInt8} {j : Nat} (h : WhlRel l l.length j) (hj : j = l.length) : ubad l = -1 := by
  subst hj
  have := whl_stop h (.inl (by simp))
  unfold ubad
  rw [this, if_pos rfl]
set_option maxRecDepth 100000 in
set_option maxHeartbeats 2000000 in
theorem rbad_any (s : ByteArray) (w : World) (hs : s.size ≤ 1000000) :
    Calls Tryd.prog 11 #[.string s] w fun e w' => e = .returned (.int .i64 (ubad s.data.toList)) ∧ w = w' := by
  have HL := Lib.hid (show s.data.toList.length = s.size by simp)
  go_enter Tryd.func11, Tryd.ntmps11
  go_wp2
  go_loopg [3] s.size (fun k v wr => ∃ j : Nat, j + k = s.size ∧ v = .int .i64 (j : Int) ∧ WhlRel s.data.toList s.data.toList.length j ∧ wr = w)
  case atStart => exact ⟨0, by omega, rfl, whl_start _ _, rfl⟩
  case round =>
    obtain ⟨j, hj, rfl, HR0, rfl⟩ := hrel
    have HR := Lib.hid HR0
    have HJ := Lib.hid hj
    have hjs : j ≤ s.size := by omega
    clear hj HR0
    by_cases hlt : j < s.size
    · obtain ⟨k, HK⟩ : ∃ k, Hid (k = usign (s.data.toList.drop j)) := ⟨_, Lib.hid rfl⟩
      have hk1 : k ≤ s.size - j := by rw [HK.out]; have := (usign_le (s.data.toList.drop j)).1; have := HL.out; simp at *; omega
      go_wp2_with fail
      refine (rsign_any s j wr hlt hs).mono ?_; rintro e w' ⟨rfl, rfl⟩
      rw [← HK.out]
      by_cases hk0 : k = 0
      · subst hk0
        have HF := Lib.hid (ubad_at HR.out (by have := HL.out; omega) HK.out.symm)
        go_wp2
        go_ret
        exact ⟨ret_int (by rw [HF.out]), rfl⟩
      · have hk0' : ((k : Int) == 0) = false := by simp; omega
        have HN := Lib.hid (whl_next HR.out (by intro e; have := congrArg List.length e; simp at this; have := HL.out; omega) (by rw [← HK.out]; exact hk0) (by rw [← HK.out, HL.out]; omega))
        have hj := HJ.out
        go_wp2
        go_roundg (s.size - (j + k))
        case measure => omega
        case rel => exact ⟨j + k, by omega, by simp, by rw [HK.out]; exact HN.out, rfl⟩
    · have HF : Hid (ubad s.data.toList = -1) := Lib.hid (ubad_none HR.out (by have := HL.out; omega))
      go_wp2
      go_ret
      exact ⟨ret_int (by rw [HF.out]), rfl⟩
set_option maxRecDepth 100000 in
set_option maxHeartbeats 2000000 in
theorem rclip_any (s : ByteArray) (n : Int) (w : World) (hs : s.size ≤ 1000000) (hn1 : -9223372036854775808 ≤ n) (hn2 : n ≤ 9223372036854775807) :
    Calls Tryd.prog 18 #[.string s, .int .i64 n] w fun e w' => e = .returned (.string ⟨(s.data.toList.take (uwhole s.data.toList n)).toArray⟩) ∧ w = w' := by
  have HL := Lib.hid (show s.data.toList.length = s.size by simp)
  go_enter Tryd.func18, Tryd.ntmps18
  go_wp2
  go_loopg [5] s.size (fun k v wr => ∃ j : Nat, j + k = s.size ∧ v = .int .i64 (j : Int) ∧ WhlRel s.data.toList n j ∧ wr = w)
  case atStart => exact ⟨0, by omega, rfl, whl_start _ _, rfl⟩
  case round =>
    obtain ⟨j, hj, rfl, HR0, rfl⟩ := hrel
    have HR := Lib.hid HR0
    have HJ := Lib.hid hj
    have hjs : j ≤ s.size := by omega
    clear hj HR0
    by_cases hlt : j < s.size
    · obtain ⟨k, HK⟩ : ∃ k, Hid (k = usign (s.data.toList.drop j)) := ⟨_, Lib.hid rfl⟩
      have hk1 : k ≤ s.size - j := by rw [HK.out]; have := (usign_le (s.data.toList.drop j)).1; have := HL.out; simp at *; omega
      go_wp2_with fail
      refine (rsign_any s j wr hlt hs).mono ?_; rintro e w' ⟨rfl, rfl⟩
      rw [← HK.out]
      by_cases hk0 : k = 0
      · subst hk0
        have HF := Lib.hid (whl_stop HR.out (.inr (.inl HK.out.symm)))
        go_wp2
        go_ret
        exact ⟨ret_str (by rw [extract_take, HF.out]), rfl⟩
      · have hk0' : ((k : Int) == 0) = false := by simp; omega
        by_cases hkn : n < (j : Int) + (k : Int)
        · have HF := Lib.hid (whl_stop HR.out (.inr (.inr (by rw [← HK.out]; omega))))
          go_wp2
          go_ret
          exact ⟨ret_str (by rw [extract_take, HF.out]), rfl⟩
        · have HN := Lib.hid (whl_next HR.out (by intro e; have := congrArg List.length e; simp at this; have := HL.out; omega) (by rw [← HK.out]; exact hk0) (by rw [← HK.out]; omega))
          have hj := HJ.out
          go_wp2
          go_roundg (s.size - (j + k))
          case measure => omega
          case rel => exact ⟨j + k, by omega, by simp, by rw [HK.out]; exact HN.out, rfl⟩
    · have HF := Lib.hid (whl_stop HR.out (.inl (List.drop_eq_nil_of_le (by have := HL.out; omega))))
      go_wp2
      go_ret
      exact ⟨ret_str (by rw [extract_take, HF.out]), rfl⟩
/-- what Check answers -/
def UChk (l : List UInt8) (w : World) (e : Ending) (w' : World) : Prop :=
  if ubad l < 0 then e = .returned .nilIface ∧ w = w' else ∃ v, e = .returned v ∧ ErrNew w (ubad l) 5 v w'
theorem uchk_ok {l : List UInt8} (h : ubad l < 0) (w : World) : UChk l w (.returned .nilIface) w := by
  unfold UChk; rw [if_pos h]; exact ⟨rfl, rfl⟩
theorem uchk_bad {l : List UInt8} {b : Int} (hb : b = ubad l) (h : ¬ b < 0) {w w' : World} {v : Value} (hE : ErrNew w b 5 v w') : UChk l w (.returned v) w' := by
  subst hb; unfold UChk; rw [if_neg h]; exact ⟨v, rfl, hE⟩
theorem check_any (s : ByteArray) (w : World) (hs : s.size ≤ 4611686018427387904) :
    Calls Tryd.prog 12 #[.string s] w (UChk s.data.toList w) := by
  obtain ⟨b, HB⟩ : ∃ b, Hid (b = ubad s.data.toList) := ⟨_, Lib.hid rfl⟩
  by_cases hb : b < 0
  · have HF := Lib.hid (uchk_ok (by rw [← HB.out]; exact hb) w)
    go_enter Tryd.func12, Tryd.ntmps12
    go_wp2_with fail
    refine (bad_any s w hs).mono ?_; rintro e w' ⟨rfl, rfl⟩
    rw [← HB.out]
    go_wp2
    go_ret
    exact HF.out
  · have HF : Hid (¬ b < 0) := Lib.hid hb
    go_enter Tryd.func12, Tryd.ntmps12
    go_wp2_with fail
    refine (bad_any s w hs).mono ?_; rintro e w' ⟨rfl, rfl⟩
    rw [← HB.out]
    go_wp2_with fail
    refine (at_any _ _ _ w).mono ?_; rintro e w' ⟨rfl, rfl⟩
    go_wp2
    go_ret
    exact uchk_bad HB.out (by have := HF.out; omega) (errNew_at (Below.refl _ _))
set_option maxRecDepth 100000 in
set_option maxHeartbeats 4000000 in
theorem reads_in (s : ByteArray) (n : Int) (w : World) (hs : s.size ≤ 4000) (hn1 : -9223372036854775808 ≤ n) (hn2 : n ≤ 9223372036854775807) (hg : Glob w) :
    Calls Tryd.prog 3 #[.string s, .int .i64 n] w fun e w' => e = .returned (.bool true) ∧ Below w.heap.size w w' := by
  have HG := Lib.hid hg
  have hd3 : decide (4000 < (s.size : Int)) = false := by simp; omega
  obtain ⟨b, HB⟩ : ∃ b, Hid (b = ubad s.data.toList) := ⟨_, Lib.hid rfl⟩
  obtain ⟨T, HT⟩ : ∃ T : ByteArray, Hid (T = ⟨(s.data.toList.take (uwhole s.data.toList n)).toArray⟩) := ⟨_, Lib.hid rfl⟩
  clear hg
  by_cases hb : b < 0
  · have HV : Hid (uvalid s.data.toList = true) := Lib.hid (by unfold uvalid; rw [← HB.out]; simpa using hb)
    have hb1 : decide (b < 0) = true := by simpa using hb
    have hb2 : decide (0 ≤ b) = false := by simpa using hb
    go_enter Tryd.func3, Tryd.ntmps3
    go_wp2_with fail
    refine (first3 w).mono ?_; rintro e w1 ⟨rfl, rfl⟩
    go_wp2_with fail
    refine (rbad_any s w (by omega)).mono ?_; rintro e w1 ⟨rfl, rfl⟩
    rw [← HB.out]
    go_wp2_with fail
    refine (check_any s w (by omega)).mono ?_; intro e w1 hp
    unfold UChk at hp
    rw [← HB.out, if_pos hb] at hp
    obtain ⟨rfl, rfl⟩ := hp
    go_wp2_with fail
    refine (place_nil w).mono ?_; rintro e w2 ⟨rfl, hb2'⟩
    have HW := Lib.hid hb2'
    clear hb2'
    go_wp2_with fail
    refine (first3 w2).mono ?_; rintro e w1 ⟨rfl, rfl⟩
    go_wp2_with fail
    refine (valid_any s w2 (by omega)).mono ?_; rintro e w1 ⟨rfl, rfl⟩
    rw [HV.out]
    go_wp2_with fail
    refine (bad_any s w2 (by omega)).mono ?_; rintro e w1 ⟨rfl, rfl⟩
    rw [← HB.out]
    go_wp2_with fail
    refine (clip_any s n w2 (by omega) hn1 hn2).mono ?_; rintro e w1 ⟨rfl, rfl⟩
    rw [← HT.out]
    go_wp2_with fail
    refine (rclip_any s n w2 (by omega) hn1 hn2).mono ?_; rintro e w1 ⟨rfl, rfl⟩
    rw [← HT.out]
    go_wp2
    go_ret
    exact ⟨rfl, HW.out⟩
  · have HV : Hid (uvalid s.data.toList = false) := Lib.hid (by unfold uvalid; rw [← HB.out]; simpa using hb)
    have hb1 : decide (b < 0) = false := by simpa using hb
    have hb2 : decide (0 ≤ b) = true := by simpa using hb
    go_enter Tryd.func3, Tryd.ntmps3
    go_wp2_with fail
    refine (first3 w).mono ?_; rintro e w1 ⟨rfl, rfl⟩
    go_wp2_with fail
    refine (rbad_any s w (by omega)).mono ?_; rintro e w1 ⟨rfl, rfl⟩
    rw [← HB.out]
    go_wp2_with fail
    refine (check_any s w (by omega)).mono ?_; intro e w1 hp
    unfold UChk at hp
    rw [← HB.out, if_neg (Int.not_lt.2 (by simpa using hb))] at hp
    obtain ⟨v, rfl, hE⟩ := hp
    have HE := Lib.hid hE.isErr
    have HW1 := Lib.hid hE.2
    obtain ⟨T', y, rfl⟩ := isErr_iface hE.isErr (root_code _)
    clear hE
    go_wp2_with fail
    refine (place_any _ _ _ w1 HE.out (root_code _) (HG.out.below HW1.out)).mono ?_; rintro e w2 ⟨rfl, hb2'⟩
    rw [show placeN [(true, b)] = b from rfl, show placeB [(true, b)] = true from rfl]
    have HW2 := Lib.hid (below_trans HW1.out hb2')
    have HE2 := Lib.hid (isErr_below hb2' HE.out)
    clear hb2'
    go_wp2_with fail
    refine (first3 w2).mono ?_; rintro e w3 ⟨rfl, rfl⟩
    go_wp2_with fail
    refine (valid_any s w2 (by omega)).mono ?_; rintro e w3 ⟨rfl, rfl⟩
    rw [HV.out]
    go_wp2_with fail
    refine (bad_any s w2 (by omega)).mono ?_; rintro e w3 ⟨rfl, rfl⟩
    rw [← HB.out]
    go_wp2_with fail
    refine (code_any _ _ _ w2 HE2.out (root_code _) (HG.out.below HW2.out)).mono ?_; rintro e w3 ⟨rfl, hb3⟩
    rw [show codeOf (codeV 5) = 5 from rfl]
    have HW3 := Lib.hid (below_trans HW2.out hb3)
    clear hb3
    go_wp2_with fail
    refine (clip_any s n w3 (by omega) hn1 hn2).mono ?_; rintro e w4 ⟨rfl, rfl⟩
    rw [← HT.out]
    go_wp2_with fail
    refine (rclip_any s n w3 (by omega) hn1 hn2).mono ?_; rintro e w4 ⟨rfl, rfl⟩
    rw [← HT.out]
    go_wp2
    go_ret
    exact ⟨rfl, HW3.out⟩
set_option maxRecDepth 100000 in
theorem reads_long (s : ByteArray) (n : Int) (w : World) (hs : 4000 < s.size) :
    Calls Tryd.prog 3 #[.string s, .int .i64 n] w fun e w' => e = .returned (.bool true) ∧ Below w.heap.size w w' := by
  go_enter Tryd.func3, Tryd.ntmps3
  go_wp2_with fail
  refine (first3 w).mono ?_; rintro e w1 ⟨rfl, rfl⟩
  go_wp2_with fail
  refine (first3 w).mono ?_; rintro e w1 ⟨rfl, rfl⟩
  go_wp2
  go_ret
  exact ⟨rfl, Below.refl _ _⟩
theorem reads_walk (s : ByteArray) (n : Int) (w : World) (hn1 : -9223372036854775808 ≤ n) (hn2 : n ≤ 9223372036854775807) (hg : Glob w) :
    Calls Tryd.prog 3 #[.string s, .int .i64 n] w fun e w' => e = .returned (.bool true) ∧ Below w.heap.size w w' := by
  by_cases hs : s.size ≤ 4000
  · exact reads_in s n w hs hn1 hn2 hg
  · exact reads_long s n w (by omega)
end Go.Proofs.YtbhppchdoalahaaDoor
