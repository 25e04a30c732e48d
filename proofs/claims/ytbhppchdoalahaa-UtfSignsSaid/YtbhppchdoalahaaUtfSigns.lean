/-
  hyglaw3.UtfSigns: for every number, every text and every cut the law returns true.
-/
import Derived.Test.YtbhppchdoalahaaUtfMath2
import Derived.Test.YtbhppchdoalahaaUtfClips
import Derived.Test.YtbhppchdoalahaaUtfSurr
import Derived.Test.YtbhppchdoalahaaUtfOut
namespace Go.Proofs.Ytbhppchdoalahaa
open Go.RowKit

set_option maxRecDepth 1000000 in
set_option maxHeartbeats 4000000 in
theorem signs_good (c : Nat) (s : ByteArray) (cut : Int) (w : World) (hs : s.size ≤ 4000) (hc : ugoodc c) (hcut0 : 0 ≤ cut) (hcut1 : cut ≤ 9223372036854775807) :
    Calls Try.prog 3 #[.int .i64 c, .string s, .int .i64 cut] w fun e w' => e = .returned (.bool true) ∧ Below w.heap.size w w' := by
  have HC := Lib.hid hc
  have HENC := Lib.hid (encode_uenc hc)
  obtain ⟨O, HO⟩ : ∃ O : ByteArray, Hid (O = ByteArray.mk (uenc c).toArray) := ⟨_, Lib.hid rfl⟩
  have HOL : Hid (O.data.toList = uenc c) := Lib.hid (by rw [HO.out])
  have hos : O.size = (uenc c).length := by rw [HO.out]; simp [ByteArray.size]
  have hol := uenc_length c
  have HOS := Lib.hid hos
  have ho1 : 1 ≤ O.size := by omega
  have ho4 : O.size ≤ 4 := by omega
  have HE : Utf8.encode (c : Int) = O := by rw [HENC.out, HO.out]
  have HV : Hid (uvalid O.data.toList = true) := Lib.hid (by rw [HOL.out]; exact enc_valid hc)
  obtain ⟨B, HB⟩ : ∃ B : Bool, Hid (B = uvalid s.data.toList) := ⟨_, Lib.hid rfl⟩
  have HR : Hid (uvalid (s ++ O).data.toList = B) := Lib.hid (by rw [ByteArray.data_append, Array.toList_append, HOL.out, enc_right hc _ _ (Nat.le_refl _), HB.out])
  have HLf : Hid (uvalid (O ++ s).data.toList = B) := Lib.hid (by rw [ByteArray.data_append, Array.toList_append, HOL.out, enc_left hc, HB.out])
  clear hos hol
  have hc1 := hc.1
  have hd1 : decide (4000 < (s.size : Int)) = false := by simp; omega
  have hd2 : decide ((c : Int) < 0) = false := by simp
  have hd3 : decide (1114111 < (c : Int)) = false := by simp; omega
  have hd4 : decide (cut < 0) = false := by simp; omega
  rcases (by have := hc.2; omega : c < 55296 ∨ 57343 < c) with hsur | hsur
  · clear hc
    go_enter Try.func3, Try.ntmps3
    go_wp2_with fail
    refine (first3 w).mono ?_; rintro e w1 ⟨rfl, rfl⟩
    go_wp2_with fail
    clear HE
    refine (valid_any O w (by omega)).mono ?_; rintro e w1 ⟨rfl, rfl⟩
    rw [HV.out]
    go_wp2_with fail
    refine (valid_any s w (by omega)).mono ?_; rintro e w1 ⟨rfl, rfl⟩
    rw [← HB.out]
    go_wp2_with fail
    refine (valid_any _ w (by simp; omega)).mono ?_; rintro e w1 ⟨rfl, rfl⟩
    rw [HR.out]
    go_wp2_with fail
    refine (valid_any s w (by omega)).mono ?_; rintro e w1 ⟨rfl, rfl⟩
    rw [← HB.out]
    go_wp2_with fail
    refine (valid_any _ w (by simp; omega)).mono ?_; rintro e w1 ⟨rfl, rfl⟩
    rw [HLf.out]
    go_wp2_with fail
    obtain ⟨q, hq, hqlt⟩ : ∃ q : Nat, cut % (O.size : Int) = (q : Int) ∧ q < O.size := ⟨(cut % (O.size : Int)).toNat, by rw [Int.toNat_of_nonneg (Int.emod_nonneg _ (by omega))], by have := Int.emod_lt_of_pos cut (b := (O.size : Int)) (by omega); have := Int.emod_nonneg cut (b := (O.size : Int)) (by omega); omega⟩
    rw [hq]
    have HCL : Hid (ByteArray.mk (O.data.toList.take (uwhole O.data.toList (q : Int))).toArray = ⟨#[]⟩) := Lib.hid (by rw [HOL.out, enc_clip HC.out (by have := HOS.out; omega)])
    have HXL : Hid ((O.extract 0 q).data.toList = (uenc c).take q) := Lib.hid (by rw [extract_take, HOL.out])
    have HCUT : 0 < q → Hid (uvalid ((uenc c).take q) = false ∧ ubad ((uenc c).take q) = 0) := fun h => Lib.hid (enc_cut HC.out h (by have := HOS.out; omega))
    clear hq hd1 hd2 hd3 hd4 hc1 hsur hcut0 hcut1
    refine (first3 w).mono ?_; rintro e w1 ⟨rfl, rfl⟩
    by_cases hq0 : q = 0
    · subst hq0
      go_wp2_with fail
      refine (clip_any O ((0 : Nat) : Int) w (by omega) (by omega) (by omega)).mono ?_; rintro e w1 ⟨rfl, rfl⟩
      rw [HCL.out]
      go_wp2
      go_ret
      exact ⟨rfl, Below.refl _ _⟩
    · have hq1 : ((q : Int) == 0) = false := by simp; omega
      have HC2 := HCUT (by omega)
      clear hq0 HCUT
      go_wp2_with fail
      refine (valid_any _ w (by simp; omega)).mono ?_; rintro e w1 ⟨rfl, rfl⟩
      rw [HXL.out, HC2.out.1]
      go_wp2_with fail
      refine (bad_any _ w (by simp; omega)).mono ?_; rintro e w1 ⟨rfl, rfl⟩
      rw [HXL.out, HC2.out.2]
      go_wp2_with fail
      refine (clip_any O (q : Int) w (by omega) (by omega) (by omega)).mono ?_; rintro e w1 ⟨rfl, rfl⟩
      rw [HCL.out]
      go_wp2
      go_ret
      exact ⟨rfl, Below.refl _ _⟩
  · clear hc
    go_enter Try.func3, Try.ntmps3
    go_wp2_with fail
    refine (first3 w).mono ?_; rintro e w1 ⟨rfl, rfl⟩
    go_wp2_with fail
    clear HE
    refine (valid_any O w (by omega)).mono ?_; rintro e w1 ⟨rfl, rfl⟩
    rw [HV.out]
    go_wp2_with fail
    refine (valid_any s w (by omega)).mono ?_; rintro e w1 ⟨rfl, rfl⟩
    rw [← HB.out]
    go_wp2_with fail
    refine (valid_any _ w (by simp; omega)).mono ?_; rintro e w1 ⟨rfl, rfl⟩
    rw [HR.out]
    go_wp2_with fail
    refine (valid_any s w (by omega)).mono ?_; rintro e w1 ⟨rfl, rfl⟩
    rw [← HB.out]
    go_wp2_with fail
    refine (valid_any _ w (by simp; omega)).mono ?_; rintro e w1 ⟨rfl, rfl⟩
    rw [HLf.out]
    go_wp2_with fail
    obtain ⟨q, hq, hqlt⟩ : ∃ q : Nat, cut % (O.size : Int) = (q : Int) ∧ q < O.size := ⟨(cut % (O.size : Int)).toNat, by rw [Int.toNat_of_nonneg (Int.emod_nonneg _ (by omega))], by have := Int.emod_lt_of_pos cut (b := (O.size : Int)) (by omega); have := Int.emod_nonneg cut (b := (O.size : Int)) (by omega); omega⟩
    rw [hq]
    have HCL : Hid (ByteArray.mk (O.data.toList.take (uwhole O.data.toList (q : Int))).toArray = ⟨#[]⟩) := Lib.hid (by rw [HOL.out, enc_clip HC.out (by have := HOS.out; omega)])
    have HXL : Hid ((O.extract 0 q).data.toList = (uenc c).take q) := Lib.hid (by rw [extract_take, HOL.out])
    have HCUT : 0 < q → Hid (uvalid ((uenc c).take q) = false ∧ ubad ((uenc c).take q) = 0) := fun h => Lib.hid (enc_cut HC.out h (by have := HOS.out; omega))
    clear hq hd1 hd2 hd3 hd4 hc1 hsur hcut0 hcut1
    refine (first3 w).mono ?_; rintro e w1 ⟨rfl, rfl⟩
    by_cases hq0 : q = 0
    · subst hq0
      go_wp2_with fail
      refine (clip_any O ((0 : Nat) : Int) w (by omega) (by omega) (by omega)).mono ?_; rintro e w1 ⟨rfl, rfl⟩
      rw [HCL.out]
      go_wp2
      go_ret
      exact ⟨rfl, Below.refl _ _⟩
    · have hq1 : ((q : Int) == 0) = false := by simp; omega
      have HC2 := HCUT (by omega)
      clear hq0 HCUT
      go_wp2_with fail
      refine (valid_any _ w (by simp; omega)).mono ?_; rintro e w1 ⟨rfl, rfl⟩
      rw [HXL.out, HC2.out.1]
      go_wp2_with fail
      refine (bad_any _ w (by simp; omega)).mono ?_; rintro e w1 ⟨rfl, rfl⟩
      rw [HXL.out, HC2.out.2]
      go_wp2_with fail
      refine (clip_any O (q : Int) w (by omega) (by omega) (by omega)).mono ?_; rintro e w1 ⟨rfl, rfl⟩
      rw [HCL.out]
      go_wp2
      go_ret
      exact ⟨rfl, Below.refl _ _⟩
theorem signs_walk (c : Int) (s : ByteArray) (cut : Int) (w : World) (hcut1 : cut ≤ 9223372036854775807) :
    Calls Try.prog 3 #[.int .i64 c, .string s, .int .i64 cut] w fun e w' => e = .returned (.bool true) ∧ Below w.heap.size w w' := by
  by_cases h : 4000 < s.size ∨ c < 0 ∨ 1114111 < c ∨ cut < 0
  · exact signs_out c s cut w h
  · obtain ⟨n, rfl⟩ := Int.eq_ofNat_of_zero_le (show 0 ≤ c by omega)
    by_cases h2 : 55296 ≤ n ∧ n ≤ 57343
    · exact signs_surr n s cut w (by omega) h2.1 h2.2 (by omega)
    · exact signs_good n s cut w (by omega) (by unfold ugoodc; omega) (by omega) hcut1
end Go.Proofs.Ytbhppchdoalahaa
