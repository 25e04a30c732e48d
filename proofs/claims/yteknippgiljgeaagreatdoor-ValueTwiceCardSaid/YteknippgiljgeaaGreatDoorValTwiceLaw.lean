/-
  hyglaw8.ValueTwice.
-/
import Derived.Test.YteknippgiljgeaaGreatDoorValMar
import Derived.Test.YteknippgiljgeaaGreatDoorValBack
import Derived.Test.YteknippgiljgeaaGreatDoorValTwice
import Derived.Test.YteknippgiljgeaaGreatDoorValSame
import Derived.Test.YteknippgiljgeaaGreatDoorFirst8
import Derived.Test.YteknippgiljgeaaGreatDoorBothLim
import Derived.Test.YteknippgiljgeaaGreatDoorFx
import Derived.Test.YteknippgiljgeaaGreatDoorDoor
namespace Go.Proofs.YteknippgiljgeaaGreatDoor
open Go.RowKit

set_option maxRecDepth 1000000 in
set_option maxHeartbeats 16000000 in
theorem vtwicel_no (s : ByteArray) (d : Int) (w : World) (hs : s.size ≤ 4000) (hd : -9223372036854775808 ≤ d ∧ d ≤ 9223372036854775807) (hg : Glob w) {c : Nat} (hv : vread 1000001 s.data.toList d = .error c) :
 Calls Tryz.prog 7 #[.string s, .int .i64 d] w fun e w' => e = .returned (.bool true) ∧ Below w.heap.size w w' := by
 have HD := Lib.hid hd
 have hsl : s.data.toList.length = s.size := by simp
 have HU := Lib.hid (fun w' => (both_any 1000001 s d w' (by omega) (by omega) hd).1)
 rw [hv] at HU
 have q0 : decide ((4000 : Int) < (s.size : Int)) = false := decide_eq_false (by omega)
 have q1 : IntKind.i64.wrap ((s.size : Int) + 1) = (s.size : Int) + 1 := i64_wrap_id (by omega) (by omega)
 have hb : Below w.heap.size w w := Below.refl _ _
 have H1 := Lib.hid (Fx.nil w)
 have H2 := Lib.hid (H1.out.base (hb))
 clear H1
 have H3 := Lib.hid (H2.out.glob (hg))
 clear H2
 clear hb hg hd hv hsl hs
 go_enter Tryz.func7, Tryz.ntmps7
 go_wp2_with fail
 refine (first8 w (H3.out.is.1)).mono ?_; rintro e w1 ⟨rfl, hb⟩
 have H4 := Lib.hid (H3.out.below hb)
 clear hb H3
 go_wp2_with fail
 refine (HU.out w1).mono ?_; rintro e w2 ⟨hb, hcase⟩
 clear HU
 obtain ⟨v4, q4, rfl, _, hew⟩ := hcase
 obtain ⟨T4, y4, rfl⟩ := hew.iface
 clear hew
 unfold vzero
 have H5 := Lib.hid (H4.out.below hb)
 clear hb H4
 go_wp2_with fail
 obtain ⟨blr2, hbl⟩ : ∃ b, w2.heap.size = b := ⟨_, rfl⟩
 obtain ⟨W3, hW⟩ : ∃ W, w2.alloc (.cells #[.int .i64 0, .string ⟨#[]⟩, .bool false, .int .u64 0, .slice none 0 0, .slice none 0 0, .string ⟨#[]⟩, .string ⟨#[]⟩] 27) = W := ⟨_, rfl⟩
 have hb : Below w2.heap.size w2 W3 := by rw [← hW]; exact below_new _ _
 have hr : W3.heap[blr2]? = some (.cells #[.int .i64 0, .string ⟨#[]⟩, .bool false, .int .u64 0, .slice none 0 0, .slice none 0 0, .string ⟨#[]⟩, .string ⟨#[]⟩] 27 (0, 0)) := by rw [← hW, ← hbl]; exact new_row _ _ _
 rw [hW, hbl]
 clear hW hbl
 have H6 := Lib.hid (H5.out.below hb)
 clear hb H5
 have H7 := Lib.hid (H6.out.row (hr))
 clear H6
 clear hr
 refine (first8 W3 (H7.out.is.2.1)).mono ?_; rintro e w4 ⟨rfl, hb⟩
 have H8 := Lib.hid (H7.out.below hb)
 clear hb H7
 obtain ⟨xa0, xa1, xa2, xa3, xa4, xa5, xa6, xa7⟩ := row8 (H8.out.is.1)
 go_wp2_with fail
 refine (val_same (.mk 0 [] false 0 [] [] [] []) (.mk 0 [] false 0 [] [] [] []) [.int .i64 0, .string ⟨#[]⟩, .bool false, .int .u64 0, .slice none 0 0, .slice none 0 0, .string ⟨#[]⟩, .string ⟨#[]⟩] [.int .i64 0, .string ⟨#[]⟩, .bool false, .int .u64 0, .slice none 0 0, .slice none 0 0, .string ⟨#[]⟩, .string ⟨#[]⟩] (fun _ => True) (fun _ => True) w4 vzero_lim (vrel_plain _ _ _ _ _ _) (vrel_plain _ _ _ _ _ _)).mono ?_; rintro e w5 ⟨rfl, hb⟩
 rw [alike_yes rfl]
 clear xa0 xa1 xa2 xa3 xa4 xa5 xa6 xa7
 have H9 := Lib.hid (H8.out.below hb)
 clear hb H8
 go_wp2_with fail
 go_ret
 exact ⟨rfl, H9.out.is.2.2.1⟩
set_option maxRecDepth 1000000 in
set_option maxHeartbeats 16000000 in
theorem vtwicel_ok (s : ByteArray) (d : Int) (w : World) (hs : s.size ≤ 4000) (hd : -9223372036854775808 ≤ d ∧ d ≤ 9223372036854775807) (hg : Glob w) {x : Val} (hv : vread 1000001 s.data.toList d = .ok x) :
 Calls Tryz.prog 7 #[.string s, .int .i64 d] w fun e w' => e = .returned (.bool true) ∧ Below w.heap.size w w' := by
 have HD := Lib.hid hd
 have hsl : s.data.toList.length = s.size := by simp
 have HU := Lib.hid (fun w' => (both_any 1000001 s d w' (by omega) (by omega) hd).1)
 rw [hv] at HU
 have q0 : decide ((4000 : Int) < (s.size : Int)) = false := decide_eq_false (by omega)
 have q1 : IntKind.i64.wrap ((s.size : Int) + 1) = (s.size : Int) + 1 := i64_wrap_id (by omega) (by omega)
 have hb : Below w.heap.size w w := Below.refl _ _
 have HLIM := Lib.hid ((both_lim 1000001).1 _ _ _ (by omega) hv)
 obtain ⟨hd0, hmay, hfit, hlen, hvw⟩ := (vread_twice 1000001).1 _ _ _ (by omega) hv
 have HFIT := Lib.hid hfit
 have HMAY : Hid (vmayD x d = true) := Lib.hid (by rw [vmayD, hmay, decide_eq_true hd0]; rfl)
 obtain ⟨SS, hSS⟩ : ∃ S : ByteArray, (⟨(vout x).toArray⟩ : ByteArray) = S := ⟨_, rfl⟩
 have HSS : Hid (SS.data.toList = vout x) := Lib.hid (by rw [← hSS])
 have hsz : SS.size = (vout x).length := by rw [← hSS]; simp [ByteArray.size]
 have HSB : Hid (SS.size ≤ 4000) := Lib.hid (by omega)
 have HVW : Hid (vw x ≤ 400000) := Lib.hid (by omega)
 have q2 : decide ((SS.size : Int) ≤ (s.size : Int) + 1) = true := decide_eq_true (by omega)
 have HU2 := Lib.hid (fun w' => (both_any 1000001 SS d w' (by omega) (by omega) hd).1)
 rw [HSS.out, vback x d 1000001 hfit (by omega) hmay hd0 (by omega)] at HU2
 have HS := Lib.hid hSS
 clear hd0 hmay hfit hlen hvw hSS hsz
 have H1 := Lib.hid (Fx.nil w)
 have H2 := Lib.hid (H1.out.base (hb))
 clear H1
 have H3 := Lib.hid (H2.out.glob (hg))
 clear H2
 clear hb hg hd hv hsl hs
 go_enter Tryz.func7, Tryz.ntmps7
 go_wp2_with fail
 refine (first8 w (H3.out.is.1)).mono ?_; rintro e w1 ⟨rfl, hb⟩
 have H4 := Lib.hid (H3.out.below hb)
 clear hb H3
 go_wp2_with fail
 refine (HU.out w1).mono ?_; rintro e w2 ⟨hb, hcase⟩
 clear HU
 obtain ⟨cs, rfl, hrel⟩ := hcase
 obtain ⟨k1, S1, b1, n1, lo1, ln1, lc1, mo1, mn1, mc1, I1, U1, rfl⟩ := hrel.form
 have H5 := Lib.hid (H4.out.below hb)
 clear hb H4
 have H6 := Lib.hid (H5.out.vrel (hrel))
 clear H5
 clear hrel
 go_upto_region 8 with fail
 obtain ⟨blr1, hbl⟩ : ∃ b, w2.heap.size = b := ⟨_, rfl⟩
 obtain ⟨W3, hW⟩ : ∃ W, w2.alloc (.cells #[.int .i64 k1, .string S1, .bool b1, .int .u64 n1, .slice lo1 ln1 lc1, .slice mo1 mn1 mc1, .string I1, .string U1] 27) = W := ⟨_, rfl⟩
 have hb : Below w2.heap.size w2 W3 := by rw [← hW]; exact below_new _ _
 have hr : W3.heap[blr1]? = some (.cells #[.int .i64 k1, .string S1, .bool b1, .int .u64 n1, .slice lo1 ln1 lc1, .slice mo1 mn1 mc1, .string I1, .string U1] 27 (0, 0)) := by rw [← hW, ← hbl]; exact new_row _ _ _
 rw [hW, hbl]
 clear hW hbl
 have H7 := Lib.hid (H6.out.below hb)
 clear hb H6
 have H8 := Lib.hid (H7.out.row (hr))
 clear H7
 clear hr
 obtain ⟨xa0, xa1, xa2, xa3, xa4, xa5, xa6, xa7⟩ := row8 (H8.out.is.1)
 go_wp2_with fail
 refine (vmarshal_any x [.int .i64 k1, .string S1, .bool b1, .int .u64 n1, .slice lo1 ln1 lc1, .slice mo1 mn1 mc1, .string I1, .string U1] _ d W3 HFIT.out (H8.out.is.2.1) HD.out HVW.out).mono ?_; rintro e w4 ⟨hb, hcase⟩
 rw [HMAY.out, if_pos rfl] at hcase
 subst hcase
 rw [HS.out]
 clear xa0 xa1 xa2 xa3 xa4 xa5 xa6 xa7
 have H9 := Lib.hid (H8.out.below hb)
 clear hb H8
 go_wp2_with fail
 refine (HU2.out w4).mono ?_; rintro e w5 ⟨hb, hcase⟩
 clear HU2
 obtain ⟨cs, rfl, hrel⟩ := hcase
 obtain ⟨k2, S2, b2, n2, lo2, ln2, lc2, mo2, mn2, mc2, I2, U2, rfl⟩ := hrel.form
 have H10 := Lib.hid (H9.out.below hb)
 clear hb H9
 have H11 := Lib.hid (H10.out.vrel (hrel))
 clear H10
 clear hrel
 go_upto_region 10 with fail
 obtain ⟨blr2, hbl⟩ : ∃ b, w5.heap.size = b := ⟨_, rfl⟩
 obtain ⟨W6, hW⟩ : ∃ W, w5.alloc (.cells #[.int .i64 k2, .string S2, .bool b2, .int .u64 n2, .slice lo2 ln2 lc2, .slice mo2 mn2 mc2, .string I2, .string U2] 27) = W := ⟨_, rfl⟩
 have hb : Below w5.heap.size w5 W6 := by rw [← hW]; exact below_new _ _
 have hr : W6.heap[blr2]? = some (.cells #[.int .i64 k2, .string S2, .bool b2, .int .u64 n2, .slice lo2 ln2 lc2, .slice mo2 mn2 mc2, .string I2, .string U2] 27 (0, 0)) := by rw [← hW, ← hbl]; exact new_row _ _ _
 rw [hW, hbl]
 clear hW hbl
 have H12 := Lib.hid (H11.out.below hb)
 clear hb H11
 have H13 := Lib.hid (H12.out.row (hr))
 clear H12
 clear hr
 obtain ⟨xb0, xb1, xb2, xb3, xb4, xb5, xb6, xb7⟩ := row8 (H13.out.is.1)
 go_wp2_with fail
 refine (vmarshal_any x [.int .i64 k2, .string S2, .bool b2, .int .u64 n2, .slice lo2 ln2 lc2, .slice mo2 mn2 mc2, .string I2, .string U2] _ d W6 HFIT.out (H13.out.is.2.1) HD.out HVW.out).mono ?_; rintro e w7 ⟨hb, hcase⟩
 rw [HMAY.out, if_pos rfl] at hcase
 subst hcase
 rw [HS.out]
 clear xb0 xb1 xb2 xb3 xb4 xb5 xb6 xb7
 have H14 := Lib.hid (H13.out.below hb)
 clear hb H13
 go_wp2_with fail
 refine (first8 w7 (H14.out.is.2.2.2.2.1)).mono ?_; rintro e w8 ⟨rfl, hb⟩
 have H15 := Lib.hid (H14.out.below hb)
 clear hb H14
 obtain ⟨xa0, xa1, xa2, xa3, xa4, xa5, xa6, xa7⟩ := row8 (H15.out.is.2.2.1)
 go_wp2_with fail
 refine (vmay_any x [.int .i64 k1, .string S1, .bool b1, .int .u64 n1, .slice lo1 ln1 lc1, .slice mo1 mn1 mc1, .string I1, .string U1] _ d w8 HFIT.out (H15.out.is.2.2.2.1) HD.out HVW.out).mono ?_; rintro e w9 ⟨rfl, hb⟩
 rw [HMAY.out]
 clear xa0 xa1 xa2 xa3 xa4 xa5 xa6 xa7
 have H16 := Lib.hid (H15.out.below hb)
 clear hb H15
 obtain ⟨xa0, xa1, xa2, xa3, xa4, xa5, xa6, xa7⟩ := row8 (H16.out.is.2.2.1)
 obtain ⟨xb0, xb1, xb2, xb3, xb4, xb5, xb6, xb7⟩ := row8 (H16.out.is.1)
 go_wp2_with fail
 refine (val_same x x _ _ _ _ w9 HLIM.out (H16.out.is.2.2.2.1) (H16.out.is.2.1)).mono ?_; rintro e w10 ⟨rfl, hb⟩
 rw [alike_yes rfl]
 clear xa0 xa1 xa2 xa3 xa4 xa5 xa6 xa7 xb0 xb1 xb2 xb3 xb4 xb5 xb6 xb7
 have H17 := Lib.hid (H16.out.below hb)
 clear hb H16
 go_wp2_with fail
 go_ret
 exact ⟨rfl, H17.out.is.2.2.2.2.2.1⟩
set_option maxRecDepth 1000000 in
set_option maxHeartbeats 16000000 in
theorem vtwicel_any (s : ByteArray) (d : Int) (w : World) (hd : -9223372036854775808 ≤ d ∧ d ≤ 9223372036854775807) (hg : Glob w) :
 Calls Tryz.prog 7 #[.string s, .int .i64 d] w fun e w' => e = .returned (.bool true) ∧ Below w.heap.size w w' := by
 by_cases hs : s.size ≤ 4000
 ·cases hv : vread 1000001 s.data.toList d with
  | error c => exact vtwicel_no s d w hs hd hg hv
  | ok x => exact vtwicel_ok s d w hs hd hg hv
 ·have q0 : decide ((4000 : Int) < (s.size : Int)) = true := decide_eq_true (by omega)
  have HG := Lib.hid hg
  clear hg hs hd
  go_enter Tryz.func7, Tryz.ntmps7
  go_wp2_with fail
  refine (first8 w HG.out).mono ?_; rintro e w1 ⟨rfl, hb⟩
  have HB := Lib.hid hb
  clear hb
  go_wp2_with fail
  refine (first8 w1 (HG.out.below HB.out)).mono ?_; rintro e w2 ⟨rfl, hb⟩
  have HB2 := Lib.hid (below_step HB.out hb)
  clear hb
  go_wp2_with fail
  go_ret
  exact ⟨rfl, HB2.out⟩
end Go.Proofs.YteknippgiljgeaaGreatDoor
