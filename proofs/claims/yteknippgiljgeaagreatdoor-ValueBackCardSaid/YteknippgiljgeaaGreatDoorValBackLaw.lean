/-
  hyglaw8.ValueBack.
-/
import Derived.Test.YteknippgiljgeaaGreatDoorValMar
import Derived.Test.YteknippgiljgeaaGreatDoorValBack
import Derived.Test.YteknippgiljgeaaGreatDoorValSame
import Derived.Test.YteknippgiljgeaaGreatDoorFirst8
import Derived.Test.YteknippgiljgeaaGreatDoorValRow
import Derived.Test.YteknippgiljgeaaGreatDoorFx
import Derived.Test.YteknippgiljgeaaGreatDoorDoor
namespace Go.Proofs.YteknippgiljgeaaGreatDoor
open Go.RowKit

set_option maxRecDepth 1000000 in
set_option maxHeartbeats 16000000 in
theorem vbackl_TTT (x : Val) (y : KV) (ca ck : List Value) (d less : Int) (w : World) (hg : Glob w) (hxl : vlim x) (hxf : vfit x) (hx : VRel w (fun k => k < w.heap.size) x ca) (hyl : klim y) (hyf : kfit y) (hy : KRel w (fun k => k < w.heap.size) y ck) (hd : -9223372036854775808 ≤ d ∧ d ≤ 9223372036854775807) (hle : -9223372036854775808 ≤ less ∧ less ≤ 9223372036854775807) (hmay : vmayD x d = true) (hles : vmayD x (d - less) = true) (hcan : kmayD y d = true) :
 Calls Tryz.prog 6 #[.agg ca.toArray, .agg ck.toArray, .int .i64 d, .int .i64 less] w fun e w' => e = .returned (.bool true) ∧ Below w.heap.size w w' := by
 have HG := Lib.hid hg
 have HX := Lib.hid hx
 have HY := Lib.hid hy
 have HXL := Lib.hid hxl
 have HXF := Lib.hid hxf
 have HYL := Lib.hid hyl
 have HYF := Lib.hid hyf
 have HD := Lib.hid hd
 have HLE := Lib.hid hle
 have HMAY := Lib.hid hmay
 have HCAN := Lib.hid hcan
 have HLES := Lib.hid hles
 obtain ⟨k1, S1, b1, n1, lo1, ln1, lc1, mo1, mn1, mc1, I1, U1, rfl⟩ := hx.form
 obtain ⟨K2, h2, k2, S2, b2, n2, lo2, ln2, lc2, mo2, mn2, mc2, I2, U2, Y2, rfl⟩ := hy.form
 clear hg hxl hxf hx hyl hyf hy hd hle hmay hcan hles
 obtain ⟨W, hW⟩ : ∃ W, (w.alloc (.cells #[.int .i64 k1, .string S1, .bool b1, .int .u64 n1, .slice lo1 ln1 lc1, .slice mo1 mn1 mc1, .string I1, .string U1] 27)).alloc (.cells #[.string K2, .bool h2, .int .i64 k2, .string S2, .bool b2, .int .u64 n2, .slice lo2 ln2 lc2, .slice mo2 mn2 mc2, .string I2, .string U2, .string Y2] 35) = W := ⟨_, rfl⟩
 have hbw : Below w.heap.size w W := by rw [← hW]; exact below_step (below_new _ _) (below_new _ _)
 have hra : W.heap[w.heap.size]? = some (.cells #[.int .i64 k1, .string S1, .bool b1, .int .u64 n1, .slice lo1 ln1 lc1, .slice mo1 mn1 mc1, .string I1, .string U1] 27 (0, 0)) := by rw [← hW]; exact (Below.heap_alloc _ _ _ (by simp)).trans (heap_alloc_new w _)
 have hrk : W.heap[w.heap.size + 1]? = some (.cells #[.string K2, .bool h2, .int .i64 k2, .string S2, .bool b2, .int .u64 n2, .slice lo2 ln2 lc2, .slice mo2 mn2 mc2, .string I2, .string U2, .string Y2] 35 (0, 0)) := by rw [← hW]; have := heap_alloc_new (w.alloc (.cells #[.int .i64 k1, .string S1, .bool b1, .int .u64 n1, .slice lo1 ln1 lc1, .slice mo1 mn1 mc1, .string I1, .string U1] 27)) (.cells #[.string K2, .bool h2, .int .i64 k2, .string S2, .bool b2, .int .u64 n2, .slice lo2 ln2 lc2, .slice mo2 mn2 mc2, .string I2, .string U2, .string Y2] 35); simpa using this
 have H1 := Lib.hid (Fx.nil W)
 have H2 := Lib.hid (H1.out.base (hbw))
 clear H1
 have H3 := Lib.hid (H2.out.glob (HG.out.below hbw))
 clear H2
 have H4 := Lib.hid (H3.out.row (hra))
 clear H3
 have H5 := Lib.hid (H4.out.row (hrk))
 clear H4
 have H6 := Lib.hid (H5.out.vrel (HX.out.below hbw))
 clear H5
 have H7 := Lib.hid (H6.out.krel (HY.out.below hbw))
 clear H6
 have HW := Lib.hid hW
 clear hW hbw hra hrk HX HY
 go_enter Tryz.func6, Tryz.ntmps6
 go_wp2_with fail
 rw [HW.out]
 refine (first8 W (H7.out.is.2.2.2.2.1)).mono ?_; rintro e w1 ⟨rfl, hb⟩
 have H8 := Lib.hid (H7.out.below hb)
 clear hb H7
 obtain ⟨xa0, xa1, xa2, xa3, xa4, xa5, xa6, xa7⟩ := row8 (H8.out.is.2.2.2.1)
 go_wp2_with fail
 refine (fewv_any x [.int .i64 k1, .string S1, .bool b1, .int .u64 n1, .slice lo1 ln1 lc1, .slice mo1 mn1 mc1, .string I1, .string U1] _ w1 HXL.out HXF.out (H8.out.is.2.1)).mono ?_; intro e w2 hpost
 obtain ⟨hb, bb, rfl, hvw⟩ := hpost
 have HVW := Lib.hid hvw
 clear hvw
 clear xa0 xa1 xa2 xa3 xa4 xa5 xa6 xa7
 have H9 := Lib.hid (H8.out.below hb)
 clear hb H8
 cases bb with
 | false =>
  go_wp2_with fail
  refine (first8 w2 (H9.out.is.2.2.2.2.1)).mono ?_; rintro e w9 ⟨rfl, hb⟩
  have H10 := Lib.hid (H9.out.below hb)
  clear hb H9
  go_wp2_with fail
  go_ret
  exact ⟨rfl, H10.out.is.2.2.2.2.2.1⟩
 | true =>
 obtain ⟨xk0, xk1, xk2, xk3, xk4, xk5, xk6, xk7, xk8, xk9, xk10⟩ := row11 (H9.out.is.2.2.1)
 obtain ⟨blfew, hbl⟩ : ∃ b, w2.heap.size = b := ⟨_, rfl⟩
 obtain ⟨W3, hW⟩ : ∃ W, w2.alloc (.cells #[.string K2, .bool h2, .int .i64 k2, .string S2, .bool b2, .int .u64 n2, .slice lo2 ln2 lc2, .slice mo2 mn2 mc2, .string I2, .string U2, .string Y2] 35) = W := ⟨_, rfl⟩
 have hb : Below w2.heap.size w2 W3 := by rw [← hW]; exact below_new _ _
 have hr : W3.heap[blfew]? = some (.cells #[.string K2, .bool h2, .int .i64 k2, .string S2, .bool b2, .int .u64 n2, .slice lo2 ln2 lc2, .slice mo2 mn2 mc2, .string I2, .string U2, .string Y2] 35 (0, 0)) := by rw [← hW, ← hbl]; exact new_row _ _ _
 have HWN := Lib.hid hW
 have HBN := Lib.hid hbl
 clear hW hbl
 have H10 := Lib.hid (H9.out.below hb)
 clear hb H9
 have H11 := Lib.hid (H10.out.row (hr))
 clear H10
 clear hr
 have HL3 := Lib.hid (krels_1 (H11.out.is.2.1) (H11.out.is.1))
 go_wp2_with fail
 rw [HWN.out, HBN.out]
 clear HWN HBN
 refine (fewk_any [y] (some ⟨blfew, 0, none⟩) 1 _ W3 (by simp) (by rw [kslim, kslim]; exact ⟨HYL.out, trivial⟩) (by rw [ksfit, ksfit]; exact ⟨HYF.out, trivial⟩) HL3.out).mono ?_; intro e w4 hpost
 obtain ⟨hb, bb, rfl, hkw⟩ := hpost
 have HKW := Lib.hid hkw
 clear hkw HL3
 clear xk0 xk1 xk2 xk3 xk4 xk5 xk6 xk7 xk8 xk9 xk10
 have H12 := Lib.hid (H11.out.below hb)
 clear hb H11
 cases bb with
 | false =>
  go_wp2_with fail
  refine (first8 w4 (H12.out.is.2.2.2.2.2.1)).mono ?_; rintro e w9 ⟨rfl, hb⟩
  have H13 := Lib.hid (H12.out.below hb)
  clear hb H12
  go_wp2_with fail
  go_ret
  exact ⟨rfl, H13.out.is.2.2.2.2.2.2.1⟩
 | true =>
 have HVL : Hid (vw x ≤ 8000) := Lib.hid (by first | exact HVW.out rfl | exact HVW.out trivial)
 have HKL : Hid (kw y ≤ 8000) := Lib.hid (by
  have h : ksw [y] ≤ 8000 := by first | exact HKW.out rfl | exact HKW.out trivial
  rwa [ksw_one] at h)
 clear HVW HKW
 by_cases hl0 : less < 0
 ·have q1 : decide (less < 0) = true := decide_eq_true hl0
  clear hl0
  go_wp2_with fail
  refine (first8 w4 (H12.out.is.2.2.2.2.2.1)).mono ?_; rintro e w9 ⟨rfl, hb⟩
  have H13 := Lib.hid (H12.out.below hb)
  clear hb H12
  go_wp2_with fail
  go_ret
  exact ⟨rfl, H13.out.is.2.2.2.2.2.2.1⟩
 have q1 : decide (less < 0) = false := decide_eq_false hl0
 by_cases hl1 : d < less
 ·have q2 : decide (d < less) = true := decide_eq_true hl1
  clear hl0 hl1
  go_wp2_with fail
  refine (first8 w4 (H12.out.is.2.2.2.2.2.1)).mono ?_; rintro e w9 ⟨rfl, hb⟩
  have H13 := Lib.hid (H12.out.below hb)
  clear hb H12
  go_wp2_with fail
  go_ret
  exact ⟨rfl, H13.out.is.2.2.2.2.2.2.1⟩
 have q2 : decide (d < less) = false := decide_eq_false hl1
 have HR0 : Hid (0 ≤ less ∧ less ≤ d) := Lib.hid (by omega)
 clear hl0 hl1
 obtain ⟨xa0, xa1, xa2, xa3, xa4, xa5, xa6, xa7⟩ := row8 (H12.out.is.2.2.2.2.1)
 go_wp2_with fail
 refine (vmarshal_any x [.int .i64 k1, .string S1, .bool b1, .int .u64 n1, .slice lo1 ln1 lc1, .slice mo1 mn1 mc1, .string I1, .string U1] _ d w4 HXF.out (H12.out.is.2.2.1) HD.out (by have := HVL.out; omega)).mono ?_; rintro e w5 ⟨hb, hcase⟩
 rw [HMAY.out] at hcase
 clear xa0 xa1 xa2 xa3 xa4 xa5 xa6 xa7
 have H13 := Lib.hid (H12.out.below hb)
 clear hb H12
 rw [if_pos rfl] at hcase
 subst hcase
 obtain ⟨SS, hSS⟩ : ∃ S : ByteArray, (⟨(vout x).toArray⟩ : ByteArray) = S := ⟨_, rfl⟩
 have HSS : Hid (SS.data.toList = vout x) := Lib.hid (by rw [← hSS])
 have HSZ : Hid (SS.size = (vout x).length) := Lib.hid (by rw [← hSS]; simp [ByteArray.size])
 have HSB : Hid (SS.size ≤ 100000) := Lib.hid (by rw [HSZ.out]; have := vout_le x; have := vw_vb x; have := HVL.out; omega)
 have HVM : Hid (vmay x d = true) := Lib.hid (by have h := HMAY.out; rw [vmayD] at h; simp only [Bool.and_eq_true] at h; exact h.2)
 have HU := Lib.hid (fun w' => (both_any 1000001 SS d w' (by have := HSB.out; omega) (by have := HSB.out; omega) HD.out).1)
 rw [HSS.out, vback x d 1000001 HXF.out (by have := HVL.out; omega) HVM.out (by have := HR0.out; omega) (by rw [← HSZ.out]; have := HSB.out; omega)] at HU
 rw [hSS]
 clear hSS
 go_wp2_with fail
 refine (HU.out w5).mono ?_; rintro e w6 ⟨hb, hcase⟩
 clear HU
 obtain ⟨cs, rfl, hrel⟩ := hcase
 obtain ⟨k3, S3, b3, n3, lo3, ln3, lc3, mo3, mn3, mc3, I3, U3, rfl⟩ := hrel.form
 have H14 := Lib.hid (H13.out.below hb)
 clear hb H13
 have H15 := Lib.hid (H14.out.vrel (hrel))
 clear H14
 clear hrel
 go_upto_region 8 with fail
 obtain ⟨blr3, hbl⟩ : ∃ b, w6.heap.size = b := ⟨_, rfl⟩
 obtain ⟨W7, hW⟩ : ∃ W, w6.alloc (.cells #[.int .i64 k3, .string S3, .bool b3, .int .u64 n3, .slice lo3 ln3 lc3, .slice mo3 mn3 mc3, .string I3, .string U3] 27) = W := ⟨_, rfl⟩
 have hb : Below w6.heap.size w6 W7 := by rw [← hW]; exact below_new _ _
 have hr : W7.heap[blr3]? = some (.cells #[.int .i64 k3, .string S3, .bool b3, .int .u64 n3, .slice lo3 ln3 lc3, .slice mo3 mn3 mc3, .string I3, .string U3] 27 (0, 0)) := by rw [← hW, ← hbl]; exact new_row _ _ _
 rw [hW, hbl]
 clear hW hbl
 have H16 := Lib.hid (H15.out.below hb)
 clear hb H15
 have H17 := Lib.hid (H16.out.row (hr))
 clear H16
 clear hr
 obtain ⟨xa0, xa1, xa2, xa3, xa4, xa5, xa6, xa7⟩ := row8 (H17.out.is.2.2.2.2.2.2.1)
 obtain ⟨xb0, xb1, xb2, xb3, xb4, xb5, xb6, xb7⟩ := row8 (H17.out.is.1)
 go_wp2_with fail
 refine (val_same x x _ _ _ _ W7 HXL.out (H17.out.is.2.2.2.2.1) (H17.out.is.2.1)).mono ?_; rintro e w8 ⟨rfl, hb⟩
 rw [alike_yes rfl]
 clear xa0 xa1 xa2 xa3 xa4 xa5 xa6 xa7 xb0 xb1 xb2 xb3 xb4 xb5 xb6 xb7
 have H18 := Lib.hid (H17.out.below hb)
 clear hb H17
 have q3 : IntKind.i64.wrap (d - less) = d - less := i64_wrap_id (by have := HR0.out; have := HD.out; omega) (by have := HR0.out; have := HD.out; omega)
 have HDL : Hid (-9223372036854775808 ≤ d - less ∧ d - less ≤ 9223372036854775807) := Lib.hid (by have := HR0.out; have := HD.out; omega)
 have HU := Lib.hid (fun w' => (both_any 1000001 SS (d - less) w' (by have := HSB.out; omega) (by have := HSB.out; omega) HDL.out).1)
 rw [HSS.out] at HU
 have HVM2 : Hid (0 ≤ d - less ∧ vmay x (d - less) = true) := Lib.hid (by have h := HLES.out; rw [vmayD] at h; simpa only [Bool.and_eq_true, decide_eq_true_eq] using h)
 rw [vback x (d - less) 1000001 HXF.out (by have := HVL.out; omega) HVM2.out.2 HVM2.out.1 (by rw [← HSZ.out]; have := HSB.out; omega)] at HU
 go_wp2_with fail
 refine (HU.out w8).mono ?_; rintro e w10 ⟨hb, hcase⟩
 clear HU
 obtain ⟨cs, rfl, hrel⟩ := hcase
 obtain ⟨k4, S4, b4, n4, lo4, ln4, lc4, mo4, mn4, mc4, I4, U4, rfl⟩ := hrel.form
 have H19 := Lib.hid (H18.out.below hb)
 clear hb H18
 have H20 := Lib.hid (H19.out.vrel (hrel))
 clear H19
 clear hrel
 go_upto_region 11 with fail
 obtain ⟨blr4, hbl⟩ : ∃ b, w10.heap.size = b := ⟨_, rfl⟩
 obtain ⟨W11, hW⟩ : ∃ W, w10.alloc (.cells #[.int .i64 k4, .string S4, .bool b4, .int .u64 n4, .slice lo4 ln4 lc4, .slice mo4 mn4 mc4, .string I4, .string U4] 27) = W := ⟨_, rfl⟩
 have hb : Below w10.heap.size w10 W11 := by rw [← hW]; exact below_new _ _
 have hr : W11.heap[blr4]? = some (.cells #[.int .i64 k4, .string S4, .bool b4, .int .u64 n4, .slice lo4 ln4 lc4, .slice mo4 mn4 mc4, .string I4, .string U4] 27 (0, 0)) := by rw [← hW, ← hbl]; exact new_row _ _ _
 rw [hW, hbl]
 clear hW hbl
 have H21 := Lib.hid (H20.out.below hb)
 clear hb H20
 have H22 := Lib.hid (H21.out.row (hr))
 clear H21
 clear hr
 obtain ⟨D, hD⟩ : ∃ D, W11.drew = D := ⟨_, rfl⟩
 have hb : Below W11.heap.size W11 D := by rw [← hD]; exact (Below.refl _ _).drew
 have H23 := Lib.hid (H22.out.below hb)
 clear hb H22
 have hS : R2 w.heap.size #[.int .i64 k1, .string S1, .bool b1, .int .u64 n1, .slice lo1 ln1 lc1, .slice mo1 mn1 mc1, .string I1, .string U1] 27 blr4 #[.int .i64 k4, .string S4, .bool b4, .int .u64 n4, .slice lo4 ln4 lc4, .slice mo4 mn4 mc4, .string I4, .string U4] 27 D := ⟨H23.out.is.2.2.2.2.2.2.2.2.1, H23.out.is.1⟩
 have hne : Nonempty {w' : World // R2 w.heap.size #[.int .i64 k1, .string S1, .bool b1, .int .u64 n1, .slice lo1 ln1 lc1, .slice mo1 mn1 mc1, .string I1, .string U1] 27 blr4 #[.int .i64 k4, .string S4, .bool b4, .int .u64 n4, .slice lo4 ln4 lc4, .slice mo4 mn4 mc4, .string I4, .string U4] 27 w'} := ⟨⟨_, hS⟩⟩
 refine wp_region_seq (S := R2 w.heap.size #[.int .i64 k1, .string S1, .bool b1, .int .u64 n1, .slice lo1 ln1 lc1, .slice mo1 mn1 mc1, .string I1, .string U1] 27 blr4 #[.int .i64 k4, .string S4, .bool b4, .int .u64 n4, .slice lo4 ln4 lc4, .slice mo4 mn4 mc4, .string I4, .string U4] 27) [(0, true), (1, true), (2, true), (3, true), (4, true), (5, true), (6, false), (7, true), (8, true), (9, true), (10, true), (11, true), (12, true), (13, true), (14, false), (15, true), (16, true), (17, true)] (by kernel_rfl) (by kernel_rfl) (by kernel_rfl) (by kernel_rfl) (by rw [hD]; exact hS) ?_
 rw [hD]
 clear hD
 iterate 2 (refine seq_take _ rfl (fun KC hK => ?_); go_simp; (first | refine hK _ ?_ | refine ⟨_, fun _ _ => rfl, hK _ ?_⟩); clear hK KC)
 refine seq_take _ rfl (fun KC hK => ?_); go_simp
 refine ⟨.agg #[.int .i64 k1, .string S1, .bool b1, .int .u64 n1, .slice lo1 ln1 lc1, .slice mo1 mn1 mc1, .string I1, .string U1], fun a ha => by obtain ⟨p0, p1, p2, p3, p4, p5, p6, p7⟩ := row8 ha.1; simp only [p0, p1, p2, p3, p4, p5, p6, p7, Result.andThen], hK _ ?_⟩
 clear hK KC
 iterate 3 (refine seq_take _ rfl (fun KC hK => ?_); go_simp; (first | refine hK _ ?_ | refine ⟨_, fun _ _ => rfl, hK _ ?_⟩); clear hK KC)
 refine seq_come _ rfl (fun KC hK => ?_); go_simp
 refine (vmay_any x [.int .i64 k1, .string S1, .bool b1, .int .u64 n1, .slice lo1 ln1 lc1, .slice mo1 mn1 mc1, .string I1, .string U1] _ (d - less) D HXF.out (H23.out.is.2.2.2.2.2.2.1) HDL.out (by have := HVL.out; omega)).mono ?_; rintro e w12 ⟨rfl, hb⟩
 rw [HLES.out]
 have hS12 := hS.below hb
 have H24 := Lib.hid (H23.out.below hb)
 clear hb H23
 go_simp; refine hK.out _ _ hS12 ?_; clear hK KC
 iterate 5 (refine seq_take _ rfl (fun KC hK => ?_); go_simp; (first | refine hK _ ?_ | refine ⟨_, fun _ _ => rfl, hK _ ?_⟩); clear hK KC)
 refine seq_take _ rfl (fun KC hK => ?_); go_simp
 refine ⟨.agg #[.int .i64 k1, .string S1, .bool b1, .int .u64 n1, .slice lo1 ln1 lc1, .slice mo1 mn1 mc1, .string I1, .string U1], fun a ha => by obtain ⟨p0, p1, p2, p3, p4, p5, p6, p7⟩ := row8 ha.1; simp only [p0, p1, p2, p3, p4, p5, p6, p7, Result.andThen], hK _ ?_⟩
 clear hK KC
 refine seq_take _ rfl (fun KC hK => ?_); go_simp
 refine ⟨.agg #[.int .i64 k4, .string S4, .bool b4, .int .u64 n4, .slice lo4 ln4 lc4, .slice mo4 mn4 mc4, .string I4, .string U4], fun a ha => by obtain ⟨p0, p1, p2, p3, p4, p5, p6, p7⟩ := row8 ha.2; simp only [p0, p1, p2, p3, p4, p5, p6, p7, Result.andThen], hK _ ?_⟩
 clear hK KC
 refine seq_come _ rfl (fun KC hK => ?_); go_simp
 refine (val_same x x _ _ _ _ w12 HXL.out (H24.out.is.2.2.2.2.2.2.1) (H24.out.is.2.1)).mono ?_; rintro e w13 ⟨rfl, hb⟩
 rw [alike_yes rfl]
 have hS13 := hS12.below hb
 have H25 := Lib.hid (H24.out.below hb)
 clear hb H24
 go_simp; refine hK.out _ _ hS13 ?_; clear hK KC hS13
 iterate 3 (refine seq_take _ rfl (fun KC hK => ?_); go_simp; (first | refine hK _ ?_ | refine ⟨_, fun _ _ => rfl, hK _ ?_⟩); clear hK KC)
 refine seq_done ?_
 clear hne hS hS12
 obtain ⟨xk0, xk1, xk2, xk3, xk4, xk5, xk6, xk7, xk8, xk9, xk10⟩ := row11 (H25.out.is.2.2.2.2.2.2.2.1)
 go_wp2_with fail
 refine (kmarshal_any y [.string K2, .bool h2, .int .i64 k2, .string S2, .bool b2, .int .u64 n2, .slice lo2 ln2 lc2, .slice mo2 mn2 mc2, .string I2, .string U2, .string Y2] _ d w13 HYF.out (H25.out.is.2.2.2.2.2.1) HD.out (by have := HKL.out; omega)).mono ?_; rintro e w14 ⟨hb, hcase⟩
 rw [HCAN.out] at hcase
 clear xk0 xk1 xk2 xk3 xk4 xk5 xk6 xk7 xk8 xk9 xk10
 have H26 := Lib.hid (H25.out.below hb)
 clear hb H25
 rw [if_pos rfl] at hcase
 subst hcase
 obtain ⟨TT, hTT⟩ : ∃ S : ByteArray, (⟨(kout y).toArray⟩ : ByteArray) = S := ⟨_, rfl⟩
 have HTT : Hid (TT.data.toList = kout y) := Lib.hid (by rw [← hTT])
 have HTZ : Hid (TT.size = (kout y).length) := Lib.hid (by rw [← hTT]; simp [ByteArray.size])
 have HTB : Hid (TT.size ≤ 100000) := Lib.hid (by rw [HTZ.out]; have := kout_le y; have := kw_kb y; have := HKL.out; omega)
 have HKM : Hid (kmay y d = true) := Lib.hid (by have h := HCAN.out; rw [kmayD] at h; simp only [Bool.and_eq_true] at h; exact h.2)
 have HU := Lib.hid (fun w' => (both_any 1000001 TT d w' (by have := HTB.out; omega) (by have := HTB.out; omega) HD.out).2)
 rw [HTT.out, kback y d 1000001 HYF.out (by have := HKL.out; omega) HKM.out (by have := HR0.out; omega) (by rw [← HTZ.out]; have := HTB.out; omega)] at HU
 rw [hTT]
 clear hTT
 go_wp2_with fail
 refine (HU.out w14).mono ?_; rintro e w15 ⟨hb, hcase⟩
 clear HU
 obtain ⟨cs, rfl, hrel⟩ := hcase
 obtain ⟨K5, h5, k5, S5, b5, n5, lo5, ln5, lc5, mo5, mn5, mc5, I5, U5, Y5, rfl⟩ := hrel.form
 have H27 := Lib.hid (H26.out.below hb)
 clear hb H26
 have H28 := Lib.hid (H27.out.krel (hrel))
 clear H27
 clear hrel
 go_upto_region 17 with fail
 obtain ⟨blr5, hbl⟩ : ∃ b, w15.heap.size = b := ⟨_, rfl⟩
 obtain ⟨W16, hW⟩ : ∃ W, w15.alloc (.cells #[.string K5, .bool h5, .int .i64 k5, .string S5, .bool b5, .int .u64 n5, .slice lo5 ln5 lc5, .slice mo5 mn5 mc5, .string I5, .string U5, .string Y5] 35) = W := ⟨_, rfl⟩
 have hb : Below w15.heap.size w15 W16 := by rw [← hW]; exact below_new _ _
 have hr : W16.heap[blr5]? = some (.cells #[.string K5, .bool h5, .int .i64 k5, .string S5, .bool b5, .int .u64 n5, .slice lo5 ln5 lc5, .slice mo5 mn5 mc5, .string I5, .string U5, .string Y5] 35 (0, 0)) := by rw [← hW, ← hbl]; exact new_row _ _ _
 rw [hW, hbl]
 clear hW hbl
 have H29 := Lib.hid (H28.out.below hb)
 clear hb H28
 have H30 := Lib.hid (H29.out.row (hr))
 clear H29
 clear hr
 go_wp2_with fail
 refine (first8 W16 (H30.out.is.2.2.2.2.2.2.2.2.2.2.2.1)).mono ?_; rintro e w17 ⟨rfl, hb⟩
 have H31 := Lib.hid (H30.out.below hb)
 clear hb H30
 obtain ⟨xk0, xk1, xk2, xk3, xk4, xk5, xk6, xk7, xk8, xk9, xk10⟩ := row11 (H31.out.is.2.2.2.2.2.2.2.2.2.1)
 obtain ⟨xl0, xl1, xl2, xl3, xl4, xl5, xl6, xl7, xl8, xl9, xl10⟩ := row11 (H31.out.is.1)
 go_wp2_with fail
 refine (key_same y y _ _ _ _ w17 HYL.out (H31.out.is.2.2.2.2.2.2.2.1) (H31.out.is.2.1)).mono ?_; rintro e w18 ⟨rfl, hb⟩
 rw [alike_yes rfl]
 clear xk0 xk1 xk2 xk3 xk4 xk5 xk6 xk7 xk8 xk9 xk10 xl0 xl1 xl2 xl3 xl4 xl5 xl6 xl7 xl8 xl9 xl10
 have H32 := Lib.hid (H31.out.below hb)
 clear hb H31
 go_wp2_with fail
 go_ret
 exact ⟨rfl, H32.out.is.2.2.2.2.2.2.2.2.2.2.2.2.1⟩
set_option maxRecDepth 1000000 in
set_option maxHeartbeats 16000000 in
theorem vbackl_TTF (x : Val) (y : KV) (ca ck : List Value) (d less : Int) (w : World) (hg : Glob w) (hxl : vlim x) (hxf : vfit x) (hx : VRel w (fun k => k < w.heap.size) x ca) (hyl : klim y) (hyf : kfit y) (hy : KRel w (fun k => k < w.heap.size) y ck) (hd : -9223372036854775808 ≤ d ∧ d ≤ 9223372036854775807) (hle : -9223372036854775808 ≤ less ∧ less ≤ 9223372036854775807) (hmay : vmayD x d = true) (hles : vmayD x (d - less) = true) (hcan : kmayD y d = false) :
 Calls Tryz.prog 6 #[.agg ca.toArray, .agg ck.toArray, .int .i64 d, .int .i64 less] w fun e w' => e = .returned (.bool true) ∧ Below w.heap.size w w' := by
 have HG := Lib.hid hg
 have HX := Lib.hid hx
 have HY := Lib.hid hy
 have HXL := Lib.hid hxl
 have HXF := Lib.hid hxf
 have HYL := Lib.hid hyl
 have HYF := Lib.hid hyf
 have HD := Lib.hid hd
 have HLE := Lib.hid hle
 have HMAY := Lib.hid hmay
 have HCAN := Lib.hid hcan
 have HLES := Lib.hid hles
 obtain ⟨k1, S1, b1, n1, lo1, ln1, lc1, mo1, mn1, mc1, I1, U1, rfl⟩ := hx.form
 obtain ⟨K2, h2, k2, S2, b2, n2, lo2, ln2, lc2, mo2, mn2, mc2, I2, U2, Y2, rfl⟩ := hy.form
 clear hg hxl hxf hx hyl hyf hy hd hle hmay hcan hles
 obtain ⟨W, hW⟩ : ∃ W, (w.alloc (.cells #[.int .i64 k1, .string S1, .bool b1, .int .u64 n1, .slice lo1 ln1 lc1, .slice mo1 mn1 mc1, .string I1, .string U1] 27)).alloc (.cells #[.string K2, .bool h2, .int .i64 k2, .string S2, .bool b2, .int .u64 n2, .slice lo2 ln2 lc2, .slice mo2 mn2 mc2, .string I2, .string U2, .string Y2] 35) = W := ⟨_, rfl⟩
 have hbw : Below w.heap.size w W := by rw [← hW]; exact below_step (below_new _ _) (below_new _ _)
 have hra : W.heap[w.heap.size]? = some (.cells #[.int .i64 k1, .string S1, .bool b1, .int .u64 n1, .slice lo1 ln1 lc1, .slice mo1 mn1 mc1, .string I1, .string U1] 27 (0, 0)) := by rw [← hW]; exact (Below.heap_alloc _ _ _ (by simp)).trans (heap_alloc_new w _)
 have hrk : W.heap[w.heap.size + 1]? = some (.cells #[.string K2, .bool h2, .int .i64 k2, .string S2, .bool b2, .int .u64 n2, .slice lo2 ln2 lc2, .slice mo2 mn2 mc2, .string I2, .string U2, .string Y2] 35 (0, 0)) := by rw [← hW]; have := heap_alloc_new (w.alloc (.cells #[.int .i64 k1, .string S1, .bool b1, .int .u64 n1, .slice lo1 ln1 lc1, .slice mo1 mn1 mc1, .string I1, .string U1] 27)) (.cells #[.string K2, .bool h2, .int .i64 k2, .string S2, .bool b2, .int .u64 n2, .slice lo2 ln2 lc2, .slice mo2 mn2 mc2, .string I2, .string U2, .string Y2] 35); simpa using this
 have H1 := Lib.hid (Fx.nil W)
 have H2 := Lib.hid (H1.out.base (hbw))
 clear H1
 have H3 := Lib.hid (H2.out.glob (HG.out.below hbw))
 clear H2
 have H4 := Lib.hid (H3.out.row (hra))
 clear H3
 have H5 := Lib.hid (H4.out.row (hrk))
 clear H4
 have H6 := Lib.hid (H5.out.vrel (HX.out.below hbw))
 clear H5
 have H7 := Lib.hid (H6.out.krel (HY.out.below hbw))
 clear H6
 have HW := Lib.hid hW
 clear hW hbw hra hrk HX HY
 go_enter Tryz.func6, Tryz.ntmps6
 go_wp2_with fail
 rw [HW.out]
 refine (first8 W (H7.out.is.2.2.2.2.1)).mono ?_; rintro e w1 ⟨rfl, hb⟩
 have H8 := Lib.hid (H7.out.below hb)
 clear hb H7
 obtain ⟨xa0, xa1, xa2, xa3, xa4, xa5, xa6, xa7⟩ := row8 (H8.out.is.2.2.2.1)
 go_wp2_with fail
 refine (fewv_any x [.int .i64 k1, .string S1, .bool b1, .int .u64 n1, .slice lo1 ln1 lc1, .slice mo1 mn1 mc1, .string I1, .string U1] _ w1 HXL.out HXF.out (H8.out.is.2.1)).mono ?_; intro e w2 hpost
 obtain ⟨hb, bb, rfl, hvw⟩ := hpost
 have HVW := Lib.hid hvw
 clear hvw
 clear xa0 xa1 xa2 xa3 xa4 xa5 xa6 xa7
 have H9 := Lib.hid (H8.out.below hb)
 clear hb H8
 cases bb with
 | false =>
  go_wp2_with fail
  refine (first8 w2 (H9.out.is.2.2.2.2.1)).mono ?_; rintro e w9 ⟨rfl, hb⟩
  have H10 := Lib.hid (H9.out.below hb)
  clear hb H9
  go_wp2_with fail
  go_ret
  exact ⟨rfl, H10.out.is.2.2.2.2.2.1⟩
 | true =>
 obtain ⟨xk0, xk1, xk2, xk3, xk4, xk5, xk6, xk7, xk8, xk9, xk10⟩ := row11 (H9.out.is.2.2.1)
 obtain ⟨blfew, hbl⟩ : ∃ b, w2.heap.size = b := ⟨_, rfl⟩
 obtain ⟨W3, hW⟩ : ∃ W, w2.alloc (.cells #[.string K2, .bool h2, .int .i64 k2, .string S2, .bool b2, .int .u64 n2, .slice lo2 ln2 lc2, .slice mo2 mn2 mc2, .string I2, .string U2, .string Y2] 35) = W := ⟨_, rfl⟩
 have hb : Below w2.heap.size w2 W3 := by rw [← hW]; exact below_new _ _
 have hr : W3.heap[blfew]? = some (.cells #[.string K2, .bool h2, .int .i64 k2, .string S2, .bool b2, .int .u64 n2, .slice lo2 ln2 lc2, .slice mo2 mn2 mc2, .string I2, .string U2, .string Y2] 35 (0, 0)) := by rw [← hW, ← hbl]; exact new_row _ _ _
 have HWN := Lib.hid hW
 have HBN := Lib.hid hbl
 clear hW hbl
 have H10 := Lib.hid (H9.out.below hb)
 clear hb H9
 have H11 := Lib.hid (H10.out.row (hr))
 clear H10
 clear hr
 have HL3 := Lib.hid (krels_1 (H11.out.is.2.1) (H11.out.is.1))
 go_wp2_with fail
 rw [HWN.out, HBN.out]
 clear HWN HBN
 refine (fewk_any [y] (some ⟨blfew, 0, none⟩) 1 _ W3 (by simp) (by rw [kslim, kslim]; exact ⟨HYL.out, trivial⟩) (by rw [ksfit, ksfit]; exact ⟨HYF.out, trivial⟩) HL3.out).mono ?_; intro e w4 hpost
 obtain ⟨hb, bb, rfl, hkw⟩ := hpost
 have HKW := Lib.hid hkw
 clear hkw HL3
 clear xk0 xk1 xk2 xk3 xk4 xk5 xk6 xk7 xk8 xk9 xk10
 have H12 := Lib.hid (H11.out.below hb)
 clear hb H11
 cases bb with
 | false =>
  go_wp2_with fail
  refine (first8 w4 (H12.out.is.2.2.2.2.2.1)).mono ?_; rintro e w9 ⟨rfl, hb⟩
  have H13 := Lib.hid (H12.out.below hb)
  clear hb H12
  go_wp2_with fail
  go_ret
  exact ⟨rfl, H13.out.is.2.2.2.2.2.2.1⟩
 | true =>
 have HVL : Hid (vw x ≤ 8000) := Lib.hid (by first | exact HVW.out rfl | exact HVW.out trivial)
 have HKL : Hid (kw y ≤ 8000) := Lib.hid (by
  have h : ksw [y] ≤ 8000 := by first | exact HKW.out rfl | exact HKW.out trivial
  rwa [ksw_one] at h)
 clear HVW HKW
 by_cases hl0 : less < 0
 ·have q1 : decide (less < 0) = true := decide_eq_true hl0
  clear hl0
  go_wp2_with fail
  refine (first8 w4 (H12.out.is.2.2.2.2.2.1)).mono ?_; rintro e w9 ⟨rfl, hb⟩
  have H13 := Lib.hid (H12.out.below hb)
  clear hb H12
  go_wp2_with fail
  go_ret
  exact ⟨rfl, H13.out.is.2.2.2.2.2.2.1⟩
 have q1 : decide (less < 0) = false := decide_eq_false hl0
 by_cases hl1 : d < less
 ·have q2 : decide (d < less) = true := decide_eq_true hl1
  clear hl0 hl1
  go_wp2_with fail
  refine (first8 w4 (H12.out.is.2.2.2.2.2.1)).mono ?_; rintro e w9 ⟨rfl, hb⟩
  have H13 := Lib.hid (H12.out.below hb)
  clear hb H12
  go_wp2_with fail
  go_ret
  exact ⟨rfl, H13.out.is.2.2.2.2.2.2.1⟩
 have q2 : decide (d < less) = false := decide_eq_false hl1
 have HR0 : Hid (0 ≤ less ∧ less ≤ d) := Lib.hid (by omega)
 clear hl0 hl1
 obtain ⟨xa0, xa1, xa2, xa3, xa4, xa5, xa6, xa7⟩ := row8 (H12.out.is.2.2.2.2.1)
 go_wp2_with fail
 refine (vmarshal_any x [.int .i64 k1, .string S1, .bool b1, .int .u64 n1, .slice lo1 ln1 lc1, .slice mo1 mn1 mc1, .string I1, .string U1] _ d w4 HXF.out (H12.out.is.2.2.1) HD.out (by have := HVL.out; omega)).mono ?_; rintro e w5 ⟨hb, hcase⟩
 rw [HMAY.out] at hcase
 clear xa0 xa1 xa2 xa3 xa4 xa5 xa6 xa7
 have H13 := Lib.hid (H12.out.below hb)
 clear hb H12
 rw [if_pos rfl] at hcase
 subst hcase
 obtain ⟨SS, hSS⟩ : ∃ S : ByteArray, (⟨(vout x).toArray⟩ : ByteArray) = S := ⟨_, rfl⟩
 have HSS : Hid (SS.data.toList = vout x) := Lib.hid (by rw [← hSS])
 have HSZ : Hid (SS.size = (vout x).length) := Lib.hid (by rw [← hSS]; simp [ByteArray.size])
 have HSB : Hid (SS.size ≤ 100000) := Lib.hid (by rw [HSZ.out]; have := vout_le x; have := vw_vb x; have := HVL.out; omega)
 have HVM : Hid (vmay x d = true) := Lib.hid (by have h := HMAY.out; rw [vmayD] at h; simp only [Bool.and_eq_true] at h; exact h.2)
 have HU := Lib.hid (fun w' => (both_any 1000001 SS d w' (by have := HSB.out; omega) (by have := HSB.out; omega) HD.out).1)
 rw [HSS.out, vback x d 1000001 HXF.out (by have := HVL.out; omega) HVM.out (by have := HR0.out; omega) (by rw [← HSZ.out]; have := HSB.out; omega)] at HU
 rw [hSS]
 clear hSS
 go_wp2_with fail
 refine (HU.out w5).mono ?_; rintro e w6 ⟨hb, hcase⟩
 clear HU
 obtain ⟨cs, rfl, hrel⟩ := hcase
 obtain ⟨k3, S3, b3, n3, lo3, ln3, lc3, mo3, mn3, mc3, I3, U3, rfl⟩ := hrel.form
 have H14 := Lib.hid (H13.out.below hb)
 clear hb H13
 have H15 := Lib.hid (H14.out.vrel (hrel))
 clear H14
 clear hrel
 go_upto_region 8 with fail
 obtain ⟨blr3, hbl⟩ : ∃ b, w6.heap.size = b := ⟨_, rfl⟩
 obtain ⟨W7, hW⟩ : ∃ W, w6.alloc (.cells #[.int .i64 k3, .string S3, .bool b3, .int .u64 n3, .slice lo3 ln3 lc3, .slice mo3 mn3 mc3, .string I3, .string U3] 27) = W := ⟨_, rfl⟩
 have hb : Below w6.heap.size w6 W7 := by rw [← hW]; exact below_new _ _
 have hr : W7.heap[blr3]? = some (.cells #[.int .i64 k3, .string S3, .bool b3, .int .u64 n3, .slice lo3 ln3 lc3, .slice mo3 mn3 mc3, .string I3, .string U3] 27 (0, 0)) := by rw [← hW, ← hbl]; exact new_row _ _ _
 rw [hW, hbl]
 clear hW hbl
 have H16 := Lib.hid (H15.out.below hb)
 clear hb H15
 have H17 := Lib.hid (H16.out.row (hr))
 clear H16
 clear hr
 obtain ⟨xa0, xa1, xa2, xa3, xa4, xa5, xa6, xa7⟩ := row8 (H17.out.is.2.2.2.2.2.2.1)
 obtain ⟨xb0, xb1, xb2, xb3, xb4, xb5, xb6, xb7⟩ := row8 (H17.out.is.1)
 go_wp2_with fail
 refine (val_same x x _ _ _ _ W7 HXL.out (H17.out.is.2.2.2.2.1) (H17.out.is.2.1)).mono ?_; rintro e w8 ⟨rfl, hb⟩
 rw [alike_yes rfl]
 clear xa0 xa1 xa2 xa3 xa4 xa5 xa6 xa7 xb0 xb1 xb2 xb3 xb4 xb5 xb6 xb7
 have H18 := Lib.hid (H17.out.below hb)
 clear hb H17
 have q3 : IntKind.i64.wrap (d - less) = d - less := i64_wrap_id (by have := HR0.out; have := HD.out; omega) (by have := HR0.out; have := HD.out; omega)
 have HDL : Hid (-9223372036854775808 ≤ d - less ∧ d - less ≤ 9223372036854775807) := Lib.hid (by have := HR0.out; have := HD.out; omega)
 have HU := Lib.hid (fun w' => (both_any 1000001 SS (d - less) w' (by have := HSB.out; omega) (by have := HSB.out; omega) HDL.out).1)
 rw [HSS.out] at HU
 have HVM2 : Hid (0 ≤ d - less ∧ vmay x (d - less) = true) := Lib.hid (by have h := HLES.out; rw [vmayD] at h; simpa only [Bool.and_eq_true, decide_eq_true_eq] using h)
 rw [vback x (d - less) 1000001 HXF.out (by have := HVL.out; omega) HVM2.out.2 HVM2.out.1 (by rw [← HSZ.out]; have := HSB.out; omega)] at HU
 go_wp2_with fail
 refine (HU.out w8).mono ?_; rintro e w10 ⟨hb, hcase⟩
 clear HU
 obtain ⟨cs, rfl, hrel⟩ := hcase
 obtain ⟨k4, S4, b4, n4, lo4, ln4, lc4, mo4, mn4, mc4, I4, U4, rfl⟩ := hrel.form
 have H19 := Lib.hid (H18.out.below hb)
 clear hb H18
 have H20 := Lib.hid (H19.out.vrel (hrel))
 clear H19
 clear hrel
 go_upto_region 11 with fail
 obtain ⟨blr4, hbl⟩ : ∃ b, w10.heap.size = b := ⟨_, rfl⟩
 obtain ⟨W11, hW⟩ : ∃ W, w10.alloc (.cells #[.int .i64 k4, .string S4, .bool b4, .int .u64 n4, .slice lo4 ln4 lc4, .slice mo4 mn4 mc4, .string I4, .string U4] 27) = W := ⟨_, rfl⟩
 have hb : Below w10.heap.size w10 W11 := by rw [← hW]; exact below_new _ _
 have hr : W11.heap[blr4]? = some (.cells #[.int .i64 k4, .string S4, .bool b4, .int .u64 n4, .slice lo4 ln4 lc4, .slice mo4 mn4 mc4, .string I4, .string U4] 27 (0, 0)) := by rw [← hW, ← hbl]; exact new_row _ _ _
 rw [hW, hbl]
 clear hW hbl
 have H21 := Lib.hid (H20.out.below hb)
 clear hb H20
 have H22 := Lib.hid (H21.out.row (hr))
 clear H21
 clear hr
 obtain ⟨D, hD⟩ : ∃ D, W11.drew = D := ⟨_, rfl⟩
 have hb : Below W11.heap.size W11 D := by rw [← hD]; exact (Below.refl _ _).drew
 have H23 := Lib.hid (H22.out.below hb)
 clear hb H22
 have hS : R2 w.heap.size #[.int .i64 k1, .string S1, .bool b1, .int .u64 n1, .slice lo1 ln1 lc1, .slice mo1 mn1 mc1, .string I1, .string U1] 27 blr4 #[.int .i64 k4, .string S4, .bool b4, .int .u64 n4, .slice lo4 ln4 lc4, .slice mo4 mn4 mc4, .string I4, .string U4] 27 D := ⟨H23.out.is.2.2.2.2.2.2.2.2.1, H23.out.is.1⟩
 have hne : Nonempty {w' : World // R2 w.heap.size #[.int .i64 k1, .string S1, .bool b1, .int .u64 n1, .slice lo1 ln1 lc1, .slice mo1 mn1 mc1, .string I1, .string U1] 27 blr4 #[.int .i64 k4, .string S4, .bool b4, .int .u64 n4, .slice lo4 ln4 lc4, .slice mo4 mn4 mc4, .string I4, .string U4] 27 w'} := ⟨⟨_, hS⟩⟩
 refine wp_region_seq (S := R2 w.heap.size #[.int .i64 k1, .string S1, .bool b1, .int .u64 n1, .slice lo1 ln1 lc1, .slice mo1 mn1 mc1, .string I1, .string U1] 27 blr4 #[.int .i64 k4, .string S4, .bool b4, .int .u64 n4, .slice lo4 ln4 lc4, .slice mo4 mn4 mc4, .string I4, .string U4] 27) [(0, true), (1, true), (2, true), (3, true), (4, true), (5, true), (6, false), (7, true), (8, true), (9, true), (10, true), (11, true), (12, true), (13, true), (14, false), (15, true), (16, true), (17, true)] (by kernel_rfl) (by kernel_rfl) (by kernel_rfl) (by kernel_rfl) (by rw [hD]; exact hS) ?_
 rw [hD]
 clear hD
 iterate 2 (refine seq_take _ rfl (fun KC hK => ?_); go_simp; (first | refine hK _ ?_ | refine ⟨_, fun _ _ => rfl, hK _ ?_⟩); clear hK KC)
 refine seq_take _ rfl (fun KC hK => ?_); go_simp
 refine ⟨.agg #[.int .i64 k1, .string S1, .bool b1, .int .u64 n1, .slice lo1 ln1 lc1, .slice mo1 mn1 mc1, .string I1, .string U1], fun a ha => by obtain ⟨p0, p1, p2, p3, p4, p5, p6, p7⟩ := row8 ha.1; simp only [p0, p1, p2, p3, p4, p5, p6, p7, Result.andThen], hK _ ?_⟩
 clear hK KC
 iterate 3 (refine seq_take _ rfl (fun KC hK => ?_); go_simp; (first | refine hK _ ?_ | refine ⟨_, fun _ _ => rfl, hK _ ?_⟩); clear hK KC)
 refine seq_come _ rfl (fun KC hK => ?_); go_simp
 refine (vmay_any x [.int .i64 k1, .string S1, .bool b1, .int .u64 n1, .slice lo1 ln1 lc1, .slice mo1 mn1 mc1, .string I1, .string U1] _ (d - less) D HXF.out (H23.out.is.2.2.2.2.2.2.1) HDL.out (by have := HVL.out; omega)).mono ?_; rintro e w12 ⟨rfl, hb⟩
 rw [HLES.out]
 have hS12 := hS.below hb
 have H24 := Lib.hid (H23.out.below hb)
 clear hb H23
 go_simp; refine hK.out _ _ hS12 ?_; clear hK KC
 iterate 5 (refine seq_take _ rfl (fun KC hK => ?_); go_simp; (first | refine hK _ ?_ | refine ⟨_, fun _ _ => rfl, hK _ ?_⟩); clear hK KC)
 refine seq_take _ rfl (fun KC hK => ?_); go_simp
 refine ⟨.agg #[.int .i64 k1, .string S1, .bool b1, .int .u64 n1, .slice lo1 ln1 lc1, .slice mo1 mn1 mc1, .string I1, .string U1], fun a ha => by obtain ⟨p0, p1, p2, p3, p4, p5, p6, p7⟩ := row8 ha.1; simp only [p0, p1, p2, p3, p4, p5, p6, p7, Result.andThen], hK _ ?_⟩
 clear hK KC
 refine seq_take _ rfl (fun KC hK => ?_); go_simp
 refine ⟨.agg #[.int .i64 k4, .string S4, .bool b4, .int .u64 n4, .slice lo4 ln4 lc4, .slice mo4 mn4 mc4, .string I4, .string U4], fun a ha => by obtain ⟨p0, p1, p2, p3, p4, p5, p6, p7⟩ := row8 ha.2; simp only [p0, p1, p2, p3, p4, p5, p6, p7, Result.andThen], hK _ ?_⟩
 clear hK KC
 refine seq_come _ rfl (fun KC hK => ?_); go_simp
 refine (val_same x x _ _ _ _ w12 HXL.out (H24.out.is.2.2.2.2.2.2.1) (H24.out.is.2.1)).mono ?_; rintro e w13 ⟨rfl, hb⟩
 rw [alike_yes rfl]
 have hS13 := hS12.below hb
 have H25 := Lib.hid (H24.out.below hb)
 clear hb H24
 go_simp; refine hK.out _ _ hS13 ?_; clear hK KC hS13
 iterate 3 (refine seq_take _ rfl (fun KC hK => ?_); go_simp; (first | refine hK _ ?_ | refine ⟨_, fun _ _ => rfl, hK _ ?_⟩); clear hK KC)
 refine seq_done ?_
 clear hne hS hS12
 obtain ⟨xk0, xk1, xk2, xk3, xk4, xk5, xk6, xk7, xk8, xk9, xk10⟩ := row11 (H25.out.is.2.2.2.2.2.2.2.1)
 go_wp2_with fail
 refine (kmarshal_any y [.string K2, .bool h2, .int .i64 k2, .string S2, .bool b2, .int .u64 n2, .slice lo2 ln2 lc2, .slice mo2 mn2 mc2, .string I2, .string U2, .string Y2] _ d w13 HYF.out (H25.out.is.2.2.2.2.2.1) HD.out (by have := HKL.out; omega)).mono ?_; rintro e w14 ⟨hb, hcase⟩
 rw [HCAN.out] at hcase
 clear xk0 xk1 xk2 xk3 xk4 xk5 xk6 xk7 xk8 xk9 xk10
 have H26 := Lib.hid (H25.out.below hb)
 clear hb H25
 rw [if_neg (by simp)] at hcase
 obtain ⟨v, rfl, hec⟩ := hcase
 obtain ⟨T8, y8, rfl⟩ := hec.iface
 clear hec
 go_wp2_with fail
 refine (first8 w14 (H26.out.is.2.2.2.2.2.2.2.2.2.1)).mono ?_; rintro e w18 ⟨rfl, hb⟩
 have H27 := Lib.hid (H26.out.below hb)
 clear hb H26
 go_wp2_with fail
 go_ret
 exact ⟨rfl, H27.out.is.2.2.2.2.2.2.2.2.2.2.1⟩
set_option maxRecDepth 1000000 in
set_option maxHeartbeats 16000000 in
theorem vbackl_TFT (x : Val) (y : KV) (ca ck : List Value) (d less : Int) (w : World) (hg : Glob w) (hxl : vlim x) (hxf : vfit x) (hx : VRel w (fun k => k < w.heap.size) x ca) (hyl : klim y) (hyf : kfit y) (hy : KRel w (fun k => k < w.heap.size) y ck) (hd : -9223372036854775808 ≤ d ∧ d ≤ 9223372036854775807) (hle : -9223372036854775808 ≤ less ∧ less ≤ 9223372036854775807) (hmay : vmayD x d = true) (hles : vmayD x (d - less) = false) (hcan : kmayD y d = true) :
 Calls Tryz.prog 6 #[.agg ca.toArray, .agg ck.toArray, .int .i64 d, .int .i64 less] w fun e w' => e = .returned (.bool true) ∧ Below w.heap.size w w' := by
 have HG := Lib.hid hg
 have HX := Lib.hid hx
 have HY := Lib.hid hy
 have HXL := Lib.hid hxl
 have HXF := Lib.hid hxf
 have HYL := Lib.hid hyl
 have HYF := Lib.hid hyf
 have HD := Lib.hid hd
 have HLE := Lib.hid hle
 have HMAY := Lib.hid hmay
 have HCAN := Lib.hid hcan
 have HLES := Lib.hid hles
 obtain ⟨k1, S1, b1, n1, lo1, ln1, lc1, mo1, mn1, mc1, I1, U1, rfl⟩ := hx.form
 obtain ⟨K2, h2, k2, S2, b2, n2, lo2, ln2, lc2, mo2, mn2, mc2, I2, U2, Y2, rfl⟩ := hy.form
 clear hg hxl hxf hx hyl hyf hy hd hle hmay hcan hles
 obtain ⟨W, hW⟩ : ∃ W, (w.alloc (.cells #[.int .i64 k1, .string S1, .bool b1, .int .u64 n1, .slice lo1 ln1 lc1, .slice mo1 mn1 mc1, .string I1, .string U1] 27)).alloc (.cells #[.string K2, .bool h2, .int .i64 k2, .string S2, .bool b2, .int .u64 n2, .slice lo2 ln2 lc2, .slice mo2 mn2 mc2, .string I2, .string U2, .string Y2] 35) = W := ⟨_, rfl⟩
 have hbw : Below w.heap.size w W := by rw [← hW]; exact below_step (below_new _ _) (below_new _ _)
 have hra : W.heap[w.heap.size]? = some (.cells #[.int .i64 k1, .string S1, .bool b1, .int .u64 n1, .slice lo1 ln1 lc1, .slice mo1 mn1 mc1, .string I1, .string U1] 27 (0, 0)) := by rw [← hW]; exact (Below.heap_alloc _ _ _ (by simp)).trans (heap_alloc_new w _)
 have hrk : W.heap[w.heap.size + 1]? = some (.cells #[.string K2, .bool h2, .int .i64 k2, .string S2, .bool b2, .int .u64 n2, .slice lo2 ln2 lc2, .slice mo2 mn2 mc2, .string I2, .string U2, .string Y2] 35 (0, 0)) := by rw [← hW]; have := heap_alloc_new (w.alloc (.cells #[.int .i64 k1, .string S1, .bool b1, .int .u64 n1, .slice lo1 ln1 lc1, .slice mo1 mn1 mc1, .string I1, .string U1] 27)) (.cells #[.string K2, .bool h2, .int .i64 k2, .string S2, .bool b2, .int .u64 n2, .slice lo2 ln2 lc2, .slice mo2 mn2 mc2, .string I2, .string U2, .string Y2] 35); simpa using this
 have H1 := Lib.hid (Fx.nil W)
 have H2 := Lib.hid (H1.out.base (hbw))
 clear H1
 have H3 := Lib.hid (H2.out.glob (HG.out.below hbw))
 clear H2
 have H4 := Lib.hid (H3.out.row (hra))
 clear H3
 have H5 := Lib.hid (H4.out.row (hrk))
 clear H4
 have H6 := Lib.hid (H5.out.vrel (HX.out.below hbw))
 clear H5
 have H7 := Lib.hid (H6.out.krel (HY.out.below hbw))
 clear H6
 have HW := Lib.hid hW
 clear hW hbw hra hrk HX HY
 go_enter Tryz.func6, Tryz.ntmps6
 go_wp2_with fail
 rw [HW.out]
 refine (first8 W (H7.out.is.2.2.2.2.1)).mono ?_; rintro e w1 ⟨rfl, hb⟩
 have H8 := Lib.hid (H7.out.below hb)
 clear hb H7
 obtain ⟨xa0, xa1, xa2, xa3, xa4, xa5, xa6, xa7⟩ := row8 (H8.out.is.2.2.2.1)
 go_wp2_with fail
 refine (fewv_any x [.int .i64 k1, .string S1, .bool b1, .int .u64 n1, .slice lo1 ln1 lc1, .slice mo1 mn1 mc1, .string I1, .string U1] _ w1 HXL.out HXF.out (H8.out.is.2.1)).mono ?_; intro e w2 hpost
 obtain ⟨hb, bb, rfl, hvw⟩ := hpost
 have HVW := Lib.hid hvw
 clear hvw
 clear xa0 xa1 xa2 xa3 xa4 xa5 xa6 xa7
 have H9 := Lib.hid (H8.out.below hb)
 clear hb H8
 cases bb with
 | false =>
  go_wp2_with fail
  refine (first8 w2 (H9.out.is.2.2.2.2.1)).mono ?_; rintro e w9 ⟨rfl, hb⟩
  have H10 := Lib.hid (H9.out.below hb)
  clear hb H9
  go_wp2_with fail
  go_ret
  exact ⟨rfl, H10.out.is.2.2.2.2.2.1⟩
 | true =>
 obtain ⟨xk0, xk1, xk2, xk3, xk4, xk5, xk6, xk7, xk8, xk9, xk10⟩ := row11 (H9.out.is.2.2.1)
 obtain ⟨blfew, hbl⟩ : ∃ b, w2.heap.size = b := ⟨_, rfl⟩
 obtain ⟨W3, hW⟩ : ∃ W, w2.alloc (.cells #[.string K2, .bool h2, .int .i64 k2, .string S2, .bool b2, .int .u64 n2, .slice lo2 ln2 lc2, .slice mo2 mn2 mc2, .string I2, .string U2, .string Y2] 35) = W := ⟨_, rfl⟩
 have hb : Below w2.heap.size w2 W3 := by rw [← hW]; exact below_new _ _
 have hr : W3.heap[blfew]? = some (.cells #[.string K2, .bool h2, .int .i64 k2, .string S2, .bool b2, .int .u64 n2, .slice lo2 ln2 lc2, .slice mo2 mn2 mc2, .string I2, .string U2, .string Y2] 35 (0, 0)) := by rw [← hW, ← hbl]; exact new_row _ _ _
 have HWN := Lib.hid hW
 have HBN := Lib.hid hbl
 clear hW hbl
 have H10 := Lib.hid (H9.out.below hb)
 clear hb H9
 have H11 := Lib.hid (H10.out.row (hr))
 clear H10
 clear hr
 have HL3 := Lib.hid (krels_1 (H11.out.is.2.1) (H11.out.is.1))
 go_wp2_with fail
 rw [HWN.out, HBN.out]
 clear HWN HBN
 refine (fewk_any [y] (some ⟨blfew, 0, none⟩) 1 _ W3 (by simp) (by rw [kslim, kslim]; exact ⟨HYL.out, trivial⟩) (by rw [ksfit, ksfit]; exact ⟨HYF.out, trivial⟩) HL3.out).mono ?_; intro e w4 hpost
 obtain ⟨hb, bb, rfl, hkw⟩ := hpost
 have HKW := Lib.hid hkw
 clear hkw HL3
 clear xk0 xk1 xk2 xk3 xk4 xk5 xk6 xk7 xk8 xk9 xk10
 have H12 := Lib.hid (H11.out.below hb)
 clear hb H11
 cases bb with
 | false =>
  go_wp2_with fail
  refine (first8 w4 (H12.out.is.2.2.2.2.2.1)).mono ?_; rintro e w9 ⟨rfl, hb⟩
  have H13 := Lib.hid (H12.out.below hb)
  clear hb H12
  go_wp2_with fail
  go_ret
  exact ⟨rfl, H13.out.is.2.2.2.2.2.2.1⟩
 | true =>
 have HVL : Hid (vw x ≤ 8000) := Lib.hid (by first | exact HVW.out rfl | exact HVW.out trivial)
 have HKL : Hid (kw y ≤ 8000) := Lib.hid (by
  have h : ksw [y] ≤ 8000 := by first | exact HKW.out rfl | exact HKW.out trivial
  rwa [ksw_one] at h)
 clear HVW HKW
 by_cases hl0 : less < 0
 ·have q1 : decide (less < 0) = true := decide_eq_true hl0
  clear hl0
  go_wp2_with fail
  refine (first8 w4 (H12.out.is.2.2.2.2.2.1)).mono ?_; rintro e w9 ⟨rfl, hb⟩
  have H13 := Lib.hid (H12.out.below hb)
  clear hb H12
  go_wp2_with fail
  go_ret
  exact ⟨rfl, H13.out.is.2.2.2.2.2.2.1⟩
 have q1 : decide (less < 0) = false := decide_eq_false hl0
 by_cases hl1 : d < less
 ·have q2 : decide (d < less) = true := decide_eq_true hl1
  clear hl0 hl1
  go_wp2_with fail
  refine (first8 w4 (H12.out.is.2.2.2.2.2.1)).mono ?_; rintro e w9 ⟨rfl, hb⟩
  have H13 := Lib.hid (H12.out.below hb)
  clear hb H12
  go_wp2_with fail
  go_ret
  exact ⟨rfl, H13.out.is.2.2.2.2.2.2.1⟩
 have q2 : decide (d < less) = false := decide_eq_false hl1
 have HR0 : Hid (0 ≤ less ∧ less ≤ d) := Lib.hid (by omega)
 clear hl0 hl1
 obtain ⟨xa0, xa1, xa2, xa3, xa4, xa5, xa6, xa7⟩ := row8 (H12.out.is.2.2.2.2.1)
 go_wp2_with fail
 refine (vmarshal_any x [.int .i64 k1, .string S1, .bool b1, .int .u64 n1, .slice lo1 ln1 lc1, .slice mo1 mn1 mc1, .string I1, .string U1] _ d w4 HXF.out (H12.out.is.2.2.1) HD.out (by have := HVL.out; omega)).mono ?_; rintro e w5 ⟨hb, hcase⟩
 rw [HMAY.out] at hcase
 clear xa0 xa1 xa2 xa3 xa4 xa5 xa6 xa7
 have H13 := Lib.hid (H12.out.below hb)
 clear hb H12
 rw [if_pos rfl] at hcase
 subst hcase
 obtain ⟨SS, hSS⟩ : ∃ S : ByteArray, (⟨(vout x).toArray⟩ : ByteArray) = S := ⟨_, rfl⟩
 have HSS : Hid (SS.data.toList = vout x) := Lib.hid (by rw [← hSS])
 have HSZ : Hid (SS.size = (vout x).length) := Lib.hid (by rw [← hSS]; simp [ByteArray.size])
 have HSB : Hid (SS.size ≤ 100000) := Lib.hid (by rw [HSZ.out]; have := vout_le x; have := vw_vb x; have := HVL.out; omega)
 have HVM : Hid (vmay x d = true) := Lib.hid (by have h := HMAY.out; rw [vmayD] at h; simp only [Bool.and_eq_true] at h; exact h.2)
 have HU := Lib.hid (fun w' => (both_any 1000001 SS d w' (by have := HSB.out; omega) (by have := HSB.out; omega) HD.out).1)
 rw [HSS.out, vback x d 1000001 HXF.out (by have := HVL.out; omega) HVM.out (by have := HR0.out; omega) (by rw [← HSZ.out]; have := HSB.out; omega)] at HU
 rw [hSS]
 clear hSS
 go_wp2_with fail
 refine (HU.out w5).mono ?_; rintro e w6 ⟨hb, hcase⟩
 clear HU
 obtain ⟨cs, rfl, hrel⟩ := hcase
 obtain ⟨k3, S3, b3, n3, lo3, ln3, lc3, mo3, mn3, mc3, I3, U3, rfl⟩ := hrel.form
 have H14 := Lib.hid (H13.out.below hb)
 clear hb H13
 have H15 := Lib.hid (H14.out.vrel (hrel))
 clear H14
 clear hrel
 go_upto_region 8 with fail
 obtain ⟨blr3, hbl⟩ : ∃ b, w6.heap.size = b := ⟨_, rfl⟩
 obtain ⟨W7, hW⟩ : ∃ W, w6.alloc (.cells #[.int .i64 k3, .string S3, .bool b3, .int .u64 n3, .slice lo3 ln3 lc3, .slice mo3 mn3 mc3, .string I3, .string U3] 27) = W := ⟨_, rfl⟩
 have hb : Below w6.heap.size w6 W7 := by rw [← hW]; exact below_new _ _
 have hr : W7.heap[blr3]? = some (.cells #[.int .i64 k3, .string S3, .bool b3, .int .u64 n3, .slice lo3 ln3 lc3, .slice mo3 mn3 mc3, .string I3, .string U3] 27 (0, 0)) := by rw [← hW, ← hbl]; exact new_row _ _ _
 rw [hW, hbl]
 clear hW hbl
 have H16 := Lib.hid (H15.out.below hb)
 clear hb H15
 have H17 := Lib.hid (H16.out.row (hr))
 clear H16
 clear hr
 obtain ⟨xa0, xa1, xa2, xa3, xa4, xa5, xa6, xa7⟩ := row8 (H17.out.is.2.2.2.2.2.2.1)
 obtain ⟨xb0, xb1, xb2, xb3, xb4, xb5, xb6, xb7⟩ := row8 (H17.out.is.1)
 go_wp2_with fail
 refine (val_same x x _ _ _ _ W7 HXL.out (H17.out.is.2.2.2.2.1) (H17.out.is.2.1)).mono ?_; rintro e w8 ⟨rfl, hb⟩
 rw [alike_yes rfl]
 clear xa0 xa1 xa2 xa3 xa4 xa5 xa6 xa7 xb0 xb1 xb2 xb3 xb4 xb5 xb6 xb7
 have H18 := Lib.hid (H17.out.below hb)
 clear hb H17
 have q3 : IntKind.i64.wrap (d - less) = d - less := i64_wrap_id (by have := HR0.out; have := HD.out; omega) (by have := HR0.out; have := HD.out; omega)
 have HDL : Hid (-9223372036854775808 ≤ d - less ∧ d - less ≤ 9223372036854775807) := Lib.hid (by have := HR0.out; have := HD.out; omega)
 have HU := Lib.hid (fun w' => (both_any 1000001 SS (d - less) w' (by have := HSB.out; omega) (by have := HSB.out; omega) HDL.out).1)
 rw [HSS.out] at HU
 obtain ⟨c4, hc4⟩ := vback_no x d (d - less) 1000001 HXF.out (by have := HVL.out; omega) HVM.out (by have := HR0.out; omega) HLES.out (by rw [← HSZ.out]; have := HSB.out; omega)
 rw [hc4] at HU
 clear hc4
 go_wp2_with fail
 refine (HU.out w8).mono ?_; rintro e w10 ⟨hb, hcase⟩
 clear HU
 obtain ⟨v4, q4, rfl, _, hew⟩ := hcase
 obtain ⟨T4, y4, rfl⟩ := hew.iface
 clear hew
 unfold vzero
 have H19 := Lib.hid (H18.out.below hb)
 clear hb H18
 go_upto_region 11 with fail
 obtain ⟨blr4, hbl⟩ : ∃ b, w10.heap.size = b := ⟨_, rfl⟩
 obtain ⟨W11, hW⟩ : ∃ W, w10.alloc (.cells #[.int .i64 0, .string ⟨#[]⟩, .bool false, .int .u64 0, .slice none 0 0, .slice none 0 0, .string ⟨#[]⟩, .string ⟨#[]⟩] 27) = W := ⟨_, rfl⟩
 have hb : Below w10.heap.size w10 W11 := by rw [← hW]; exact below_new _ _
 have hr : W11.heap[blr4]? = some (.cells #[.int .i64 0, .string ⟨#[]⟩, .bool false, .int .u64 0, .slice none 0 0, .slice none 0 0, .string ⟨#[]⟩, .string ⟨#[]⟩] 27 (0, 0)) := by rw [← hW, ← hbl]; exact new_row _ _ _
 rw [hW, hbl]
 clear hW hbl
 have H20 := Lib.hid (H19.out.below hb)
 clear hb H19
 have H21 := Lib.hid (H20.out.row (hr))
 clear H20
 clear hr
 obtain ⟨D, hD⟩ : ∃ D, W11.drew = D := ⟨_, rfl⟩
 have hb : Below W11.heap.size W11 D := by rw [← hD]; exact (Below.refl _ _).drew
 have H22 := Lib.hid (H21.out.below hb)
 clear hb H21
 have hS : R2 w.heap.size #[.int .i64 k1, .string S1, .bool b1, .int .u64 n1, .slice lo1 ln1 lc1, .slice mo1 mn1 mc1, .string I1, .string U1] 27 blr4 #[.int .i64 0, .string ⟨#[]⟩, .bool false, .int .u64 0, .slice none 0 0, .slice none 0 0, .string ⟨#[]⟩, .string ⟨#[]⟩] 27 D := ⟨H22.out.is.2.2.2.2.2.2.2.1, H22.out.is.1⟩
 have hne : Nonempty {w' : World // R2 w.heap.size #[.int .i64 k1, .string S1, .bool b1, .int .u64 n1, .slice lo1 ln1 lc1, .slice mo1 mn1 mc1, .string I1, .string U1] 27 blr4 #[.int .i64 0, .string ⟨#[]⟩, .bool false, .int .u64 0, .slice none 0 0, .slice none 0 0, .string ⟨#[]⟩, .string ⟨#[]⟩] 27 w'} := ⟨⟨_, hS⟩⟩
 refine wp_region_seq (S := R2 w.heap.size #[.int .i64 k1, .string S1, .bool b1, .int .u64 n1, .slice lo1 ln1 lc1, .slice mo1 mn1 mc1, .string I1, .string U1] 27 blr4 #[.int .i64 0, .string ⟨#[]⟩, .bool false, .int .u64 0, .slice none 0 0, .slice none 0 0, .string ⟨#[]⟩, .string ⟨#[]⟩] 27) [(0, true), (1, true), (2, true), (3, true), (4, true), (5, true), (6, false), (7, true), (8, true), (9, true), (10, true), (11, true), (12, true), (13, true), (14, false), (15, true), (16, true), (17, true)] (by kernel_rfl) (by kernel_rfl) (by kernel_rfl) (by kernel_rfl) (by rw [hD]; exact hS) ?_
 rw [hD]
 clear hD
 iterate 2 (refine seq_take _ rfl (fun KC hK => ?_); go_simp; (first | refine hK _ ?_ | refine ⟨_, fun _ _ => rfl, hK _ ?_⟩); clear hK KC)
 refine seq_take _ rfl (fun KC hK => ?_); go_simp
 refine ⟨.agg #[.int .i64 k1, .string S1, .bool b1, .int .u64 n1, .slice lo1 ln1 lc1, .slice mo1 mn1 mc1, .string I1, .string U1], fun a ha => by obtain ⟨p0, p1, p2, p3, p4, p5, p6, p7⟩ := row8 ha.1; simp only [p0, p1, p2, p3, p4, p5, p6, p7, Result.andThen], hK _ ?_⟩
 clear hK KC
 iterate 3 (refine seq_take _ rfl (fun KC hK => ?_); go_simp; (first | refine hK _ ?_ | refine ⟨_, fun _ _ => rfl, hK _ ?_⟩); clear hK KC)
 refine seq_come _ rfl (fun KC hK => ?_); go_simp
 refine (vmay_any x [.int .i64 k1, .string S1, .bool b1, .int .u64 n1, .slice lo1 ln1 lc1, .slice mo1 mn1 mc1, .string I1, .string U1] _ (d - less) D HXF.out (H22.out.is.2.2.2.2.2.1) HDL.out (by have := HVL.out; omega)).mono ?_; rintro e w12 ⟨rfl, hb⟩
 rw [HLES.out]
 have hS12 := hS.below hb
 have H23 := Lib.hid (H22.out.below hb)
 clear hb H22
 go_simp; refine hK.out _ _ hS12 ?_; clear hK KC
 iterate 7 (refine seq_take _ rfl (fun KC hK => ?_); go_simp; (first | refine hK _ ?_ | refine ⟨_, fun _ _ => rfl, hK _ ?_⟩); clear hK KC)
 refine seq_come _ rfl (fun KC hK => ?_); go_simp
 refine hK.out _ _ hS12 ?_; clear hK KC
 iterate 3 (refine seq_take _ rfl (fun KC hK => ?_); go_simp; (first | refine hK _ ?_ | refine ⟨_, fun _ _ => rfl, hK _ ?_⟩); clear hK KC)
 refine seq_done ?_
 clear hne hS hS12
 obtain ⟨xk0, xk1, xk2, xk3, xk4, xk5, xk6, xk7, xk8, xk9, xk10⟩ := row11 (H23.out.is.2.2.2.2.2.2.1)
 go_wp2_with fail
 refine (kmarshal_any y [.string K2, .bool h2, .int .i64 k2, .string S2, .bool b2, .int .u64 n2, .slice lo2 ln2 lc2, .slice mo2 mn2 mc2, .string I2, .string U2, .string Y2] _ d w12 HYF.out (H23.out.is.2.2.2.2.1) HD.out (by have := HKL.out; omega)).mono ?_; rintro e w14 ⟨hb, hcase⟩
 rw [HCAN.out] at hcase
 clear xk0 xk1 xk2 xk3 xk4 xk5 xk6 xk7 xk8 xk9 xk10
 have H24 := Lib.hid (H23.out.below hb)
 clear hb H23
 rw [if_pos rfl] at hcase
 subst hcase
 obtain ⟨TT, hTT⟩ : ∃ S : ByteArray, (⟨(kout y).toArray⟩ : ByteArray) = S := ⟨_, rfl⟩
 have HTT : Hid (TT.data.toList = kout y) := Lib.hid (by rw [← hTT])
 have HTZ : Hid (TT.size = (kout y).length) := Lib.hid (by rw [← hTT]; simp [ByteArray.size])
 have HTB : Hid (TT.size ≤ 100000) := Lib.hid (by rw [HTZ.out]; have := kout_le y; have := kw_kb y; have := HKL.out; omega)
 have HKM : Hid (kmay y d = true) := Lib.hid (by have h := HCAN.out; rw [kmayD] at h; simp only [Bool.and_eq_true] at h; exact h.2)
 have HU := Lib.hid (fun w' => (both_any 1000001 TT d w' (by have := HTB.out; omega) (by have := HTB.out; omega) HD.out).2)
 rw [HTT.out, kback y d 1000001 HYF.out (by have := HKL.out; omega) HKM.out (by have := HR0.out; omega) (by rw [← HTZ.out]; have := HTB.out; omega)] at HU
 rw [hTT]
 clear hTT
 go_wp2_with fail
 refine (HU.out w14).mono ?_; rintro e w15 ⟨hb, hcase⟩
 clear HU
 obtain ⟨cs, rfl, hrel⟩ := hcase
 obtain ⟨K5, h5, k5, S5, b5, n5, lo5, ln5, lc5, mo5, mn5, mc5, I5, U5, Y5, rfl⟩ := hrel.form
 have H25 := Lib.hid (H24.out.below hb)
 clear hb H24
 have H26 := Lib.hid (H25.out.krel (hrel))
 clear H25
 clear hrel
 go_upto_region 17 with fail
 obtain ⟨blr5, hbl⟩ : ∃ b, w15.heap.size = b := ⟨_, rfl⟩
 obtain ⟨W16, hW⟩ : ∃ W, w15.alloc (.cells #[.string K5, .bool h5, .int .i64 k5, .string S5, .bool b5, .int .u64 n5, .slice lo5 ln5 lc5, .slice mo5 mn5 mc5, .string I5, .string U5, .string Y5] 35) = W := ⟨_, rfl⟩
 have hb : Below w15.heap.size w15 W16 := by rw [← hW]; exact below_new _ _
 have hr : W16.heap[blr5]? = some (.cells #[.string K5, .bool h5, .int .i64 k5, .string S5, .bool b5, .int .u64 n5, .slice lo5 ln5 lc5, .slice mo5 mn5 mc5, .string I5, .string U5, .string Y5] 35 (0, 0)) := by rw [← hW, ← hbl]; exact new_row _ _ _
 rw [hW, hbl]
 clear hW hbl
 have H27 := Lib.hid (H26.out.below hb)
 clear hb H26
 have H28 := Lib.hid (H27.out.row (hr))
 clear H27
 clear hr
 go_wp2_with fail
 refine (first8 W16 (H28.out.is.2.2.2.2.2.2.2.2.2.2.1)).mono ?_; rintro e w17 ⟨rfl, hb⟩
 have H29 := Lib.hid (H28.out.below hb)
 clear hb H28
 obtain ⟨xk0, xk1, xk2, xk3, xk4, xk5, xk6, xk7, xk8, xk9, xk10⟩ := row11 (H29.out.is.2.2.2.2.2.2.2.2.1)
 obtain ⟨xl0, xl1, xl2, xl3, xl4, xl5, xl6, xl7, xl8, xl9, xl10⟩ := row11 (H29.out.is.1)
 go_wp2_with fail
 refine (key_same y y _ _ _ _ w17 HYL.out (H29.out.is.2.2.2.2.2.2.1) (H29.out.is.2.1)).mono ?_; rintro e w18 ⟨rfl, hb⟩
 rw [alike_yes rfl]
 clear xk0 xk1 xk2 xk3 xk4 xk5 xk6 xk7 xk8 xk9 xk10 xl0 xl1 xl2 xl3 xl4 xl5 xl6 xl7 xl8 xl9 xl10
 have H30 := Lib.hid (H29.out.below hb)
 clear hb H29
 go_wp2_with fail
 go_ret
 exact ⟨rfl, H30.out.is.2.2.2.2.2.2.2.2.2.2.2.1⟩
set_option maxRecDepth 1000000 in
set_option maxHeartbeats 16000000 in
theorem vbackl_TFF (x : Val) (y : KV) (ca ck : List Value) (d less : Int) (w : World) (hg : Glob w) (hxl : vlim x) (hxf : vfit x) (hx : VRel w (fun k => k < w.heap.size) x ca) (hyl : klim y) (hyf : kfit y) (hy : KRel w (fun k => k < w.heap.size) y ck) (hd : -9223372036854775808 ≤ d ∧ d ≤ 9223372036854775807) (hle : -9223372036854775808 ≤ less ∧ less ≤ 9223372036854775807) (hmay : vmayD x d = true) (hles : vmayD x (d - less) = false) (hcan : kmayD y d = false) :
 Calls Tryz.prog 6 #[.agg ca.toArray, .agg ck.toArray, .int .i64 d, .int .i64 less] w fun e w' => e = .returned (.bool true) ∧ Below w.heap.size w w' := by
 have HG := Lib.hid hg
 have HX := Lib.hid hx
 have HY := Lib.hid hy
 have HXL := Lib.hid hxl
 have HXF := Lib.hid hxf
 have HYL := Lib.hid hyl
 have HYF := Lib.hid hyf
 have HD := Lib.hid hd
 have HLE := Lib.hid hle
 have HMAY := Lib.hid hmay
 have HCAN := Lib.hid hcan
 have HLES := Lib.hid hles
 obtain ⟨k1, S1, b1, n1, lo1, ln1, lc1, mo1, mn1, mc1, I1, U1, rfl⟩ := hx.form
 obtain ⟨K2, h2, k2, S2, b2, n2, lo2, ln2, lc2, mo2, mn2, mc2, I2, U2, Y2, rfl⟩ := hy.form
 clear hg hxl hxf hx hyl hyf hy hd hle hmay hcan hles
 obtain ⟨W, hW⟩ : ∃ W, (w.alloc (.cells #[.int .i64 k1, .string S1, .bool b1, .int .u64 n1, .slice lo1 ln1 lc1, .slice mo1 mn1 mc1, .string I1, .string U1] 27)).alloc (.cells #[.string K2, .bool h2, .int .i64 k2, .string S2, .bool b2, .int .u64 n2, .slice lo2 ln2 lc2, .slice mo2 mn2 mc2, .string I2, .string U2, .string Y2] 35) = W := ⟨_, rfl⟩
 have hbw : Below w.heap.size w W := by rw [← hW]; exact below_step (below_new _ _) (below_new _ _)
 have hra : W.heap[w.heap.size]? = some (.cells #[.int .i64 k1, .string S1, .bool b1, .int .u64 n1, .slice lo1 ln1 lc1, .slice mo1 mn1 mc1, .string I1, .string U1] 27 (0, 0)) := by rw [← hW]; exact (Below.heap_alloc _ _ _ (by simp)).trans (heap_alloc_new w _)
 have hrk : W.heap[w.heap.size + 1]? = some (.cells #[.string K2, .bool h2, .int .i64 k2, .string S2, .bool b2, .int .u64 n2, .slice lo2 ln2 lc2, .slice mo2 mn2 mc2, .string I2, .string U2, .string Y2] 35 (0, 0)) := by rw [← hW]; have := heap_alloc_new (w.alloc (.cells #[.int .i64 k1, .string S1, .bool b1, .int .u64 n1, .slice lo1 ln1 lc1, .slice mo1 mn1 mc1, .string I1, .string U1] 27)) (.cells #[.string K2, .bool h2, .int .i64 k2, .string S2, .bool b2, .int .u64 n2, .slice lo2 ln2 lc2, .slice mo2 mn2 mc2, .string I2, .string U2, .string Y2] 35); simpa using this
 have H1 := Lib.hid (Fx.nil W)
 have H2 := Lib.hid (H1.out.base (hbw))
 clear H1
 have H3 := Lib.hid (H2.out.glob (HG.out.below hbw))
 clear H2
 have H4 := Lib.hid (H3.out.row (hra))
 clear H3
 have H5 := Lib.hid (H4.out.row (hrk))
 clear H4
 have H6 := Lib.hid (H5.out.vrel (HX.out.below hbw))
 clear H5
 have H7 := Lib.hid (H6.out.krel (HY.out.below hbw))
 clear H6
 have HW := Lib.hid hW
 clear hW hbw hra hrk HX HY
 go_enter Tryz.func6, Tryz.ntmps6
 go_wp2_with fail
 rw [HW.out]
 refine (first8 W (H7.out.is.2.2.2.2.1)).mono ?_; rintro e w1 ⟨rfl, hb⟩
 have H8 := Lib.hid (H7.out.below hb)
 clear hb H7
 obtain ⟨xa0, xa1, xa2, xa3, xa4, xa5, xa6, xa7⟩ := row8 (H8.out.is.2.2.2.1)
 go_wp2_with fail
 refine (fewv_any x [.int .i64 k1, .string S1, .bool b1, .int .u64 n1, .slice lo1 ln1 lc1, .slice mo1 mn1 mc1, .string I1, .string U1] _ w1 HXL.out HXF.out (H8.out.is.2.1)).mono ?_; intro e w2 hpost
 obtain ⟨hb, bb, rfl, hvw⟩ := hpost
 have HVW := Lib.hid hvw
 clear hvw
 clear xa0 xa1 xa2 xa3 xa4 xa5 xa6 xa7
 have H9 := Lib.hid (H8.out.below hb)
 clear hb H8
 cases bb with
 | false =>
  go_wp2_with fail
  refine (first8 w2 (H9.out.is.2.2.2.2.1)).mono ?_; rintro e w9 ⟨rfl, hb⟩
  have H10 := Lib.hid (H9.out.below hb)
  clear hb H9
  go_wp2_with fail
  go_ret
  exact ⟨rfl, H10.out.is.2.2.2.2.2.1⟩
 | true =>
 obtain ⟨xk0, xk1, xk2, xk3, xk4, xk5, xk6, xk7, xk8, xk9, xk10⟩ := row11 (H9.out.is.2.2.1)
 obtain ⟨blfew, hbl⟩ : ∃ b, w2.heap.size = b := ⟨_, rfl⟩
 obtain ⟨W3, hW⟩ : ∃ W, w2.alloc (.cells #[.string K2, .bool h2, .int .i64 k2, .string S2, .bool b2, .int .u64 n2, .slice lo2 ln2 lc2, .slice mo2 mn2 mc2, .string I2, .string U2, .string Y2] 35) = W := ⟨_, rfl⟩
 have hb : Below w2.heap.size w2 W3 := by rw [← hW]; exact below_new _ _
 have hr : W3.heap[blfew]? = some (.cells #[.string K2, .bool h2, .int .i64 k2, .string S2, .bool b2, .int .u64 n2, .slice lo2 ln2 lc2, .slice mo2 mn2 mc2, .string I2, .string U2, .string Y2] 35 (0, 0)) := by rw [← hW, ← hbl]; exact new_row _ _ _
 have HWN := Lib.hid hW
 have HBN := Lib.hid hbl
 clear hW hbl
 have H10 := Lib.hid (H9.out.below hb)
 clear hb H9
 have H11 := Lib.hid (H10.out.row (hr))
 clear H10
 clear hr
 have HL3 := Lib.hid (krels_1 (H11.out.is.2.1) (H11.out.is.1))
 go_wp2_with fail
 rw [HWN.out, HBN.out]
 clear HWN HBN
 refine (fewk_any [y] (some ⟨blfew, 0, none⟩) 1 _ W3 (by simp) (by rw [kslim, kslim]; exact ⟨HYL.out, trivial⟩) (by rw [ksfit, ksfit]; exact ⟨HYF.out, trivial⟩) HL3.out).mono ?_; intro e w4 hpost
 obtain ⟨hb, bb, rfl, hkw⟩ := hpost
 have HKW := Lib.hid hkw
 clear hkw HL3
 clear xk0 xk1 xk2 xk3 xk4 xk5 xk6 xk7 xk8 xk9 xk10
 have H12 := Lib.hid (H11.out.below hb)
 clear hb H11
 cases bb with
 | false =>
  go_wp2_with fail
  refine (first8 w4 (H12.out.is.2.2.2.2.2.1)).mono ?_; rintro e w9 ⟨rfl, hb⟩
  have H13 := Lib.hid (H12.out.below hb)
  clear hb H12
  go_wp2_with fail
  go_ret
  exact ⟨rfl, H13.out.is.2.2.2.2.2.2.1⟩
 | true =>
 have HVL : Hid (vw x ≤ 8000) := Lib.hid (by first | exact HVW.out rfl | exact HVW.out trivial)
 have HKL : Hid (kw y ≤ 8000) := Lib.hid (by
  have h : ksw [y] ≤ 8000 := by first | exact HKW.out rfl | exact HKW.out trivial
  rwa [ksw_one] at h)
 clear HVW HKW
 by_cases hl0 : less < 0
 ·have q1 : decide (less < 0) = true := decide_eq_true hl0
  clear hl0
  go_wp2_with fail
  refine (first8 w4 (H12.out.is.2.2.2.2.2.1)).mono ?_; rintro e w9 ⟨rfl, hb⟩
  have H13 := Lib.hid (H12.out.below hb)
  clear hb H12
  go_wp2_with fail
  go_ret
  exact ⟨rfl, H13.out.is.2.2.2.2.2.2.1⟩
 have q1 : decide (less < 0) = false := decide_eq_false hl0
 by_cases hl1 : d < less
 ·have q2 : decide (d < less) = true := decide_eq_true hl1
  clear hl0 hl1
  go_wp2_with fail
  refine (first8 w4 (H12.out.is.2.2.2.2.2.1)).mono ?_; rintro e w9 ⟨rfl, hb⟩
  have H13 := Lib.hid (H12.out.below hb)
  clear hb H12
  go_wp2_with fail
  go_ret
  exact ⟨rfl, H13.out.is.2.2.2.2.2.2.1⟩
 have q2 : decide (d < less) = false := decide_eq_false hl1
 have HR0 : Hid (0 ≤ less ∧ less ≤ d) := Lib.hid (by omega)
 clear hl0 hl1
 obtain ⟨xa0, xa1, xa2, xa3, xa4, xa5, xa6, xa7⟩ := row8 (H12.out.is.2.2.2.2.1)
 go_wp2_with fail
 refine (vmarshal_any x [.int .i64 k1, .string S1, .bool b1, .int .u64 n1, .slice lo1 ln1 lc1, .slice mo1 mn1 mc1, .string I1, .string U1] _ d w4 HXF.out (H12.out.is.2.2.1) HD.out (by have := HVL.out; omega)).mono ?_; rintro e w5 ⟨hb, hcase⟩
 rw [HMAY.out] at hcase
 clear xa0 xa1 xa2 xa3 xa4 xa5 xa6 xa7
 have H13 := Lib.hid (H12.out.below hb)
 clear hb H12
 rw [if_pos rfl] at hcase
 subst hcase
 obtain ⟨SS, hSS⟩ : ∃ S : ByteArray, (⟨(vout x).toArray⟩ : ByteArray) = S := ⟨_, rfl⟩
 have HSS : Hid (SS.data.toList = vout x) := Lib.hid (by rw [← hSS])
 have HSZ : Hid (SS.size = (vout x).length) := Lib.hid (by rw [← hSS]; simp [ByteArray.size])
 have HSB : Hid (SS.size ≤ 100000) := Lib.hid (by rw [HSZ.out]; have := vout_le x; have := vw_vb x; have := HVL.out; omega)
 have HVM : Hid (vmay x d = true) := Lib.hid (by have h := HMAY.out; rw [vmayD] at h; simp only [Bool.and_eq_true] at h; exact h.2)
 have HU := Lib.hid (fun w' => (both_any 1000001 SS d w' (by have := HSB.out; omega) (by have := HSB.out; omega) HD.out).1)
 rw [HSS.out, vback x d 1000001 HXF.out (by have := HVL.out; omega) HVM.out (by have := HR0.out; omega) (by rw [← HSZ.out]; have := HSB.out; omega)] at HU
 rw [hSS]
 clear hSS
 go_wp2_with fail
 refine (HU.out w5).mono ?_; rintro e w6 ⟨hb, hcase⟩
 clear HU
 obtain ⟨cs, rfl, hrel⟩ := hcase
 obtain ⟨k3, S3, b3, n3, lo3, ln3, lc3, mo3, mn3, mc3, I3, U3, rfl⟩ := hrel.form
 have H14 := Lib.hid (H13.out.below hb)
 clear hb H13
 have H15 := Lib.hid (H14.out.vrel (hrel))
 clear H14
 clear hrel
 go_upto_region 8 with fail
 obtain ⟨blr3, hbl⟩ : ∃ b, w6.heap.size = b := ⟨_, rfl⟩
 obtain ⟨W7, hW⟩ : ∃ W, w6.alloc (.cells #[.int .i64 k3, .string S3, .bool b3, .int .u64 n3, .slice lo3 ln3 lc3, .slice mo3 mn3 mc3, .string I3, .string U3] 27) = W := ⟨_, rfl⟩
 have hb : Below w6.heap.size w6 W7 := by rw [← hW]; exact below_new _ _
 have hr : W7.heap[blr3]? = some (.cells #[.int .i64 k3, .string S3, .bool b3, .int .u64 n3, .slice lo3 ln3 lc3, .slice mo3 mn3 mc3, .string I3, .string U3] 27 (0, 0)) := by rw [← hW, ← hbl]; exact new_row _ _ _
 rw [hW, hbl]
 clear hW hbl
 have H16 := Lib.hid (H15.out.below hb)
 clear hb H15
 have H17 := Lib.hid (H16.out.row (hr))
 clear H16
 clear hr
 obtain ⟨xa0, xa1, xa2, xa3, xa4, xa5, xa6, xa7⟩ := row8 (H17.out.is.2.2.2.2.2.2.1)
 obtain ⟨xb0, xb1, xb2, xb3, xb4, xb5, xb6, xb7⟩ := row8 (H17.out.is.1)
 go_wp2_with fail
 refine (val_same x x _ _ _ _ W7 HXL.out (H17.out.is.2.2.2.2.1) (H17.out.is.2.1)).mono ?_; rintro e w8 ⟨rfl, hb⟩
 rw [alike_yes rfl]
 clear xa0 xa1 xa2 xa3 xa4 xa5 xa6 xa7 xb0 xb1 xb2 xb3 xb4 xb5 xb6 xb7
 have H18 := Lib.hid (H17.out.below hb)
 clear hb H17
 have q3 : IntKind.i64.wrap (d - less) = d - less := i64_wrap_id (by have := HR0.out; have := HD.out; omega) (by have := HR0.out; have := HD.out; omega)
 have HDL : Hid (-9223372036854775808 ≤ d - less ∧ d - less ≤ 9223372036854775807) := Lib.hid (by have := HR0.out; have := HD.out; omega)
 have HU := Lib.hid (fun w' => (both_any 1000001 SS (d - less) w' (by have := HSB.out; omega) (by have := HSB.out; omega) HDL.out).1)
 rw [HSS.out] at HU
 obtain ⟨c4, hc4⟩ := vback_no x d (d - less) 1000001 HXF.out (by have := HVL.out; omega) HVM.out (by have := HR0.out; omega) HLES.out (by rw [← HSZ.out]; have := HSB.out; omega)
 rw [hc4] at HU
 clear hc4
 go_wp2_with fail
 refine (HU.out w8).mono ?_; rintro e w10 ⟨hb, hcase⟩
 clear HU
 obtain ⟨v4, q4, rfl, _, hew⟩ := hcase
 obtain ⟨T4, y4, rfl⟩ := hew.iface
 clear hew
 unfold vzero
 have H19 := Lib.hid (H18.out.below hb)
 clear hb H18
 go_upto_region 11 with fail
 obtain ⟨blr4, hbl⟩ : ∃ b, w10.heap.size = b := ⟨_, rfl⟩
 obtain ⟨W11, hW⟩ : ∃ W, w10.alloc (.cells #[.int .i64 0, .string ⟨#[]⟩, .bool false, .int .u64 0, .slice none 0 0, .slice none 0 0, .string ⟨#[]⟩, .string ⟨#[]⟩] 27) = W := ⟨_, rfl⟩
 have hb : Below w10.heap.size w10 W11 := by rw [← hW]; exact below_new _ _
 have hr : W11.heap[blr4]? = some (.cells #[.int .i64 0, .string ⟨#[]⟩, .bool false, .int .u64 0, .slice none 0 0, .slice none 0 0, .string ⟨#[]⟩, .string ⟨#[]⟩] 27 (0, 0)) := by rw [← hW, ← hbl]; exact new_row _ _ _
 rw [hW, hbl]
 clear hW hbl
 have H20 := Lib.hid (H19.out.below hb)
 clear hb H19
 have H21 := Lib.hid (H20.out.row (hr))
 clear H20
 clear hr
 obtain ⟨D, hD⟩ : ∃ D, W11.drew = D := ⟨_, rfl⟩
 have hb : Below W11.heap.size W11 D := by rw [← hD]; exact (Below.refl _ _).drew
 have H22 := Lib.hid (H21.out.below hb)
 clear hb H21
 have hS : R2 w.heap.size #[.int .i64 k1, .string S1, .bool b1, .int .u64 n1, .slice lo1 ln1 lc1, .slice mo1 mn1 mc1, .string I1, .string U1] 27 blr4 #[.int .i64 0, .string ⟨#[]⟩, .bool false, .int .u64 0, .slice none 0 0, .slice none 0 0, .string ⟨#[]⟩, .string ⟨#[]⟩] 27 D := ⟨H22.out.is.2.2.2.2.2.2.2.1, H22.out.is.1⟩
 have hne : Nonempty {w' : World // R2 w.heap.size #[.int .i64 k1, .string S1, .bool b1, .int .u64 n1, .slice lo1 ln1 lc1, .slice mo1 mn1 mc1, .string I1, .string U1] 27 blr4 #[.int .i64 0, .string ⟨#[]⟩, .bool false, .int .u64 0, .slice none 0 0, .slice none 0 0, .string ⟨#[]⟩, .string ⟨#[]⟩] 27 w'} := ⟨⟨_, hS⟩⟩
 refine wp_region_seq (S := R2 w.heap.size #[.int .i64 k1, .string S1, .bool b1, .int .u64 n1, .slice lo1 ln1 lc1, .slice mo1 mn1 mc1, .string I1, .string U1] 27 blr4 #[.int .i64 0, .string ⟨#[]⟩, .bool false, .int .u64 0, .slice none 0 0, .slice none 0 0, .string ⟨#[]⟩, .string ⟨#[]⟩] 27) [(0, true), (1, true), (2, true), (3, true), (4, true), (5, true), (6, false), (7, true), (8, true), (9, true), (10, true), (11, true), (12, true), (13, true), (14, false), (15, true), (16, true), (17, true)] (by kernel_rfl) (by kernel_rfl) (by kernel_rfl) (by kernel_rfl) (by rw [hD]; exact hS) ?_
 rw [hD]
 clear hD
 iterate 2 (refine seq_take _ rfl (fun KC hK => ?_); go_simp; (first | refine hK _ ?_ | refine ⟨_, fun _ _ => rfl, hK _ ?_⟩); clear hK KC)
 refine seq_take _ rfl (fun KC hK => ?_); go_simp
 refine ⟨.agg #[.int .i64 k1, .string S1, .bool b1, .int .u64 n1, .slice lo1 ln1 lc1, .slice mo1 mn1 mc1, .string I1, .string U1], fun a ha => by obtain ⟨p0, p1, p2, p3, p4, p5, p6, p7⟩ := row8 ha.1; simp only [p0, p1, p2, p3, p4, p5, p6, p7, Result.andThen], hK _ ?_⟩
 clear hK KC
 iterate 3 (refine seq_take _ rfl (fun KC hK => ?_); go_simp; (first | refine hK _ ?_ | refine ⟨_, fun _ _ => rfl, hK _ ?_⟩); clear hK KC)
 refine seq_come _ rfl (fun KC hK => ?_); go_simp
 refine (vmay_any x [.int .i64 k1, .string S1, .bool b1, .int .u64 n1, .slice lo1 ln1 lc1, .slice mo1 mn1 mc1, .string I1, .string U1] _ (d - less) D HXF.out (H22.out.is.2.2.2.2.2.1) HDL.out (by have := HVL.out; omega)).mono ?_; rintro e w12 ⟨rfl, hb⟩
 rw [HLES.out]
 have hS12 := hS.below hb
 have H23 := Lib.hid (H22.out.below hb)
 clear hb H22
 go_simp; refine hK.out _ _ hS12 ?_; clear hK KC
 iterate 7 (refine seq_take _ rfl (fun KC hK => ?_); go_simp; (first | refine hK _ ?_ | refine ⟨_, fun _ _ => rfl, hK _ ?_⟩); clear hK KC)
 refine seq_come _ rfl (fun KC hK => ?_); go_simp
 refine hK.out _ _ hS12 ?_; clear hK KC
 iterate 3 (refine seq_take _ rfl (fun KC hK => ?_); go_simp; (first | refine hK _ ?_ | refine ⟨_, fun _ _ => rfl, hK _ ?_⟩); clear hK KC)
 refine seq_done ?_
 clear hne hS hS12
 obtain ⟨xk0, xk1, xk2, xk3, xk4, xk5, xk6, xk7, xk8, xk9, xk10⟩ := row11 (H23.out.is.2.2.2.2.2.2.1)
 go_wp2_with fail
 refine (kmarshal_any y [.string K2, .bool h2, .int .i64 k2, .string S2, .bool b2, .int .u64 n2, .slice lo2 ln2 lc2, .slice mo2 mn2 mc2, .string I2, .string U2, .string Y2] _ d w12 HYF.out (H23.out.is.2.2.2.2.1) HD.out (by have := HKL.out; omega)).mono ?_; rintro e w14 ⟨hb, hcase⟩
 rw [HCAN.out] at hcase
 clear xk0 xk1 xk2 xk3 xk4 xk5 xk6 xk7 xk8 xk9 xk10
 have H24 := Lib.hid (H23.out.below hb)
 clear hb H23
 rw [if_neg (by simp)] at hcase
 obtain ⟨v, rfl, hec⟩ := hcase
 obtain ⟨T8, y8, rfl⟩ := hec.iface
 clear hec
 go_wp2_with fail
 refine (first8 w14 (H24.out.is.2.2.2.2.2.2.2.2.1)).mono ?_; rintro e w18 ⟨rfl, hb⟩
 have H25 := Lib.hid (H24.out.below hb)
 clear hb H24
 go_wp2_with fail
 go_ret
 exact ⟨rfl, H25.out.is.2.2.2.2.2.2.2.2.2.1⟩
set_option maxRecDepth 1000000 in
set_option maxHeartbeats 16000000 in
theorem vbackl_FT (x : Val) (y : KV) (ca ck : List Value) (d less : Int) (w : World) (hg : Glob w) (hxl : vlim x) (hxf : vfit x) (hx : VRel w (fun k => k < w.heap.size) x ca) (hyl : klim y) (hyf : kfit y) (hy : KRel w (fun k => k < w.heap.size) y ck) (hd : -9223372036854775808 ≤ d ∧ d ≤ 9223372036854775807) (hle : -9223372036854775808 ≤ less ∧ less ≤ 9223372036854775807) (hmay : vmayD x d = false) (hcan : kmayD y d = true) :
 Calls Tryz.prog 6 #[.agg ca.toArray, .agg ck.toArray, .int .i64 d, .int .i64 less] w fun e w' => e = .returned (.bool true) ∧ Below w.heap.size w w' := by
 have HG := Lib.hid hg
 have HX := Lib.hid hx
 have HY := Lib.hid hy
 have HXL := Lib.hid hxl
 have HXF := Lib.hid hxf
 have HYL := Lib.hid hyl
 have HYF := Lib.hid hyf
 have HD := Lib.hid hd
 have HLE := Lib.hid hle
 have HMAY := Lib.hid hmay
 have HCAN := Lib.hid hcan
 obtain ⟨k1, S1, b1, n1, lo1, ln1, lc1, mo1, mn1, mc1, I1, U1, rfl⟩ := hx.form
 obtain ⟨K2, h2, k2, S2, b2, n2, lo2, ln2, lc2, mo2, mn2, mc2, I2, U2, Y2, rfl⟩ := hy.form
 clear hg hxl hxf hx hyl hyf hy hd hle hmay hcan
 obtain ⟨W, hW⟩ : ∃ W, (w.alloc (.cells #[.int .i64 k1, .string S1, .bool b1, .int .u64 n1, .slice lo1 ln1 lc1, .slice mo1 mn1 mc1, .string I1, .string U1] 27)).alloc (.cells #[.string K2, .bool h2, .int .i64 k2, .string S2, .bool b2, .int .u64 n2, .slice lo2 ln2 lc2, .slice mo2 mn2 mc2, .string I2, .string U2, .string Y2] 35) = W := ⟨_, rfl⟩
 have hbw : Below w.heap.size w W := by rw [← hW]; exact below_step (below_new _ _) (below_new _ _)
 have hra : W.heap[w.heap.size]? = some (.cells #[.int .i64 k1, .string S1, .bool b1, .int .u64 n1, .slice lo1 ln1 lc1, .slice mo1 mn1 mc1, .string I1, .string U1] 27 (0, 0)) := by rw [← hW]; exact (Below.heap_alloc _ _ _ (by simp)).trans (heap_alloc_new w _)
 have hrk : W.heap[w.heap.size + 1]? = some (.cells #[.string K2, .bool h2, .int .i64 k2, .string S2, .bool b2, .int .u64 n2, .slice lo2 ln2 lc2, .slice mo2 mn2 mc2, .string I2, .string U2, .string Y2] 35 (0, 0)) := by rw [← hW]; have := heap_alloc_new (w.alloc (.cells #[.int .i64 k1, .string S1, .bool b1, .int .u64 n1, .slice lo1 ln1 lc1, .slice mo1 mn1 mc1, .string I1, .string U1] 27)) (.cells #[.string K2, .bool h2, .int .i64 k2, .string S2, .bool b2, .int .u64 n2, .slice lo2 ln2 lc2, .slice mo2 mn2 mc2, .string I2, .string U2, .string Y2] 35); simpa using this
 have H1 := Lib.hid (Fx.nil W)
 have H2 := Lib.hid (H1.out.base (hbw))
 clear H1
 have H3 := Lib.hid (H2.out.glob (HG.out.below hbw))
 clear H2
 have H4 := Lib.hid (H3.out.row (hra))
 clear H3
 have H5 := Lib.hid (H4.out.row (hrk))
 clear H4
 have H6 := Lib.hid (H5.out.vrel (HX.out.below hbw))
 clear H5
 have H7 := Lib.hid (H6.out.krel (HY.out.below hbw))
 clear H6
 have HW := Lib.hid hW
 clear hW hbw hra hrk HX HY
 go_enter Tryz.func6, Tryz.ntmps6
 go_wp2_with fail
 rw [HW.out]
 refine (first8 W (H7.out.is.2.2.2.2.1)).mono ?_; rintro e w1 ⟨rfl, hb⟩
 have H8 := Lib.hid (H7.out.below hb)
 clear hb H7
 obtain ⟨xa0, xa1, xa2, xa3, xa4, xa5, xa6, xa7⟩ := row8 (H8.out.is.2.2.2.1)
 go_wp2_with fail
 refine (fewv_any x [.int .i64 k1, .string S1, .bool b1, .int .u64 n1, .slice lo1 ln1 lc1, .slice mo1 mn1 mc1, .string I1, .string U1] _ w1 HXL.out HXF.out (H8.out.is.2.1)).mono ?_; intro e w2 hpost
 obtain ⟨hb, bb, rfl, hvw⟩ := hpost
 have HVW := Lib.hid hvw
 clear hvw
 clear xa0 xa1 xa2 xa3 xa4 xa5 xa6 xa7
 have H9 := Lib.hid (H8.out.below hb)
 clear hb H8
 cases bb with
 | false =>
  go_wp2_with fail
  refine (first8 w2 (H9.out.is.2.2.2.2.1)).mono ?_; rintro e w9 ⟨rfl, hb⟩
  have H10 := Lib.hid (H9.out.below hb)
  clear hb H9
  go_wp2_with fail
  go_ret
  exact ⟨rfl, H10.out.is.2.2.2.2.2.1⟩
 | true =>
 obtain ⟨xk0, xk1, xk2, xk3, xk4, xk5, xk6, xk7, xk8, xk9, xk10⟩ := row11 (H9.out.is.2.2.1)
 obtain ⟨blfew, hbl⟩ : ∃ b, w2.heap.size = b := ⟨_, rfl⟩
 obtain ⟨W3, hW⟩ : ∃ W, w2.alloc (.cells #[.string K2, .bool h2, .int .i64 k2, .string S2, .bool b2, .int .u64 n2, .slice lo2 ln2 lc2, .slice mo2 mn2 mc2, .string I2, .string U2, .string Y2] 35) = W := ⟨_, rfl⟩
 have hb : Below w2.heap.size w2 W3 := by rw [← hW]; exact below_new _ _
 have hr : W3.heap[blfew]? = some (.cells #[.string K2, .bool h2, .int .i64 k2, .string S2, .bool b2, .int .u64 n2, .slice lo2 ln2 lc2, .slice mo2 mn2 mc2, .string I2, .string U2, .string Y2] 35 (0, 0)) := by rw [← hW, ← hbl]; exact new_row _ _ _
 have HWN := Lib.hid hW
 have HBN := Lib.hid hbl
 clear hW hbl
 have H10 := Lib.hid (H9.out.below hb)
 clear hb H9
 have H11 := Lib.hid (H10.out.row (hr))
 clear H10
 clear hr
 have HL3 := Lib.hid (krels_1 (H11.out.is.2.1) (H11.out.is.1))
 go_wp2_with fail
 rw [HWN.out, HBN.out]
 clear HWN HBN
 refine (fewk_any [y] (some ⟨blfew, 0, none⟩) 1 _ W3 (by simp) (by rw [kslim, kslim]; exact ⟨HYL.out, trivial⟩) (by rw [ksfit, ksfit]; exact ⟨HYF.out, trivial⟩) HL3.out).mono ?_; intro e w4 hpost
 obtain ⟨hb, bb, rfl, hkw⟩ := hpost
 have HKW := Lib.hid hkw
 clear hkw HL3
 clear xk0 xk1 xk2 xk3 xk4 xk5 xk6 xk7 xk8 xk9 xk10
 have H12 := Lib.hid (H11.out.below hb)
 clear hb H11
 cases bb with
 | false =>
  go_wp2_with fail
  refine (first8 w4 (H12.out.is.2.2.2.2.2.1)).mono ?_; rintro e w9 ⟨rfl, hb⟩
  have H13 := Lib.hid (H12.out.below hb)
  clear hb H12
  go_wp2_with fail
  go_ret
  exact ⟨rfl, H13.out.is.2.2.2.2.2.2.1⟩
 | true =>
 have HVL : Hid (vw x ≤ 8000) := Lib.hid (by first | exact HVW.out rfl | exact HVW.out trivial)
 have HKL : Hid (kw y ≤ 8000) := Lib.hid (by
  have h : ksw [y] ≤ 8000 := by first | exact HKW.out rfl | exact HKW.out trivial
  rwa [ksw_one] at h)
 clear HVW HKW
 by_cases hl0 : less < 0
 ·have q1 : decide (less < 0) = true := decide_eq_true hl0
  clear hl0
  go_wp2_with fail
  refine (first8 w4 (H12.out.is.2.2.2.2.2.1)).mono ?_; rintro e w9 ⟨rfl, hb⟩
  have H13 := Lib.hid (H12.out.below hb)
  clear hb H12
  go_wp2_with fail
  go_ret
  exact ⟨rfl, H13.out.is.2.2.2.2.2.2.1⟩
 have q1 : decide (less < 0) = false := decide_eq_false hl0
 by_cases hl1 : d < less
 ·have q2 : decide (d < less) = true := decide_eq_true hl1
  clear hl0 hl1
  go_wp2_with fail
  refine (first8 w4 (H12.out.is.2.2.2.2.2.1)).mono ?_; rintro e w9 ⟨rfl, hb⟩
  have H13 := Lib.hid (H12.out.below hb)
  clear hb H12
  go_wp2_with fail
  go_ret
  exact ⟨rfl, H13.out.is.2.2.2.2.2.2.1⟩
 have q2 : decide (d < less) = false := decide_eq_false hl1
 have HR0 : Hid (0 ≤ less ∧ less ≤ d) := Lib.hid (by omega)
 clear hl0 hl1
 obtain ⟨xa0, xa1, xa2, xa3, xa4, xa5, xa6, xa7⟩ := row8 (H12.out.is.2.2.2.2.1)
 go_wp2_with fail
 refine (vmarshal_any x [.int .i64 k1, .string S1, .bool b1, .int .u64 n1, .slice lo1 ln1 lc1, .slice mo1 mn1 mc1, .string I1, .string U1] _ d w4 HXF.out (H12.out.is.2.2.1) HD.out (by have := HVL.out; omega)).mono ?_; rintro e w5 ⟨hb, hcase⟩
 rw [HMAY.out] at hcase
 clear xa0 xa1 xa2 xa3 xa4 xa5 xa6 xa7
 have H13 := Lib.hid (H12.out.below hb)
 clear hb H12
 rw [if_neg (by simp)] at hcase
 obtain ⟨v, rfl, hec⟩ := hcase
 obtain ⟨T7, y7, rfl⟩ := hec.iface
 clear hec
 obtain ⟨xk0, xk1, xk2, xk3, xk4, xk5, xk6, xk7, xk8, xk9, xk10⟩ := row11 (H13.out.is.2.2.2.1)
 go_wp2_with fail
 refine (kmarshal_any y [.string K2, .bool h2, .int .i64 k2, .string S2, .bool b2, .int .u64 n2, .slice lo2 ln2 lc2, .slice mo2 mn2 mc2, .string I2, .string U2, .string Y2] _ d w5 HYF.out (H13.out.is.2.1) HD.out (by have := HKL.out; omega)).mono ?_; rintro e w14 ⟨hb, hcase⟩
 rw [HCAN.out] at hcase
 clear xk0 xk1 xk2 xk3 xk4 xk5 xk6 xk7 xk8 xk9 xk10
 have H14 := Lib.hid (H13.out.below hb)
 clear hb H13
 rw [if_pos rfl] at hcase
 subst hcase
 obtain ⟨TT, hTT⟩ : ∃ S : ByteArray, (⟨(kout y).toArray⟩ : ByteArray) = S := ⟨_, rfl⟩
 have HTT : Hid (TT.data.toList = kout y) := Lib.hid (by rw [← hTT])
 have HTZ : Hid (TT.size = (kout y).length) := Lib.hid (by rw [← hTT]; simp [ByteArray.size])
 have HTB : Hid (TT.size ≤ 100000) := Lib.hid (by rw [HTZ.out]; have := kout_le y; have := kw_kb y; have := HKL.out; omega)
 have HKM : Hid (kmay y d = true) := Lib.hid (by have h := HCAN.out; rw [kmayD] at h; simp only [Bool.and_eq_true] at h; exact h.2)
 have HU := Lib.hid (fun w' => (both_any 1000001 TT d w' (by have := HTB.out; omega) (by have := HTB.out; omega) HD.out).2)
 rw [HTT.out, kback y d 1000001 HYF.out (by have := HKL.out; omega) HKM.out (by have := HR0.out; omega) (by rw [← HTZ.out]; have := HTB.out; omega)] at HU
 rw [hTT]
 clear hTT
 go_wp2_with fail
 refine (HU.out w14).mono ?_; rintro e w15 ⟨hb, hcase⟩
 clear HU
 obtain ⟨cs, rfl, hrel⟩ := hcase
 obtain ⟨K5, h5, k5, S5, b5, n5, lo5, ln5, lc5, mo5, mn5, mc5, I5, U5, Y5, rfl⟩ := hrel.form
 have H15 := Lib.hid (H14.out.below hb)
 clear hb H14
 have H16 := Lib.hid (H15.out.krel (hrel))
 clear H15
 clear hrel
 go_upto_region 17 with fail
 obtain ⟨blr5, hbl⟩ : ∃ b, w15.heap.size = b := ⟨_, rfl⟩
 obtain ⟨W16, hW⟩ : ∃ W, w15.alloc (.cells #[.string K5, .bool h5, .int .i64 k5, .string S5, .bool b5, .int .u64 n5, .slice lo5 ln5 lc5, .slice mo5 mn5 mc5, .string I5, .string U5, .string Y5] 35) = W := ⟨_, rfl⟩
 have hb : Below w15.heap.size w15 W16 := by rw [← hW]; exact below_new _ _
 have hr : W16.heap[blr5]? = some (.cells #[.string K5, .bool h5, .int .i64 k5, .string S5, .bool b5, .int .u64 n5, .slice lo5 ln5 lc5, .slice mo5 mn5 mc5, .string I5, .string U5, .string Y5] 35 (0, 0)) := by rw [← hW, ← hbl]; exact new_row _ _ _
 rw [hW, hbl]
 clear hW hbl
 have H17 := Lib.hid (H16.out.below hb)
 clear hb H16
 have H18 := Lib.hid (H17.out.row (hr))
 clear H17
 clear hr
 go_wp2_with fail
 refine (first8 W16 (H18.out.is.2.2.2.2.2.2.2.1)).mono ?_; rintro e w17 ⟨rfl, hb⟩
 have H19 := Lib.hid (H18.out.below hb)
 clear hb H18
 obtain ⟨xk0, xk1, xk2, xk3, xk4, xk5, xk6, xk7, xk8, xk9, xk10⟩ := row11 (H19.out.is.2.2.2.2.2.1)
 obtain ⟨xl0, xl1, xl2, xl3, xl4, xl5, xl6, xl7, xl8, xl9, xl10⟩ := row11 (H19.out.is.1)
 go_wp2_with fail
 refine (key_same y y _ _ _ _ w17 HYL.out (H19.out.is.2.2.2.1) (H19.out.is.2.1)).mono ?_; rintro e w18 ⟨rfl, hb⟩
 rw [alike_yes rfl]
 clear xk0 xk1 xk2 xk3 xk4 xk5 xk6 xk7 xk8 xk9 xk10 xl0 xl1 xl2 xl3 xl4 xl5 xl6 xl7 xl8 xl9 xl10
 have H20 := Lib.hid (H19.out.below hb)
 clear hb H19
 go_wp2_with fail
 go_ret
 exact ⟨rfl, H20.out.is.2.2.2.2.2.2.2.2.1⟩
set_option maxRecDepth 1000000 in
set_option maxHeartbeats 16000000 in
theorem vbackl_FF (x : Val) (y : KV) (ca ck : List Value) (d less : Int) (w : World) (hg : Glob w) (hxl : vlim x) (hxf : vfit x) (hx : VRel w (fun k => k < w.heap.size) x ca) (hyl : klim y) (hyf : kfit y) (hy : KRel w (fun k => k < w.heap.size) y ck) (hd : -9223372036854775808 ≤ d ∧ d ≤ 9223372036854775807) (hle : -9223372036854775808 ≤ less ∧ less ≤ 9223372036854775807) (hmay : vmayD x d = false) (hcan : kmayD y d = false) :
 Calls Tryz.prog 6 #[.agg ca.toArray, .agg ck.toArray, .int .i64 d, .int .i64 less] w fun e w' => e = .returned (.bool true) ∧ Below w.heap.size w w' := by
 have HG := Lib.hid hg
 have HX := Lib.hid hx
 have HY := Lib.hid hy
 have HXL := Lib.hid hxl
 have HXF := Lib.hid hxf
 have HYL := Lib.hid hyl
 have HYF := Lib.hid hyf
 have HD := Lib.hid hd
 have HLE := Lib.hid hle
 have HMAY := Lib.hid hmay
 have HCAN := Lib.hid hcan
 obtain ⟨k1, S1, b1, n1, lo1, ln1, lc1, mo1, mn1, mc1, I1, U1, rfl⟩ := hx.form
 obtain ⟨K2, h2, k2, S2, b2, n2, lo2, ln2, lc2, mo2, mn2, mc2, I2, U2, Y2, rfl⟩ := hy.form
 clear hg hxl hxf hx hyl hyf hy hd hle hmay hcan
 obtain ⟨W, hW⟩ : ∃ W, (w.alloc (.cells #[.int .i64 k1, .string S1, .bool b1, .int .u64 n1, .slice lo1 ln1 lc1, .slice mo1 mn1 mc1, .string I1, .string U1] 27)).alloc (.cells #[.string K2, .bool h2, .int .i64 k2, .string S2, .bool b2, .int .u64 n2, .slice lo2 ln2 lc2, .slice mo2 mn2 mc2, .string I2, .string U2, .string Y2] 35) = W := ⟨_, rfl⟩
 have hbw : Below w.heap.size w W := by rw [← hW]; exact below_step (below_new _ _) (below_new _ _)
 have hra : W.heap[w.heap.size]? = some (.cells #[.int .i64 k1, .string S1, .bool b1, .int .u64 n1, .slice lo1 ln1 lc1, .slice mo1 mn1 mc1, .string I1, .string U1] 27 (0, 0)) := by rw [← hW]; exact (Below.heap_alloc _ _ _ (by simp)).trans (heap_alloc_new w _)
 have hrk : W.heap[w.heap.size + 1]? = some (.cells #[.string K2, .bool h2, .int .i64 k2, .string S2, .bool b2, .int .u64 n2, .slice lo2 ln2 lc2, .slice mo2 mn2 mc2, .string I2, .string U2, .string Y2] 35 (0, 0)) := by rw [← hW]; have := heap_alloc_new (w.alloc (.cells #[.int .i64 k1, .string S1, .bool b1, .int .u64 n1, .slice lo1 ln1 lc1, .slice mo1 mn1 mc1, .string I1, .string U1] 27)) (.cells #[.string K2, .bool h2, .int .i64 k2, .string S2, .bool b2, .int .u64 n2, .slice lo2 ln2 lc2, .slice mo2 mn2 mc2, .string I2, .string U2, .string Y2] 35); simpa using this
 have H1 := Lib.hid (Fx.nil W)
 have H2 := Lib.hid (H1.out.base (hbw))
 clear H1
 have H3 := Lib.hid (H2.out.glob (HG.out.below hbw))
 clear H2
 have H4 := Lib.hid (H3.out.row (hra))
 clear H3
 have H5 := Lib.hid (H4.out.row (hrk))
 clear H4
 have H6 := Lib.hid (H5.out.vrel (HX.out.below hbw))
 clear H5
 have H7 := Lib.hid (H6.out.krel (HY.out.below hbw))
 clear H6
 have HW := Lib.hid hW
 clear hW hbw hra hrk HX HY
 go_enter Tryz.func6, Tryz.ntmps6
 go_wp2_with fail
 rw [HW.out]
 refine (first8 W (H7.out.is.2.2.2.2.1)).mono ?_; rintro e w1 ⟨rfl, hb⟩
 have H8 := Lib.hid (H7.out.below hb)
 clear hb H7
 obtain ⟨xa0, xa1, xa2, xa3, xa4, xa5, xa6, xa7⟩ := row8 (H8.out.is.2.2.2.1)
 go_wp2_with fail
 refine (fewv_any x [.int .i64 k1, .string S1, .bool b1, .int .u64 n1, .slice lo1 ln1 lc1, .slice mo1 mn1 mc1, .string I1, .string U1] _ w1 HXL.out HXF.out (H8.out.is.2.1)).mono ?_; intro e w2 hpost
 obtain ⟨hb, bb, rfl, hvw⟩ := hpost
 have HVW := Lib.hid hvw
 clear hvw
 clear xa0 xa1 xa2 xa3 xa4 xa5 xa6 xa7
 have H9 := Lib.hid (H8.out.below hb)
 clear hb H8
 cases bb with
 | false =>
  go_wp2_with fail
  refine (first8 w2 (H9.out.is.2.2.2.2.1)).mono ?_; rintro e w9 ⟨rfl, hb⟩
  have H10 := Lib.hid (H9.out.below hb)
  clear hb H9
  go_wp2_with fail
  go_ret
  exact ⟨rfl, H10.out.is.2.2.2.2.2.1⟩
 | true =>
 obtain ⟨xk0, xk1, xk2, xk3, xk4, xk5, xk6, xk7, xk8, xk9, xk10⟩ := row11 (H9.out.is.2.2.1)
 obtain ⟨blfew, hbl⟩ : ∃ b, w2.heap.size = b := ⟨_, rfl⟩
 obtain ⟨W3, hW⟩ : ∃ W, w2.alloc (.cells #[.string K2, .bool h2, .int .i64 k2, .string S2, .bool b2, .int .u64 n2, .slice lo2 ln2 lc2, .slice mo2 mn2 mc2, .string I2, .string U2, .string Y2] 35) = W := ⟨_, rfl⟩
 have hb : Below w2.heap.size w2 W3 := by rw [← hW]; exact below_new _ _
 have hr : W3.heap[blfew]? = some (.cells #[.string K2, .bool h2, .int .i64 k2, .string S2, .bool b2, .int .u64 n2, .slice lo2 ln2 lc2, .slice mo2 mn2 mc2, .string I2, .string U2, .string Y2] 35 (0, 0)) := by rw [← hW, ← hbl]; exact new_row _ _ _
 have HWN := Lib.hid hW
 have HBN := Lib.hid hbl
 clear hW hbl
 have H10 := Lib.hid (H9.out.below hb)
 clear hb H9
 have H11 := Lib.hid (H10.out.row (hr))
 clear H10
 clear hr
 have HL3 := Lib.hid (krels_1 (H11.out.is.2.1) (H11.out.is.1))
 go_wp2_with fail
 rw [HWN.out, HBN.out]
 clear HWN HBN
 refine (fewk_any [y] (some ⟨blfew, 0, none⟩) 1 _ W3 (by simp) (by rw [kslim, kslim]; exact ⟨HYL.out, trivial⟩) (by rw [ksfit, ksfit]; exact ⟨HYF.out, trivial⟩) HL3.out).mono ?_; intro e w4 hpost
 obtain ⟨hb, bb, rfl, hkw⟩ := hpost
 have HKW := Lib.hid hkw
 clear hkw HL3
 clear xk0 xk1 xk2 xk3 xk4 xk5 xk6 xk7 xk8 xk9 xk10
 have H12 := Lib.hid (H11.out.below hb)
 clear hb H11
 cases bb with
 | false =>
  go_wp2_with fail
  refine (first8 w4 (H12.out.is.2.2.2.2.2.1)).mono ?_; rintro e w9 ⟨rfl, hb⟩
  have H13 := Lib.hid (H12.out.below hb)
  clear hb H12
  go_wp2_with fail
  go_ret
  exact ⟨rfl, H13.out.is.2.2.2.2.2.2.1⟩
 | true =>
 have HVL : Hid (vw x ≤ 8000) := Lib.hid (by first | exact HVW.out rfl | exact HVW.out trivial)
 have HKL : Hid (kw y ≤ 8000) := Lib.hid (by
  have h : ksw [y] ≤ 8000 := by first | exact HKW.out rfl | exact HKW.out trivial
  rwa [ksw_one] at h)
 clear HVW HKW
 by_cases hl0 : less < 0
 ·have q1 : decide (less < 0) = true := decide_eq_true hl0
  clear hl0
  go_wp2_with fail
  refine (first8 w4 (H12.out.is.2.2.2.2.2.1)).mono ?_; rintro e w9 ⟨rfl, hb⟩
  have H13 := Lib.hid (H12.out.below hb)
  clear hb H12
  go_wp2_with fail
  go_ret
  exact ⟨rfl, H13.out.is.2.2.2.2.2.2.1⟩
 have q1 : decide (less < 0) = false := decide_eq_false hl0
 by_cases hl1 : d < less
 ·have q2 : decide (d < less) = true := decide_eq_true hl1
  clear hl0 hl1
  go_wp2_with fail
  refine (first8 w4 (H12.out.is.2.2.2.2.2.1)).mono ?_; rintro e w9 ⟨rfl, hb⟩
  have H13 := Lib.hid (H12.out.below hb)
  clear hb H12
  go_wp2_with fail
  go_ret
  exact ⟨rfl, H13.out.is.2.2.2.2.2.2.1⟩
 have q2 : decide (d < less) = false := decide_eq_false hl1
 have HR0 : Hid (0 ≤ less ∧ less ≤ d) := Lib.hid (by omega)
 clear hl0 hl1
 obtain ⟨xa0, xa1, xa2, xa3, xa4, xa5, xa6, xa7⟩ := row8 (H12.out.is.2.2.2.2.1)
 go_wp2_with fail
 refine (vmarshal_any x [.int .i64 k1, .string S1, .bool b1, .int .u64 n1, .slice lo1 ln1 lc1, .slice mo1 mn1 mc1, .string I1, .string U1] _ d w4 HXF.out (H12.out.is.2.2.1) HD.out (by have := HVL.out; omega)).mono ?_; rintro e w5 ⟨hb, hcase⟩
 rw [HMAY.out] at hcase
 clear xa0 xa1 xa2 xa3 xa4 xa5 xa6 xa7
 have H13 := Lib.hid (H12.out.below hb)
 clear hb H12
 rw [if_neg (by simp)] at hcase
 obtain ⟨v, rfl, hec⟩ := hcase
 obtain ⟨T7, y7, rfl⟩ := hec.iface
 clear hec
 obtain ⟨xk0, xk1, xk2, xk3, xk4, xk5, xk6, xk7, xk8, xk9, xk10⟩ := row11 (H13.out.is.2.2.2.1)
 go_wp2_with fail
 refine (kmarshal_any y [.string K2, .bool h2, .int .i64 k2, .string S2, .bool b2, .int .u64 n2, .slice lo2 ln2 lc2, .slice mo2 mn2 mc2, .string I2, .string U2, .string Y2] _ d w5 HYF.out (H13.out.is.2.1) HD.out (by have := HKL.out; omega)).mono ?_; rintro e w14 ⟨hb, hcase⟩
 rw [HCAN.out] at hcase
 clear xk0 xk1 xk2 xk3 xk4 xk5 xk6 xk7 xk8 xk9 xk10
 have H14 := Lib.hid (H13.out.below hb)
 clear hb H13
 rw [if_neg (by simp)] at hcase
 obtain ⟨v, rfl, hec⟩ := hcase
 obtain ⟨T8, y8, rfl⟩ := hec.iface
 clear hec
 go_wp2_with fail
 refine (first8 w14 (H14.out.is.2.2.2.2.2.1)).mono ?_; rintro e w18 ⟨rfl, hb⟩
 have H15 := Lib.hid (H14.out.below hb)
 clear hb H14
 go_wp2_with fail
 go_ret
 exact ⟨rfl, H15.out.is.2.2.2.2.2.2.1⟩
theorem vbackl_any (x : Val) (y : KV) (ca ck : List Value) (d less : Int) (w : World) (hg : Glob w) (hxl : vlim x) (hxf : vfit x) (hx : VRel w (fun k => k < w.heap.size) x ca) (hyl : klim y) (hyf : kfit y) (hy : KRel w (fun k => k < w.heap.size) y ck) (hd : -9223372036854775808 ≤ d ∧ d ≤ 9223372036854775807) (hle : -9223372036854775808 ≤ less ∧ less ≤ 9223372036854775807) :
 Calls Tryz.prog 6 #[.agg ca.toArray, .agg ck.toArray, .int .i64 d, .int .i64 less] w fun e w' => e = .returned (.bool true) ∧ Below w.heap.size w w' := by
 cases hm : vmayD x d with
 | true => cases hl : vmayD x (d - less) with
  | true => cases hc : kmayD y d with
   | true => exact vbackl_TTT x y ca ck d less w hg hxl hxf hx hyl hyf hy hd hle hm hl hc
   | false => exact vbackl_TTF x y ca ck d less w hg hxl hxf hx hyl hyf hy hd hle hm hl hc
  | false => cases hc : kmayD y d with
   | true => exact vbackl_TFT x y ca ck d less w hg hxl hxf hx hyl hyf hy hd hle hm hl hc
   | false => exact vbackl_TFF x y ca ck d less w hg hxl hxf hx hyl hyf hy hd hle hm hl hc
 | false => cases hc : kmayD y d with
  | true => exact vbackl_FT x y ca ck d less w hg hxl hxf hx hyl hyf hy hd hle hm hc
  | false => exact vbackl_FF x y ca ck d less w hg hxl hxf hx hyl hyf hy hd hle hm hc
end Go.Proofs.YteknippgiljgeaaGreatDoor
