/-
 value.MayKeys; hyglaw8.ValueWrites.
-/
import Derived.Test.YteknippgiljgeaaGreatDoorValMar
import Derived.Test.YteknippgiljgeaaGreatDoorRefOut
import Derived.Test.YteknippgiljgeaaGreatDoorFirst8
import Derived.Test.YteknippgiljgeaaGreatDoorValRow
import Derived.Test.YteknippgiljgeaaGreatDoorDoor
namespace Go.Proofs.YteknippgiljgeaaGreatDoor
open Go.RowKit

set_option maxRecDepth 1000000 in
set_option maxHeartbeats 8000000 in
theorem cmaykeys_any (l : List KV) (lo : Option Addr) (lc : Nat) (P : Nat → Prop) (w : World) (d : Int) (hfit : ksfit l) (ha : KRels w P l lo 0) (hd : -9223372036854775808 ≤ d ∧ d ≤ 9223372036854775807) (hsz : ksw l ≤ 400000) :
  Calls Tryz.prog 26 #[.slice lo l.length lc, .int .i64 d] w fun e w' => e = .returned (.bool (l.all fun x => kmayD x d)) ∧ Below w.heap.size w w' := by
 have HA := Lib.hid ha
 have HFIT := Lib.hid hfit
 have HD := Lib.hid hd
 have HSZ := Lib.hid hsz
 have hlen : l.length ≤ 400000 := by have := ksw_len l; omega
 clear ha hfit hd hsz
 go_enter Tryz.func26, Tryz.ntmps26
 go_wp2_with fail
 go_loopg [9] l.length (fun k i wr => ∃ (j : Nat), i = .int .i64 (j : Int) ∧ j + k = l.length ∧ Below w.heap.size w wr ∧ Hid (((l.take j).all fun x => kmayD x d) = true))
 case atStart => exact ⟨0, rfl, by omega, Below.refl _ _, Lib.hid rfl⟩
 case round =>
  obtain ⟨j, rfl, hj, hbr, HRM⟩ := hrel
  have HBR := Lib.hid hbr
  have HJ := Lib.hid hj
  clear hbr hj
  by_cases hlt : j < l.length
  ·obtain ⟨ga, oa, ca, rfl, hga, hca, hra⟩ := krels_at0 (HA.out.below HBR.out) j hlt
   have hmem := List.getElem_mem hlt
   obtain ⟨x, hx⟩ : ∃ x, l[j] = x := ⟨_, rfl⟩
   have HFX := Lib.hid (ksfit_at HFIT.out x (hx ▸ hmem))
   have HTK : Hid (((l.take (j + 1)).all fun x => kmayD x d) = (((l.take j).all fun x => kmayD x d) && kmayD x d)) := Lib.hid (by rw [List.take_succ_eq_append_getElem hlt, List.all_append, hx]; simp)
   have HWX : Hid (kw x ≤ 400000) := Lib.hid (by have := ksw_at hlt; rw [hx] at this; have := HSZ.out; omega)
   have HALL : Hid (kmayD x d = false → (l.all fun x => kmayD x d) = false) := Lib.hid (fun h => by
    cases hh : l.all fun x => kmayD x d with
    | false => rfl
    | true => have := List.all_eq_true.1 hh x (hx ▸ hmem); rw [h] at this; cases this)
   rw [hx] at hra
   have HRA := Lib.hid hra
   obtain ⟨K0, h0, k1, S1, b1, n1, l1, ln1, lc1, m1, mn1, mc1, I1, U1, Y1, rfl⟩ := hra.form
   have HCA := Lib.hid hca
   obtain ⟨wa, hwa⟩ : ∃ wa, wr.alloc (.cells #[.string K0, .bool h0, .int .i64 k1, .string S1, .bool b1, .int .u64 n1, .slice l1 ln1 lc1, .slice m1 mn1 mc1, .string I1, .string U1, .string Y1] 35) = wa := ⟨_, rfl⟩
   have HBA : Hid (Below wr.heap.size wr wa) := Lib.hid (by rw [← hwa]; exact below_new _ _)
   have HWA := Lib.hid hwa
   have HCM := Lib.hid (kmay_any x [.string K0, .bool h0, .int .i64 k1, .string S1, .bool b1, .int .u64 n1, .slice l1 ln1 lc1, .slice m1 mn1 mc1, .string I1, .string U1, .string Y1] P d wa HFX.out (HRA.out.below HBA.out) HD.out HWX.out)
   obtain ⟨g, hg⟩ : ∃ g, kmayD x d = g := ⟨_, rfl⟩
   rw [hg] at HCM
   have HG := Lib.hid hg
   clear hx hmem hra hca hwa hg
   obtain ⟨ev0, ev1, ev2, ev3, ev4, ev5, ev6, ev7, ev8, ev9, ev10⟩ := cells11 HCA.out
   go_wp2_with fail
   rw [HWA.out]
   refine HCM.out.mono ?_; rintro e w5 ⟨rfl, hb5⟩
   have HBW := Lib.hid (below_step HBR.out (below_step HBA.out hb5))
   clear hb5 ev0 ev1 ev2 ev3 ev4 ev5 ev6 ev7 ev8 ev9 ev10
   cases g with
   | false =>
    go_wp2_with fail
    go_ret
    exact ⟨by rw [HALL.out HG.out]; rfl, HBW.out⟩
   | true =>
    go_wp2_with fail
    have hj := HJ.out
    go_roundg (gk - 1)
    case measure => omega
    case rel => exact ⟨j + 1, by simp, by omega, HBW.out, Lib.hid (by rw [HTK.out, HRM.out, HG.out]; rfl)⟩
  ·have hjn : j = l.length := by have := HJ.out; omega
   have HRE : Hid ((l.all fun x => kmayD x d) = true) := Lib.hid (by have h := HRM.out; rwa [hjn, List.take_length] at h)
   clear hjn
   go_wp2_with fail
   go_ret
   exact ⟨by rw [HRE.out]; rfl, HBR.out⟩
set_option maxRecDepth 1000000 in
set_option maxHeartbeats 16000000 in
theorem vwrites_TT (x : Val) (y : KV) (ca ck : List Value) (d : Int) (w : World) (hg : Glob w) (hxl : vlim x) (hxf : vfit x) (hx : VRel w (fun k => k < w.heap.size) x ca) (hyl : klim y) (hyf : kfit y) (hy : KRel w (fun k => k < w.heap.size) y ck) (hd : -9223372036854775808 ≤ d ∧ d ≤ 9223372036854775807) (hmay : vmayD x d = true) (hcan : kmayD y d = true) :
  Calls Tryz.prog 4 #[.agg ca.toArray, .agg ck.toArray, .int .i64 d] w fun e w' => e = .returned (.bool true) ∧ Below w.heap.size w w' := by
 have HG := Lib.hid hg
 have HX := Lib.hid hx
 have HY := Lib.hid hy
 have HXL := Lib.hid hxl
 have HXF := Lib.hid hxf
 have HYL := Lib.hid hyl
 have HYF := Lib.hid hyf
 have HD := Lib.hid hd
 have HMAY := Lib.hid hmay
 have HCAN := Lib.hid hcan
 obtain ⟨k1, S1, b1, n1, lo1, ln1, lc1, mo1, mn1, mc1, I1, U1, rfl⟩ := hx.form
 obtain ⟨K2, h2, k2, S2, b2, n2, lo2, ln2, lc2, mo2, mn2, mc2, I2, U2, Y2, rfl⟩ := hy.form
 clear hg hxl hxf hx hyl hyf hy hd hmay hcan
 obtain ⟨W, hW⟩ : ∃ W, (w.alloc (.cells #[.int .i64 k1, .string S1, .bool b1, .int .u64 n1, .slice lo1 ln1 lc1, .slice mo1 mn1 mc1, .string I1, .string U1] 27)).alloc (.cells #[.string K2, .bool h2, .int .i64 k2, .string S2, .bool b2, .int .u64 n2, .slice lo2 ln2 lc2, .slice mo2 mn2 mc2, .string I2, .string U2, .string Y2] 35) = W := ⟨_, rfl⟩
 have HB0 : Hid (Below w.heap.size w W) := Lib.hid (by rw [← hW]; exact below_step (below_new _ _) (below_new _ _))
 have HXK0 : Hid (XK W w.heap.size [.int .i64 k1, .string S1, .bool b1, .int .u64 n1, .slice lo1 ln1 lc1, .slice mo1 mn1 mc1, .string I1, .string U1] [.string K2, .bool h2, .int .i64 k2, .string S2, .bool b2, .int .u64 n2, .slice lo2 ln2 lc2, .slice mo2 mn2 mc2, .string I2, .string U2, .string Y2]) := Lib.hid ⟨by rw [← hW]; exact (Below.heap_alloc _ _ _ (by simp)).trans (heap_alloc_new w _), by rw [← hW]; have := heap_alloc_new (w.alloc (.cells #[.int .i64 k1, .string S1, .bool b1, .int .u64 n1, .slice lo1 ln1 lc1, .slice mo1 mn1 mc1, .string I1, .string U1] 27)) (.cells #[.string K2, .bool h2, .int .i64 k2, .string S2, .bool b2, .int .u64 n2, .slice lo2 ln2 lc2, .slice mo2 mn2 mc2, .string I2, .string U2, .string Y2] 35); simpa using this⟩
 have HW := Lib.hid hW
 clear hW
 go_enter Tryz.func4, Tryz.ntmps4
 go_wp2_with fail
 rw [HW.out]
 refine (first8 W (HG.out.below HB0.out)).mono ?_; rintro e w1 ⟨rfl, hb⟩
 have HB1 := Lib.hid (below_step HB0.out hb)
 have HXK1 := Lib.hid (HXK0.out.below hb)
 clear hb
 obtain ⟨xa0, xa1, xa2, xa3, xa4, xa5, xa6, xa7⟩ := HXK1.out.a
 obtain ⟨xk0, xk1, xk2, xk3, xk4, xk5, xk6, xk7, xk8, xk9, xk10⟩ := HXK1.out.k
 go_wp2_with fail
 refine (fewv_any x [.int .i64 k1, .string S1, .bool b1, .int .u64 n1, .slice lo1 ln1 lc1, .slice mo1 mn1 mc1, .string I1, .string U1] _ w1 HXL.out HXF.out (HX.out.below HB1.out)).mono ?_; intro e w2 hpost
 obtain ⟨hb, bb, rfl, hvw⟩ := hpost
 have HB2 := Lib.hid (below_step HB1.out hb)
 have HXK2 := Lib.hid (HXK1.out.below hb)
 have HVW := Lib.hid hvw
 clear hb hvw xa0 xa1 xa2 xa3 xa4 xa5 xa6 xa7 xk0 xk1 xk2 xk3 xk4 xk5 xk6 xk7 xk8 xk9 xk10
 cases bb with
 | false =>
  go_wp2_with fail
  refine (first8 w2 (HG.out.below HB2.out)).mono ?_; rintro e w9 ⟨rfl, hb⟩
  have HB9 := Lib.hid (below_step HB2.out hb)
  clear hb
  go_wp2_with fail
  go_ret
  exact ⟨rfl, HB9.out⟩
 | true =>
 obtain ⟨xk0, xk1, xk2, xk3, xk4, xk5, xk6, xk7, xk8, xk9, xk10⟩ := HXK2.out.k
 obtain ⟨W3, hW3⟩ : ∃ W, w2.alloc (.cells #[.string K2, .bool h2, .int .i64 k2, .string S2, .bool b2, .int .u64 n2, .slice lo2 ln2 lc2, .slice mo2 mn2 mc2, .string I2, .string U2, .string Y2] 35) = W := ⟨_, rfl⟩
 obtain ⟨bk, hbk⟩ : ∃ b, w2.heap.size = b := ⟨_, rfl⟩
 have hb3 : Below w2.heap.size w2 W3 := by rw [← hW3]; exact below_new _ _
 have HR3 : Hid (W3.heap[bk]? = some (.cells #[.string K2, .bool h2, .int .i64 k2, .string S2, .bool b2, .int .u64 n2, .slice lo2 ln2 lc2, .slice mo2 mn2 mc2, .string I2, .string U2, .string Y2] 35 (0, 0))) := Lib.hid (by rw [← hW3, ← hbk]; exact heap_alloc_new _ _)
 have HB3 := Lib.hid (below_step HB2.out hb3)
 have HXK3 := Lib.hid (HXK2.out.below hb3)
 have HL3 := Lib.hid (krels_1 (HY.out.below HB3.out) HR3.out)
 have HW3 := Lib.hid hW3
 have HBK := Lib.hid hbk
 clear hW3 hbk hb3
 go_wp2_with fail
 rw [HW3.out, HBK.out]
 refine (fewk_any [y] (some ⟨bk, 0, none⟩) 1 _ W3 (by simp) (by rw [kslim, kslim]; exact ⟨HYL.out, trivial⟩) (by rw [ksfit, ksfit]; exact ⟨HYF.out, trivial⟩) HL3.out).mono ?_; intro e w4 hpost
 obtain ⟨hb, bb, rfl, hkw⟩ := hpost
 have HB4 := Lib.hid (below_step HB3.out hb)
 have HXK4 := Lib.hid (HXK3.out.below hb)
 have HKW := Lib.hid hkw
 clear hb hkw xk0 xk1 xk2 xk3 xk4 xk5 xk6 xk7 xk8 xk9 xk10
 cases bb with
 | false =>
  go_wp2_with fail
  refine (first8 w4 (HG.out.below HB4.out)).mono ?_; rintro e w9 ⟨rfl, hb⟩
  have HB9 := Lib.hid (below_step HB4.out hb)
  clear hb
  go_wp2_with fail
  go_ret
  exact ⟨rfl, HB9.out⟩
 | true =>
 have HVL : Hid (vw x ≤ 8000) := Lib.hid (by first | exact HVW.out rfl | exact HVW.out trivial)
 have HKL : Hid (kw y ≤ 8000) := Lib.hid (by
  have h : ksw [y] ≤ 8000 := by first | exact HKW.out rfl | exact HKW.out trivial
  rwa [ksw_one] at h)
 go_upto_region 5 with fail
 obtain ⟨D, hD⟩ : ∃ D, w4.drew = D := ⟨_, rfl⟩
 have hb : Below w4.heap.size w4 D := by rw [← hD]; exact (Below.refl _ _).drew
 have HBD := Lib.hid (below_step HB4.out hb)
 have hS : XK D w.heap.size [.int .i64 k1, .string S1, .bool b1, .int .u64 n1, .slice lo1 ln1 lc1, .slice mo1 mn1 mc1, .string I1, .string U1] [.string K2, .bool h2, .int .i64 k2, .string S2, .bool b2, .int .u64 n2, .slice lo2 ln2 lc2, .slice mo2 mn2 mc2, .string I2, .string U2, .string Y2] := HXK4.out.below hb
 have hne : Nonempty {w' : World // XK w' w.heap.size [.int .i64 k1, .string S1, .bool b1, .int .u64 n1, .slice lo1 ln1 lc1, .slice mo1 mn1 mc1, .string I1, .string U1] [.string K2, .bool h2, .int .i64 k2, .string S2, .bool b2, .int .u64 n2, .slice lo2 ln2 lc2, .slice mo2 mn2 mc2, .string I2, .string U2, .string Y2]} := ⟨⟨_, hS⟩⟩
 refine wp_region_seq (S := fun w' => XK w' w.heap.size [.int .i64 k1, .string S1, .bool b1, .int .u64 n1, .slice lo1 ln1 lc1, .slice mo1 mn1 mc1, .string I1, .string U1] [.string K2, .bool h2, .int .i64 k2, .string S2, .bool b2, .int .u64 n2, .slice lo2 ln2 lc2, .slice mo2 mn2 mc2, .string I2, .string U2, .string Y2]) [(0, true), (1, true), (3, true), (4, true), (2, false), (5, false), (6, true), (7, true)] (by kernel_rfl) (by kernel_rfl) (by kernel_rfl) (by kernel_rfl) (by rw [hD]; exact hS) ?_
 rw [hD]
 clear hD hb
 refine seq_take _ rfl (fun KC hK => ?_); go_simp
 refine ⟨.agg #[.int .i64 k1, .string S1, .bool b1, .int .u64 n1, .slice lo1 ln1 lc1, .slice mo1 mn1 mc1, .string I1, .string U1], fun a ha => by obtain ⟨p0, p1, p2, p3, p4, p5, p6, p7⟩ := XK.a ha; simp only [p0, p1, p2, p3, p4, p5, p6, p7, Result.andThen], hK _ ?_⟩
 clear hK KC
 refine seq_take _ rfl (fun KC hK => ?_); go_simp; (first | refine hK _ ?_ | refine ⟨_, fun _ _ => rfl, hK _ ?_⟩); clear hK KC
 refine seq_take _ rfl (fun KC hK => ?_); go_simp
 refine ⟨.agg #[.string K2, .bool h2, .int .i64 k2, .string S2, .bool b2, .int .u64 n2, .slice lo2 ln2 lc2, .slice mo2 mn2 mc2, .string I2, .string U2, .string Y2], fun a ha => by obtain ⟨p0, p1, p2, p3, p4, p5, p6, p7, p8, p9, p10⟩ := XK.k ha; simp only [p0, p1, p2, p3, p4, p5, p6, p7, p8, p9, p10, Result.andThen], hK _ ?_⟩
 clear hK KC
 refine seq_take _ rfl (fun KC hK => ?_); go_simp; (first | refine hK _ ?_ | refine ⟨_, fun _ _ => rfl, hK _ ?_⟩); clear hK KC
 refine seq_come _ rfl (fun KC hK => ?_); go_simp
 refine (mayv_any8 x [.int .i64 k1, .string S1, .bool b1, .int .u64 n1, .slice lo1 ln1 lc1, .slice mo1 mn1 mc1, .string I1, .string U1] _ D d HXF.out (HX.out.below HBD.out) (by have := HD.out; omega) (by have := HVL.out; omega)).mono ?_; rintro e w5 ⟨hb, g, rfl, hg⟩
 obtain rfl : g = true := by rw [hg]; exact HMAY.out
 have HB5 := Lib.hid (below_step HBD.out hb)
 have hS5 : XK w5 w.heap.size [.int .i64 k1, .string S1, .bool b1, .int .u64 n1, .slice lo1 ln1 lc1, .slice mo1 mn1 mc1, .string I1, .string U1] [.string K2, .bool h2, .int .i64 k2, .string S2, .bool b2, .int .u64 n2, .slice lo2 ln2 lc2, .slice mo2 mn2 mc2, .string I2, .string U2, .string Y2] := hS.below hb
 go_simp; refine hK.out _ _ hS5 ?_; clear hK KC hb hg
 refine seq_come _ rfl (fun KC hK => ?_); go_simp
 refine (mayk_any8 y [.string K2, .bool h2, .int .i64 k2, .string S2, .bool b2, .int .u64 n2, .slice lo2 ln2 lc2, .slice mo2 mn2 mc2, .string I2, .string U2, .string Y2] _ w5 d HYF.out (HY.out.below HB5.out) (by have := HD.out; omega) (by have := HKL.out; omega)).mono ?_; rintro e w6 ⟨hb, g, rfl, hg⟩
 obtain rfl : g = true := by rw [hg]; exact HCAN.out
 have HB6 := Lib.hid (below_step HB5.out hb)
 have hS6 : XK w6 w.heap.size [.int .i64 k1, .string S1, .bool b1, .int .u64 n1, .slice lo1 ln1 lc1, .slice mo1 mn1 mc1, .string I1, .string U1] [.string K2, .bool h2, .int .i64 k2, .string S2, .bool b2, .int .u64 n2, .slice lo2 ln2 lc2, .slice mo2 mn2 mc2, .string I2, .string U2, .string Y2] := hS5.below hb
 go_simp; refine hK.out _ _ hS6 ?_; clear hK KC hb hg
 iterate 2 (refine seq_take _ rfl (fun KC hK => ?_); go_simp; (first | refine hK _ ?_ | refine ⟨_, fun _ _ => rfl, hK _ ?_⟩); clear hK KC)
 refine seq_done ?_
 have HXK6 := Lib.hid hS6
 clear hne hS hS5 hS6
 obtain ⟨xa0, xa1, xa2, xa3, xa4, xa5, xa6, xa7⟩ := HXK6.out.a
 go_wp2_with fail
 refine (vmarshal_any x [.int .i64 k1, .string S1, .bool b1, .int .u64 n1, .slice lo1 ln1 lc1, .slice mo1 mn1 mc1, .string I1, .string U1] _ d w6 HXF.out (HX.out.below HB6.out) HD.out (by have := HVL.out; omega)).mono ?_; rintro e w7 ⟨hb, hcase⟩
 rw [HMAY.out] at hcase
 have HB7 := Lib.hid (below_step HB6.out hb)
 have HXK7 := Lib.hid (HXK6.out.below hb)
 rw [if_pos rfl] at hcase
 subst hcase
 obtain ⟨SS, hSS⟩ : ∃ S : ByteArray, (⟨(vout x).toArray⟩ : ByteArray) = S := ⟨_, rfl⟩
 have HSS : Hid (SS.data.toList = vout x) := Lib.hid (by rw [← hSS])
 have HSZ : Hid (SS.size = (vout x).length) := Lib.hid (by rw [← hSS]; simp [ByteArray.size])
 have hss : SS.size ≤ 100000 := by rw [HSZ.out]; have := vout_le x; have := vw_vb x; have := HVL.out; omega
 rw [hSS]
 clear hSS
 clear hb xa0 xa1 xa2 xa3 xa4 xa5 xa6 xa7 
 obtain ⟨xk0, xk1, xk2, xk3, xk4, xk5, xk6, xk7, xk8, xk9, xk10⟩ := HXK7.out.k
 go_wp2_with fail
 refine (kmarshal_any y [.string K2, .bool h2, .int .i64 k2, .string S2, .bool b2, .int .u64 n2, .slice lo2 ln2 lc2, .slice mo2 mn2 mc2, .string I2, .string U2, .string Y2] _ d w7 HYF.out (HY.out.below HB7.out) HD.out (by have := HKL.out; omega)).mono ?_; rintro e w8 ⟨hb, hcase⟩
 rw [HCAN.out] at hcase
 have HB8 := Lib.hid (below_step HB7.out hb)
 have HXK8 := Lib.hid (HXK7.out.below hb)
 rw [if_pos rfl] at hcase
 subst hcase
 obtain ⟨TT, hTT⟩ : ∃ S : ByteArray, (⟨(kout y).toArray⟩ : ByteArray) = S := ⟨_, rfl⟩
 have HTT : Hid (TT.data.toList = kout y) := Lib.hid (by rw [← hTT])
 have HTZ : Hid (TT.size = (kout y).length) := Lib.hid (by rw [← hTT]; simp [ByteArray.size])
 have hts : TT.size ≤ 100000 := by rw [HTZ.out]; have := kout_le y; have := kw_kb y; have := HKL.out; omega
 rw [hTT]
 clear hTT
 clear hb xk0 xk1 xk2 xk3 xk4 xk5 xk6 xk7 xk8 xk9 xk10
 obtain ⟨xa0, xa1, xa2, xa3, xa4, xa5, xa6, xa7⟩ := HXK8.out.a
 go_wp2_with fail
 refine (vmay_any x [.int .i64 k1, .string S1, .bool b1, .int .u64 n1, .slice lo1 ln1 lc1, .slice mo1 mn1 mc1, .string I1, .string U1] _ d w8 HXF.out (HX.out.below HB8.out) HD.out (by have := HVL.out; omega)).mono ?_; rintro e w9 ⟨rfl, hb⟩
 rw [HMAY.out]
 have HB9 := Lib.hid (below_step HB8.out hb)
 have HXK9 := Lib.hid (HXK8.out.below hb)
 clear hb xa0 xa1 xa2 xa3 xa4 xa5 xa6 xa7 
 obtain ⟨xk0, xk1, xk2, xk3, xk4, xk5, xk6, xk7, xk8, xk9, xk10⟩ := HXK9.out.k
 go_wp2_with fail
 refine (kmay_any y [.string K2, .bool h2, .int .i64 k2, .string S2, .bool b2, .int .u64 n2, .slice lo2 ln2 lc2, .slice mo2 mn2 mc2, .string I2, .string U2, .string Y2] _ d w9 HYF.out (HY.out.below HB9.out) HD.out (by have := HKL.out; omega)).mono ?_; rintro e w10 ⟨rfl, hb⟩
 rw [HCAN.out]
 have HB10 := Lib.hid (below_step HB9.out hb)
 have HXK10 := Lib.hid (HXK9.out.below hb)
 clear hb xk0 xk1 xk2 xk3 xk4 xk5 xk6 xk7 xk8 xk9 xk10
 obtain ⟨xk0, xk1, xk2, xk3, xk4, xk5, xk6, xk7, xk8, xk9, xk10⟩ := HXK10.out.k
 obtain ⟨W11, hW11⟩ : ∃ W, w10.alloc (.cells #[.string K2, .bool h2, .int .i64 k2, .string S2, .bool b2, .int .u64 n2, .slice lo2 ln2 lc2, .slice mo2 mn2 mc2, .string I2, .string U2, .string Y2, .string K2, .bool h2, .int .i64 k2, .string S2, .bool b2, .int .u64 n2, .slice lo2 ln2 lc2, .slice mo2 mn2 mc2, .string I2, .string U2, .string Y2] 35) = W := ⟨_, rfl⟩
 obtain ⟨bq, hbq⟩ : ∃ b, w10.heap.size = b := ⟨_, rfl⟩
 have hb11 : Below w10.heap.size w10 W11 := by rw [← hW11]; exact below_new _ _
 have HR11 : Hid (W11.heap[bq]? = some (.cells #[.string K2, .bool h2, .int .i64 k2, .string S2, .bool b2, .int .u64 n2, .slice lo2 ln2 lc2, .slice mo2 mn2 mc2, .string I2, .string U2, .string Y2, .string K2, .bool h2, .int .i64 k2, .string S2, .bool b2, .int .u64 n2, .slice lo2 ln2 lc2, .slice mo2 mn2 mc2, .string I2, .string U2, .string Y2] 35 (0, 0))) := Lib.hid (by rw [← hW11, ← hbq]; exact heap_alloc_new _ _)
 have HB11 := Lib.hid (below_step HB10.out hb11)
 have HXK11 := Lib.hid (HXK10.out.below hb11)
 have HL11 := Lib.hid (krels_2 (HY.out.below HB11.out) HR11.out)
 have HW11 := Lib.hid hW11
 have HBQ := Lib.hid hbq
 have HALL : Hid (([y, y].all fun x => kmayD x d) = true) := Lib.hid (by rw [List.all_cons, List.all_cons, HCAN.out]; rfl)
 clear hW11 hbq hb11
 go_wp2_with fail
 rw [HW11.out, HBQ.out]
 refine (cmaykeys_any [y, y] (some ⟨bq, 0, none⟩) 2 _ W11 d (by rw [ksfit, ksfit, ksfit]; exact ⟨HYF.out, HYF.out, trivial⟩) HL11.out HD.out (by have := HKL.out; rw [ksw, ksw, ksw]; omega)).mono ?_; rintro e w12 ⟨rfl, hb⟩
 rw [HALL.out]
 have HB12 := Lib.hid (below_step HB11.out hb)
 have HXK12 := Lib.hid (HXK11.out.below hb)
 clear hb xk0 xk1 xk2 xk3 xk4 xk5 xk6 xk7 xk8 xk9 xk10
 obtain ⟨xa0, xa1, xa2, xa3, xa4, xa5, xa6, xa7⟩ := HXK12.out.a
 go_upto_region 10 with fail
 refine wp_region_litG ?_
 have HVM : Hid (vmay x d = true) := Lib.hid (by have h := HMAY.out; rw [vmayD] at h; simp only [Bool.and_eq_true] at h; exact h.2)
 have HVD : Hid (vmayD x 262144 = true) := Lib.hid (by rw [vmayD, vmay_enough x d 262144 HVM.out (by have := HVL.out; omega)]; rfl)
 iterate 4 ((first | refine wpList_plainG rfl (fun K hK => ?_) | refine wpList_yesG rfl rfl rfl rfl (fun K hK => ?_) | refine wpList_noG rfl rfl rfl rfl rfl (fun K hK => ?_) | refine wpList_unG (v := undef) rfl rfl rfl rfl (fun c h => by simp [undef] at h) (fun K hK => ?_)); go_simp; refine hK _ _ ?_; clear hK K)
 refine wpList_yesG (g := 1) (s := 77) (b := true) rfl rfl rfl rfl (fun K hK => ?_); go_simp
 refine (rov_any x [.int .i64 k1, .string S1, .bool b1, .int .u64 n1, .slice lo1 ln1 lc1, .slice mo1 mn1 mc1, .string I1, .string U1] _ w12 d HXF.out (HX.out.below HB12.out) (by have := HVL.out; omega) HVM.out).mono ?_; rintro e w13 ⟨hb, R, rfl, HR⟩
 have HB13 := Lib.hid (below_step HB12.out hb)
 have HXK13 := Lib.hid (HXK12.out.below hb)
 obtain rfl : R = SS := ByteArray.ext (Array.ext' (by rw [HR.out, HSS.out]))
 clear hb xa0 xa1 xa2 xa3 xa4 xa5 xa6 xa7 
 obtain ⟨xa0, xa1, xa2, xa3, xa4, xa5, xa6, xa7⟩ := HXK13.out.a
 refine hK _ _ ?_; clear hK K
 iterate 3 ((first | refine wpList_plainG rfl (fun K hK => ?_) | refine wpList_yesG rfl rfl rfl rfl (fun K hK => ?_) | refine wpList_noG rfl rfl rfl rfl rfl (fun K hK => ?_) | refine wpList_unG (v := undef) rfl rfl rfl rfl (fun c h => by simp [undef] at h) (fun K hK => ?_)); go_simp; refine hK _ _ ?_; clear hK K)
 refine wpList_yesG (g := 6) (s := 82) (b := false) rfl rfl rfl rfl (fun K hK => ?_); go_simp
 refine (vsize_any x [.int .i64 k1, .string S1, .bool b1, .int .u64 n1, .slice lo1 ln1 lc1, .slice mo1 mn1 mc1, .string I1, .string U1] _ w13 HXF.out (HX.out.below HB13.out) (by have := HVL.out; omega) (by have := vout_le x; have := vw_vb x; have := HVL.out; omega) HVD.out).mono ?_; rintro e w14 ⟨rfl, hb⟩
 rw [← HSZ.out]
 have HB14 := Lib.hid (below_step HB13.out hb)
 have HXK14 := Lib.hid (HXK13.out.below hb)
 clear hb xa0 xa1 xa2 xa3 xa4 xa5 xa6 xa7 
 refine hK _ _ ?_; clear hK K
 iterate 18 ((first | refine wpList_plainG rfl (fun K hK => ?_) | refine wpList_yesG rfl rfl rfl rfl (fun K hK => ?_) | refine wpList_noG rfl rfl rfl rfl rfl (fun K hK => ?_) | refine wpList_unG (v := undef) rfl rfl rfl rfl (fun c h => by simp [undef] at h) (fun K hK => ?_)); go_simp; refine hK _ _ ?_; clear hK K)
 refine wpList_nilG ?_
 go_upto_region 12 with fail
 refine wp_region_litG ?_
 refine wpList_plainG rfl (fun K hK => ?_); go_simp
 refine (first8 w14 (HG.out.below HB14.out)).mono ?_; rintro e w15 ⟨rfl, hb⟩
 have HB15 := Lib.hid (below_step HB14.out hb)
 have HXK15 := Lib.hid (HXK14.out.below hb)
 clear hb
 have HKM : Hid (kmay y d = true) := Lib.hid (by have h := HCAN.out; rw [kmayD] at h; simp only [Bool.and_eq_true] at h; exact h.2)
 have HKD : Hid (kmayD y 262144 = true) := Lib.hid (by rw [kmayD, kmay_enough y d 262144 HKM.out (by have := HKL.out; omega)]; rfl)
 obtain ⟨xk0, xk1, xk2, xk3, xk4, xk5, xk6, xk7, xk8, xk9, xk10⟩ := HXK15.out.k
 refine hK _ _ ?_; clear hK K
 iterate 5 ((first | refine wpList_plainG rfl (fun K hK => ?_) | refine wpList_yesG rfl rfl rfl rfl (fun K hK => ?_) | refine wpList_noG rfl rfl rfl rfl rfl (fun K hK => ?_) | refine wpList_unG (v := undef) rfl rfl rfl rfl (fun c h => by simp [undef] at h) (fun K hK => ?_)); go_simp; refine hK _ _ ?_; clear hK K)
 refine wpList_yesG (g := 3) (s := 106) (b := true) rfl rfl rfl rfl (fun K hK => ?_); go_simp
 refine (rok_any y [.string K2, .bool h2, .int .i64 k2, .string S2, .bool b2, .int .u64 n2, .slice lo2 ln2 lc2, .slice mo2 mn2 mc2, .string I2, .string U2, .string Y2] _ w15 d HYF.out (HY.out.below HB15.out) (by have := HKL.out; omega) HKM.out).mono ?_; rintro e w16 ⟨hb, R, rfl, HR⟩
 have HB16 := Lib.hid (below_step HB15.out hb)
 have HXK16 := Lib.hid (HXK15.out.below hb)
 obtain rfl : R = TT := ByteArray.ext (Array.ext' (by rw [HR.out, HTT.out]))
 clear hb xk0 xk1 xk2 xk3 xk4 xk5 xk6 xk7 xk8 xk9 xk10
 obtain ⟨xk0, xk1, xk2, xk3, xk4, xk5, xk6, xk7, xk8, xk9, xk10⟩ := HXK16.out.k
 refine hK _ _ ?_; clear hK K
 iterate 4 ((first | refine wpList_plainG rfl (fun K hK => ?_) | refine wpList_yesG rfl rfl rfl rfl (fun K hK => ?_) | refine wpList_noG rfl rfl rfl rfl rfl (fun K hK => ?_) | refine wpList_unG (v := undef) rfl rfl rfl rfl (fun c h => by simp [undef] at h) (fun K hK => ?_)); go_simp; refine hK _ _ ?_; clear hK K)
 refine wpList_yesG (g := 9) (s := 112) (b := true) rfl rfl rfl rfl (fun K hK => ?_); go_simp
 refine (ksize_any y [.string K2, .bool h2, .int .i64 k2, .string S2, .bool b2, .int .u64 n2, .slice lo2 ln2 lc2, .slice mo2 mn2 mc2, .string I2, .string U2, .string Y2] _ w16 HYF.out (HY.out.below HB16.out) (by have := HKL.out; omega) (by have := kout_le y; have := kw_kb y; have := HKL.out; omega) HKD.out).mono ?_; rintro e w17 ⟨rfl, hb⟩
 rw [← HTZ.out]
 have HB17 := Lib.hid (below_step HB16.out hb)
 have HXK17 := Lib.hid (HXK16.out.below hb)
 clear hb xk0 xk1 xk2 xk3 xk4 xk5 xk6 xk7 xk8 xk9 xk10
 refine hK _ _ ?_; clear hK K
 iterate 19 ((first | refine wpList_plainG rfl (fun K hK => ?_) | refine wpList_yesG rfl rfl rfl rfl (fun K hK => ?_) | refine wpList_noG rfl rfl rfl rfl rfl (fun K hK => ?_) | refine wpList_unG (v := undef) rfl rfl rfl rfl (fun c h => by simp [undef] at h) (fun K hK => ?_)); go_simp; refine hK _ _ ?_; clear hK K)
 refine wpList_nilG ?_
 go_wp2_with fail
 go_ret
 exact ⟨rfl, HB17.out⟩
set_option maxRecDepth 1000000 in
set_option maxHeartbeats 16000000 in
theorem vwrites_TF (x : Val) (y : KV) (ca ck : List Value) (d : Int) (w : World) (hg : Glob w) (hxl : vlim x) (hxf : vfit x) (hx : VRel w (fun k => k < w.heap.size) x ca) (hyl : klim y) (hyf : kfit y) (hy : KRel w (fun k => k < w.heap.size) y ck) (hd : -9223372036854775808 ≤ d ∧ d ≤ 9223372036854775807) (hmay : vmayD x d = true) (hcan : kmayD y d = false) :
  Calls Tryz.prog 4 #[.agg ca.toArray, .agg ck.toArray, .int .i64 d] w fun e w' => e = .returned (.bool true) ∧ Below w.heap.size w w' := by
 have HG := Lib.hid hg
 have HX := Lib.hid hx
 have HY := Lib.hid hy
 have HXL := Lib.hid hxl
 have HXF := Lib.hid hxf
 have HYL := Lib.hid hyl
 have HYF := Lib.hid hyf
 have HD := Lib.hid hd
 have HMAY := Lib.hid hmay
 have HCAN := Lib.hid hcan
 obtain ⟨k1, S1, b1, n1, lo1, ln1, lc1, mo1, mn1, mc1, I1, U1, rfl⟩ := hx.form
 obtain ⟨K2, h2, k2, S2, b2, n2, lo2, ln2, lc2, mo2, mn2, mc2, I2, U2, Y2, rfl⟩ := hy.form
 clear hg hxl hxf hx hyl hyf hy hd hmay hcan
 obtain ⟨W, hW⟩ : ∃ W, (w.alloc (.cells #[.int .i64 k1, .string S1, .bool b1, .int .u64 n1, .slice lo1 ln1 lc1, .slice mo1 mn1 mc1, .string I1, .string U1] 27)).alloc (.cells #[.string K2, .bool h2, .int .i64 k2, .string S2, .bool b2, .int .u64 n2, .slice lo2 ln2 lc2, .slice mo2 mn2 mc2, .string I2, .string U2, .string Y2] 35) = W := ⟨_, rfl⟩
 have HB0 : Hid (Below w.heap.size w W) := Lib.hid (by rw [← hW]; exact below_step (below_new _ _) (below_new _ _))
 have HXK0 : Hid (XK W w.heap.size [.int .i64 k1, .string S1, .bool b1, .int .u64 n1, .slice lo1 ln1 lc1, .slice mo1 mn1 mc1, .string I1, .string U1] [.string K2, .bool h2, .int .i64 k2, .string S2, .bool b2, .int .u64 n2, .slice lo2 ln2 lc2, .slice mo2 mn2 mc2, .string I2, .string U2, .string Y2]) := Lib.hid ⟨by rw [← hW]; exact (Below.heap_alloc _ _ _ (by simp)).trans (heap_alloc_new w _), by rw [← hW]; have := heap_alloc_new (w.alloc (.cells #[.int .i64 k1, .string S1, .bool b1, .int .u64 n1, .slice lo1 ln1 lc1, .slice mo1 mn1 mc1, .string I1, .string U1] 27)) (.cells #[.string K2, .bool h2, .int .i64 k2, .string S2, .bool b2, .int .u64 n2, .slice lo2 ln2 lc2, .slice mo2 mn2 mc2, .string I2, .string U2, .string Y2] 35); simpa using this⟩
 have HW := Lib.hid hW
 clear hW
 go_enter Tryz.func4, Tryz.ntmps4
 go_wp2_with fail
 rw [HW.out]
 refine (first8 W (HG.out.below HB0.out)).mono ?_; rintro e w1 ⟨rfl, hb⟩
 have HB1 := Lib.hid (below_step HB0.out hb)
 have HXK1 := Lib.hid (HXK0.out.below hb)
 clear hb
 obtain ⟨xa0, xa1, xa2, xa3, xa4, xa5, xa6, xa7⟩ := HXK1.out.a
 obtain ⟨xk0, xk1, xk2, xk3, xk4, xk5, xk6, xk7, xk8, xk9, xk10⟩ := HXK1.out.k
 go_wp2_with fail
 refine (fewv_any x [.int .i64 k1, .string S1, .bool b1, .int .u64 n1, .slice lo1 ln1 lc1, .slice mo1 mn1 mc1, .string I1, .string U1] _ w1 HXL.out HXF.out (HX.out.below HB1.out)).mono ?_; intro e w2 hpost
 obtain ⟨hb, bb, rfl, hvw⟩ := hpost
 have HB2 := Lib.hid (below_step HB1.out hb)
 have HXK2 := Lib.hid (HXK1.out.below hb)
 have HVW := Lib.hid hvw
 clear hb hvw xa0 xa1 xa2 xa3 xa4 xa5 xa6 xa7 xk0 xk1 xk2 xk3 xk4 xk5 xk6 xk7 xk8 xk9 xk10
 cases bb with
 | false =>
  go_wp2_with fail
  refine (first8 w2 (HG.out.below HB2.out)).mono ?_; rintro e w9 ⟨rfl, hb⟩
  have HB9 := Lib.hid (below_step HB2.out hb)
  clear hb
  go_wp2_with fail
  go_ret
  exact ⟨rfl, HB9.out⟩
 | true =>
 obtain ⟨xk0, xk1, xk2, xk3, xk4, xk5, xk6, xk7, xk8, xk9, xk10⟩ := HXK2.out.k
 obtain ⟨W3, hW3⟩ : ∃ W, w2.alloc (.cells #[.string K2, .bool h2, .int .i64 k2, .string S2, .bool b2, .int .u64 n2, .slice lo2 ln2 lc2, .slice mo2 mn2 mc2, .string I2, .string U2, .string Y2] 35) = W := ⟨_, rfl⟩
 obtain ⟨bk, hbk⟩ : ∃ b, w2.heap.size = b := ⟨_, rfl⟩
 have hb3 : Below w2.heap.size w2 W3 := by rw [← hW3]; exact below_new _ _
 have HR3 : Hid (W3.heap[bk]? = some (.cells #[.string K2, .bool h2, .int .i64 k2, .string S2, .bool b2, .int .u64 n2, .slice lo2 ln2 lc2, .slice mo2 mn2 mc2, .string I2, .string U2, .string Y2] 35 (0, 0))) := Lib.hid (by rw [← hW3, ← hbk]; exact heap_alloc_new _ _)
 have HB3 := Lib.hid (below_step HB2.out hb3)
 have HXK3 := Lib.hid (HXK2.out.below hb3)
 have HL3 := Lib.hid (krels_1 (HY.out.below HB3.out) HR3.out)
 have HW3 := Lib.hid hW3
 have HBK := Lib.hid hbk
 clear hW3 hbk hb3
 go_wp2_with fail
 rw [HW3.out, HBK.out]
 refine (fewk_any [y] (some ⟨bk, 0, none⟩) 1 _ W3 (by simp) (by rw [kslim, kslim]; exact ⟨HYL.out, trivial⟩) (by rw [ksfit, ksfit]; exact ⟨HYF.out, trivial⟩) HL3.out).mono ?_; intro e w4 hpost
 obtain ⟨hb, bb, rfl, hkw⟩ := hpost
 have HB4 := Lib.hid (below_step HB3.out hb)
 have HXK4 := Lib.hid (HXK3.out.below hb)
 have HKW := Lib.hid hkw
 clear hb hkw xk0 xk1 xk2 xk3 xk4 xk5 xk6 xk7 xk8 xk9 xk10
 cases bb with
 | false =>
  go_wp2_with fail
  refine (first8 w4 (HG.out.below HB4.out)).mono ?_; rintro e w9 ⟨rfl, hb⟩
  have HB9 := Lib.hid (below_step HB4.out hb)
  clear hb
  go_wp2_with fail
  go_ret
  exact ⟨rfl, HB9.out⟩
 | true =>
 have HVL : Hid (vw x ≤ 8000) := Lib.hid (by first | exact HVW.out rfl | exact HVW.out trivial)
 have HKL : Hid (kw y ≤ 8000) := Lib.hid (by
  have h : ksw [y] ≤ 8000 := by first | exact HKW.out rfl | exact HKW.out trivial
  rwa [ksw_one] at h)
 go_upto_region 5 with fail
 obtain ⟨D, hD⟩ : ∃ D, w4.drew = D := ⟨_, rfl⟩
 have hb : Below w4.heap.size w4 D := by rw [← hD]; exact (Below.refl _ _).drew
 have HBD := Lib.hid (below_step HB4.out hb)
 have hS : XK D w.heap.size [.int .i64 k1, .string S1, .bool b1, .int .u64 n1, .slice lo1 ln1 lc1, .slice mo1 mn1 mc1, .string I1, .string U1] [.string K2, .bool h2, .int .i64 k2, .string S2, .bool b2, .int .u64 n2, .slice lo2 ln2 lc2, .slice mo2 mn2 mc2, .string I2, .string U2, .string Y2] := HXK4.out.below hb
 have hne : Nonempty {w' : World // XK w' w.heap.size [.int .i64 k1, .string S1, .bool b1, .int .u64 n1, .slice lo1 ln1 lc1, .slice mo1 mn1 mc1, .string I1, .string U1] [.string K2, .bool h2, .int .i64 k2, .string S2, .bool b2, .int .u64 n2, .slice lo2 ln2 lc2, .slice mo2 mn2 mc2, .string I2, .string U2, .string Y2]} := ⟨⟨_, hS⟩⟩
 refine wp_region_seq (S := fun w' => XK w' w.heap.size [.int .i64 k1, .string S1, .bool b1, .int .u64 n1, .slice lo1 ln1 lc1, .slice mo1 mn1 mc1, .string I1, .string U1] [.string K2, .bool h2, .int .i64 k2, .string S2, .bool b2, .int .u64 n2, .slice lo2 ln2 lc2, .slice mo2 mn2 mc2, .string I2, .string U2, .string Y2]) [(0, true), (1, true), (3, true), (4, true), (2, false), (5, false), (6, true), (7, true)] (by kernel_rfl) (by kernel_rfl) (by kernel_rfl) (by kernel_rfl) (by rw [hD]; exact hS) ?_
 rw [hD]
 clear hD hb
 refine seq_take _ rfl (fun KC hK => ?_); go_simp
 refine ⟨.agg #[.int .i64 k1, .string S1, .bool b1, .int .u64 n1, .slice lo1 ln1 lc1, .slice mo1 mn1 mc1, .string I1, .string U1], fun a ha => by obtain ⟨p0, p1, p2, p3, p4, p5, p6, p7⟩ := XK.a ha; simp only [p0, p1, p2, p3, p4, p5, p6, p7, Result.andThen], hK _ ?_⟩
 clear hK KC
 refine seq_take _ rfl (fun KC hK => ?_); go_simp; (first | refine hK _ ?_ | refine ⟨_, fun _ _ => rfl, hK _ ?_⟩); clear hK KC
 refine seq_take _ rfl (fun KC hK => ?_); go_simp
 refine ⟨.agg #[.string K2, .bool h2, .int .i64 k2, .string S2, .bool b2, .int .u64 n2, .slice lo2 ln2 lc2, .slice mo2 mn2 mc2, .string I2, .string U2, .string Y2], fun a ha => by obtain ⟨p0, p1, p2, p3, p4, p5, p6, p7, p8, p9, p10⟩ := XK.k ha; simp only [p0, p1, p2, p3, p4, p5, p6, p7, p8, p9, p10, Result.andThen], hK _ ?_⟩
 clear hK KC
 refine seq_take _ rfl (fun KC hK => ?_); go_simp; (first | refine hK _ ?_ | refine ⟨_, fun _ _ => rfl, hK _ ?_⟩); clear hK KC
 refine seq_come _ rfl (fun KC hK => ?_); go_simp
 refine (mayv_any8 x [.int .i64 k1, .string S1, .bool b1, .int .u64 n1, .slice lo1 ln1 lc1, .slice mo1 mn1 mc1, .string I1, .string U1] _ D d HXF.out (HX.out.below HBD.out) (by have := HD.out; omega) (by have := HVL.out; omega)).mono ?_; rintro e w5 ⟨hb, g, rfl, hg⟩
 obtain rfl : g = true := by rw [hg]; exact HMAY.out
 have HB5 := Lib.hid (below_step HBD.out hb)
 have hS5 : XK w5 w.heap.size [.int .i64 k1, .string S1, .bool b1, .int .u64 n1, .slice lo1 ln1 lc1, .slice mo1 mn1 mc1, .string I1, .string U1] [.string K2, .bool h2, .int .i64 k2, .string S2, .bool b2, .int .u64 n2, .slice lo2 ln2 lc2, .slice mo2 mn2 mc2, .string I2, .string U2, .string Y2] := hS.below hb
 go_simp; refine hK.out _ _ hS5 ?_; clear hK KC hb hg
 refine seq_come _ rfl (fun KC hK => ?_); go_simp
 refine (mayk_any8 y [.string K2, .bool h2, .int .i64 k2, .string S2, .bool b2, .int .u64 n2, .slice lo2 ln2 lc2, .slice mo2 mn2 mc2, .string I2, .string U2, .string Y2] _ w5 d HYF.out (HY.out.below HB5.out) (by have := HD.out; omega) (by have := HKL.out; omega)).mono ?_; rintro e w6 ⟨hb, g, rfl, hg⟩
 obtain rfl : g = false := by rw [hg]; exact HCAN.out
 have HB6 := Lib.hid (below_step HB5.out hb)
 have hS6 : XK w6 w.heap.size [.int .i64 k1, .string S1, .bool b1, .int .u64 n1, .slice lo1 ln1 lc1, .slice mo1 mn1 mc1, .string I1, .string U1] [.string K2, .bool h2, .int .i64 k2, .string S2, .bool b2, .int .u64 n2, .slice lo2 ln2 lc2, .slice mo2 mn2 mc2, .string I2, .string U2, .string Y2] := hS5.below hb
 go_simp; refine hK.out _ _ hS6 ?_; clear hK KC hb hg
 iterate 2 (refine seq_take _ rfl (fun KC hK => ?_); go_simp; (first | refine hK _ ?_ | refine ⟨_, fun _ _ => rfl, hK _ ?_⟩); clear hK KC)
 refine seq_done ?_
 have HXK6 := Lib.hid hS6
 clear hne hS hS5 hS6
 obtain ⟨xa0, xa1, xa2, xa3, xa4, xa5, xa6, xa7⟩ := HXK6.out.a
 go_wp2_with fail
 refine (vmarshal_any x [.int .i64 k1, .string S1, .bool b1, .int .u64 n1, .slice lo1 ln1 lc1, .slice mo1 mn1 mc1, .string I1, .string U1] _ d w6 HXF.out (HX.out.below HB6.out) HD.out (by have := HVL.out; omega)).mono ?_; rintro e w7 ⟨hb, hcase⟩
 rw [HMAY.out] at hcase
 have HB7 := Lib.hid (below_step HB6.out hb)
 have HXK7 := Lib.hid (HXK6.out.below hb)
 rw [if_pos rfl] at hcase
 subst hcase
 obtain ⟨SS, hSS⟩ : ∃ S : ByteArray, (⟨(vout x).toArray⟩ : ByteArray) = S := ⟨_, rfl⟩
 have HSS : Hid (SS.data.toList = vout x) := Lib.hid (by rw [← hSS])
 have HSZ : Hid (SS.size = (vout x).length) := Lib.hid (by rw [← hSS]; simp [ByteArray.size])
 have hss : SS.size ≤ 100000 := by rw [HSZ.out]; have := vout_le x; have := vw_vb x; have := HVL.out; omega
 rw [hSS]
 clear hSS
 clear hb xa0 xa1 xa2 xa3 xa4 xa5 xa6 xa7 
 obtain ⟨xk0, xk1, xk2, xk3, xk4, xk5, xk6, xk7, xk8, xk9, xk10⟩ := HXK7.out.k
 go_wp2_with fail
 refine (kmarshal_any y [.string K2, .bool h2, .int .i64 k2, .string S2, .bool b2, .int .u64 n2, .slice lo2 ln2 lc2, .slice mo2 mn2 mc2, .string I2, .string U2, .string Y2] _ d w7 HYF.out (HY.out.below HB7.out) HD.out (by have := HKL.out; omega)).mono ?_; rintro e w8 ⟨hb, hcase⟩
 rw [HCAN.out] at hcase
 have HB8 := Lib.hid (below_step HB7.out hb)
 have HXK8 := Lib.hid (HXK7.out.below hb)
 rw [if_neg (by simp)] at hcase
 obtain ⟨v, rfl, hec⟩ := hcase
 obtain ⟨T8, y8, rfl⟩ := hec.iface
 have HF8 := Lib.hid hec
 clear hec
 clear hb xk0 xk1 xk2 xk3 xk4 xk5 xk6 xk7 xk8 xk9 xk10
 obtain ⟨xa0, xa1, xa2, xa3, xa4, xa5, xa6, xa7⟩ := HXK8.out.a
 go_wp2_with fail
 refine (vmay_any x [.int .i64 k1, .string S1, .bool b1, .int .u64 n1, .slice lo1 ln1 lc1, .slice mo1 mn1 mc1, .string I1, .string U1] _ d w8 HXF.out (HX.out.below HB8.out) HD.out (by have := HVL.out; omega)).mono ?_; rintro e w9 ⟨rfl, hb⟩
 rw [HMAY.out]
 have HB9 := Lib.hid (below_step HB8.out hb)
 have HXK9 := Lib.hid (HXK8.out.below hb)
 have HF9 := Lib.hid (HF8.out.below hb)
 clear hb xa0 xa1 xa2 xa3 xa4 xa5 xa6 xa7 
 obtain ⟨xk0, xk1, xk2, xk3, xk4, xk5, xk6, xk7, xk8, xk9, xk10⟩ := HXK9.out.k
 go_wp2_with fail
 refine (kmay_any y [.string K2, .bool h2, .int .i64 k2, .string S2, .bool b2, .int .u64 n2, .slice lo2 ln2 lc2, .slice mo2 mn2 mc2, .string I2, .string U2, .string Y2] _ d w9 HYF.out (HY.out.below HB9.out) HD.out (by have := HKL.out; omega)).mono ?_; rintro e w10 ⟨rfl, hb⟩
 rw [HCAN.out]
 have HB10 := Lib.hid (below_step HB9.out hb)
 have HXK10 := Lib.hid (HXK9.out.below hb)
 have HF10 := Lib.hid (HF9.out.below hb)
 clear hb xk0 xk1 xk2 xk3 xk4 xk5 xk6 xk7 xk8 xk9 xk10
 obtain ⟨xk0, xk1, xk2, xk3, xk4, xk5, xk6, xk7, xk8, xk9, xk10⟩ := HXK10.out.k
 obtain ⟨W11, hW11⟩ : ∃ W, w10.alloc (.cells #[.string K2, .bool h2, .int .i64 k2, .string S2, .bool b2, .int .u64 n2, .slice lo2 ln2 lc2, .slice mo2 mn2 mc2, .string I2, .string U2, .string Y2, .string K2, .bool h2, .int .i64 k2, .string S2, .bool b2, .int .u64 n2, .slice lo2 ln2 lc2, .slice mo2 mn2 mc2, .string I2, .string U2, .string Y2] 35) = W := ⟨_, rfl⟩
 obtain ⟨bq, hbq⟩ : ∃ b, w10.heap.size = b := ⟨_, rfl⟩
 have hb11 : Below w10.heap.size w10 W11 := by rw [← hW11]; exact below_new _ _
 have HR11 : Hid (W11.heap[bq]? = some (.cells #[.string K2, .bool h2, .int .i64 k2, .string S2, .bool b2, .int .u64 n2, .slice lo2 ln2 lc2, .slice mo2 mn2 mc2, .string I2, .string U2, .string Y2, .string K2, .bool h2, .int .i64 k2, .string S2, .bool b2, .int .u64 n2, .slice lo2 ln2 lc2, .slice mo2 mn2 mc2, .string I2, .string U2, .string Y2] 35 (0, 0))) := Lib.hid (by rw [← hW11, ← hbq]; exact heap_alloc_new _ _)
 have HB11 := Lib.hid (below_step HB10.out hb11)
 have HXK11 := Lib.hid (HXK10.out.below hb11)
 have HL11 := Lib.hid (krels_2 (HY.out.below HB11.out) HR11.out)
 have HW11 := Lib.hid hW11
 have HBQ := Lib.hid hbq
 have HALL : Hid (([y, y].all fun x => kmayD x d) = false) := Lib.hid (by rw [List.all_cons, List.all_cons, HCAN.out]; rfl)
 have HF11 := Lib.hid (HF10.out.below hb11)
 clear hW11 hbq hb11
 go_wp2_with fail
 rw [HW11.out, HBQ.out]
 refine (cmaykeys_any [y, y] (some ⟨bq, 0, none⟩) 2 _ W11 d (by rw [ksfit, ksfit, ksfit]; exact ⟨HYF.out, HYF.out, trivial⟩) HL11.out HD.out (by have := HKL.out; rw [ksw, ksw, ksw]; omega)).mono ?_; rintro e w12 ⟨rfl, hb⟩
 rw [HALL.out]
 have HB12 := Lib.hid (below_step HB11.out hb)
 have HXK12 := Lib.hid (HXK11.out.below hb)
 have HF12 := Lib.hid (HF11.out.below hb)
 clear hb xk0 xk1 xk2 xk3 xk4 xk5 xk6 xk7 xk8 xk9 xk10
 obtain ⟨xa0, xa1, xa2, xa3, xa4, xa5, xa6, xa7⟩ := HXK12.out.a
 go_upto_region 10 with fail
 refine wp_region_litG ?_
 have HVM : Hid (vmay x d = true) := Lib.hid (by have h := HMAY.out; rw [vmayD] at h; simp only [Bool.and_eq_true] at h; exact h.2)
 have HVD : Hid (vmayD x 262144 = true) := Lib.hid (by rw [vmayD, vmay_enough x d 262144 HVM.out (by have := HVL.out; omega)]; rfl)
 iterate 4 ((first | refine wpList_plainG rfl (fun K hK => ?_) | refine wpList_yesG rfl rfl rfl rfl (fun K hK => ?_) | refine wpList_noG rfl rfl rfl rfl rfl (fun K hK => ?_) | refine wpList_unG (v := undef) rfl rfl rfl rfl (fun c h => by simp [undef] at h) (fun K hK => ?_)); go_simp; refine hK _ _ ?_; clear hK K)
 refine wpList_yesG (g := 1) (s := 77) (b := true) rfl rfl rfl rfl (fun K hK => ?_); go_simp
 refine (rov_any x [.int .i64 k1, .string S1, .bool b1, .int .u64 n1, .slice lo1 ln1 lc1, .slice mo1 mn1 mc1, .string I1, .string U1] _ w12 d HXF.out (HX.out.below HB12.out) (by have := HVL.out; omega) HVM.out).mono ?_; rintro e w13 ⟨hb, R, rfl, HR⟩
 have HB13 := Lib.hid (below_step HB12.out hb)
 have HXK13 := Lib.hid (HXK12.out.below hb)
 have HF13 := Lib.hid (HF12.out.below hb)
 obtain rfl : R = SS := ByteArray.ext (Array.ext' (by rw [HR.out, HSS.out]))
 clear hb xa0 xa1 xa2 xa3 xa4 xa5 xa6 xa7 
 obtain ⟨xa0, xa1, xa2, xa3, xa4, xa5, xa6, xa7⟩ := HXK13.out.a
 refine hK _ _ ?_; clear hK K
 iterate 3 ((first | refine wpList_plainG rfl (fun K hK => ?_) | refine wpList_yesG rfl rfl rfl rfl (fun K hK => ?_) | refine wpList_noG rfl rfl rfl rfl rfl (fun K hK => ?_) | refine wpList_unG (v := undef) rfl rfl rfl rfl (fun c h => by simp [undef] at h) (fun K hK => ?_)); go_simp; refine hK _ _ ?_; clear hK K)
 refine wpList_yesG (g := 6) (s := 82) (b := false) rfl rfl rfl rfl (fun K hK => ?_); go_simp
 refine (vsize_any x [.int .i64 k1, .string S1, .bool b1, .int .u64 n1, .slice lo1 ln1 lc1, .slice mo1 mn1 mc1, .string I1, .string U1] _ w13 HXF.out (HX.out.below HB13.out) (by have := HVL.out; omega) (by have := vout_le x; have := vw_vb x; have := HVL.out; omega) HVD.out).mono ?_; rintro e w14 ⟨rfl, hb⟩
 rw [← HSZ.out]
 have HB14 := Lib.hid (below_step HB13.out hb)
 have HXK14 := Lib.hid (HXK13.out.below hb)
 have HF14 := Lib.hid (HF13.out.below hb)
 clear hb xa0 xa1 xa2 xa3 xa4 xa5 xa6 xa7 
 refine hK _ _ ?_; clear hK K
 iterate 18 ((first | refine wpList_plainG rfl (fun K hK => ?_) | refine wpList_yesG rfl rfl rfl rfl (fun K hK => ?_) | refine wpList_noG rfl rfl rfl rfl rfl (fun K hK => ?_) | refine wpList_unG (v := undef) rfl rfl rfl rfl (fun c h => by simp [undef] at h) (fun K hK => ?_)); go_simp; refine hK _ _ ?_; clear hK K)
 refine wpList_nilG ?_
 go_upto_region 12 with fail
 refine wp_region_litG ?_
 refine wpList_plainG rfl (fun K hK => ?_); go_simp
 refine (first8 w14 (HG.out.below HB14.out)).mono ?_; rintro e w15 ⟨rfl, hb⟩
 have HB15 := Lib.hid (below_step HB14.out hb)
 have HXK15 := Lib.hid (HXK14.out.below hb)
 have HF15 := Lib.hid (HF14.out.below hb)
 clear hb
 refine hK _ _ ?_; clear hK K
 iterate 24 ((first | refine wpList_plainG rfl (fun K hK => ?_) | refine wpList_yesG rfl rfl rfl rfl (fun K hK => ?_) | refine wpList_noG rfl rfl rfl rfl rfl (fun K hK => ?_) | refine wpList_unG (v := undef) rfl rfl rfl rfl (fun c h => by simp [undef] at h) (fun K hK => ?_)); go_simp; refine hK _ _ ?_; clear hK K)
 refine wpList_yesG (g := 23) (s := 126) (b := true) rfl rfl rfl rfl (fun K hK => ?_); go_simp
 refine (codeIs_any _ 8 w15 (.inr HF15.out) (HG.out.below HB15.out)).mono ?_; rintro e w17 ⟨rfl, hb⟩
 have HB17 := Lib.hid (below_step HB15.out hb)
 have HXK17 := Lib.hid (HXK15.out.below hb)
 have HF17 := Lib.hid (HF15.out.below hb)
 clear hb 
 refine hK _ _ ?_; clear hK K
 iterate 5 ((first | refine wpList_plainG rfl (fun K hK => ?_) | refine wpList_yesG rfl rfl rfl rfl (fun K hK => ?_) | refine wpList_noG rfl rfl rfl rfl rfl (fun K hK => ?_) | refine wpList_unG (v := undef) rfl rfl rfl rfl (fun c h => by simp [undef] at h) (fun K hK => ?_)); go_simp; refine hK _ _ ?_; clear hK K)
 refine wpList_nilG ?_
 go_wp2_with fail
 go_ret
 exact ⟨rfl, HB17.out⟩
set_option maxRecDepth 1000000 in
set_option maxHeartbeats 16000000 in
theorem vwrites_FT (x : Val) (y : KV) (ca ck : List Value) (d : Int) (w : World) (hg : Glob w) (hxl : vlim x) (hxf : vfit x) (hx : VRel w (fun k => k < w.heap.size) x ca) (hyl : klim y) (hyf : kfit y) (hy : KRel w (fun k => k < w.heap.size) y ck) (hd : -9223372036854775808 ≤ d ∧ d ≤ 9223372036854775807) (hmay : vmayD x d = false) (hcan : kmayD y d = true) :
  Calls Tryz.prog 4 #[.agg ca.toArray, .agg ck.toArray, .int .i64 d] w fun e w' => e = .returned (.bool true) ∧ Below w.heap.size w w' := by
 have HG := Lib.hid hg
 have HX := Lib.hid hx
 have HY := Lib.hid hy
 have HXL := Lib.hid hxl
 have HXF := Lib.hid hxf
 have HYL := Lib.hid hyl
 have HYF := Lib.hid hyf
 have HD := Lib.hid hd
 have HMAY := Lib.hid hmay
 have HCAN := Lib.hid hcan
 obtain ⟨k1, S1, b1, n1, lo1, ln1, lc1, mo1, mn1, mc1, I1, U1, rfl⟩ := hx.form
 obtain ⟨K2, h2, k2, S2, b2, n2, lo2, ln2, lc2, mo2, mn2, mc2, I2, U2, Y2, rfl⟩ := hy.form
 clear hg hxl hxf hx hyl hyf hy hd hmay hcan
 obtain ⟨W, hW⟩ : ∃ W, (w.alloc (.cells #[.int .i64 k1, .string S1, .bool b1, .int .u64 n1, .slice lo1 ln1 lc1, .slice mo1 mn1 mc1, .string I1, .string U1] 27)).alloc (.cells #[.string K2, .bool h2, .int .i64 k2, .string S2, .bool b2, .int .u64 n2, .slice lo2 ln2 lc2, .slice mo2 mn2 mc2, .string I2, .string U2, .string Y2] 35) = W := ⟨_, rfl⟩
 have HB0 : Hid (Below w.heap.size w W) := Lib.hid (by rw [← hW]; exact below_step (below_new _ _) (below_new _ _))
 have HXK0 : Hid (XK W w.heap.size [.int .i64 k1, .string S1, .bool b1, .int .u64 n1, .slice lo1 ln1 lc1, .slice mo1 mn1 mc1, .string I1, .string U1] [.string K2, .bool h2, .int .i64 k2, .string S2, .bool b2, .int .u64 n2, .slice lo2 ln2 lc2, .slice mo2 mn2 mc2, .string I2, .string U2, .string Y2]) := Lib.hid ⟨by rw [← hW]; exact (Below.heap_alloc _ _ _ (by simp)).trans (heap_alloc_new w _), by rw [← hW]; have := heap_alloc_new (w.alloc (.cells #[.int .i64 k1, .string S1, .bool b1, .int .u64 n1, .slice lo1 ln1 lc1, .slice mo1 mn1 mc1, .string I1, .string U1] 27)) (.cells #[.string K2, .bool h2, .int .i64 k2, .string S2, .bool b2, .int .u64 n2, .slice lo2 ln2 lc2, .slice mo2 mn2 mc2, .string I2, .string U2, .string Y2] 35); simpa using this⟩
 have HW := Lib.hid hW
 clear hW
 go_enter Tryz.func4, Tryz.ntmps4
 go_wp2_with fail
 rw [HW.out]
 refine (first8 W (HG.out.below HB0.out)).mono ?_; rintro e w1 ⟨rfl, hb⟩
 have HB1 := Lib.hid (below_step HB0.out hb)
 have HXK1 := Lib.hid (HXK0.out.below hb)
 clear hb
 obtain ⟨xa0, xa1, xa2, xa3, xa4, xa5, xa6, xa7⟩ := HXK1.out.a
 obtain ⟨xk0, xk1, xk2, xk3, xk4, xk5, xk6, xk7, xk8, xk9, xk10⟩ := HXK1.out.k
 go_wp2_with fail
 refine (fewv_any x [.int .i64 k1, .string S1, .bool b1, .int .u64 n1, .slice lo1 ln1 lc1, .slice mo1 mn1 mc1, .string I1, .string U1] _ w1 HXL.out HXF.out (HX.out.below HB1.out)).mono ?_; intro e w2 hpost
 obtain ⟨hb, bb, rfl, hvw⟩ := hpost
 have HB2 := Lib.hid (below_step HB1.out hb)
 have HXK2 := Lib.hid (HXK1.out.below hb)
 have HVW := Lib.hid hvw
 clear hb hvw xa0 xa1 xa2 xa3 xa4 xa5 xa6 xa7 xk0 xk1 xk2 xk3 xk4 xk5 xk6 xk7 xk8 xk9 xk10
 cases bb with
 | false =>
  go_wp2_with fail
  refine (first8 w2 (HG.out.below HB2.out)).mono ?_; rintro e w9 ⟨rfl, hb⟩
  have HB9 := Lib.hid (below_step HB2.out hb)
  clear hb
  go_wp2_with fail
  go_ret
  exact ⟨rfl, HB9.out⟩
 | true =>
 obtain ⟨xk0, xk1, xk2, xk3, xk4, xk5, xk6, xk7, xk8, xk9, xk10⟩ := HXK2.out.k
 obtain ⟨W3, hW3⟩ : ∃ W, w2.alloc (.cells #[.string K2, .bool h2, .int .i64 k2, .string S2, .bool b2, .int .u64 n2, .slice lo2 ln2 lc2, .slice mo2 mn2 mc2, .string I2, .string U2, .string Y2] 35) = W := ⟨_, rfl⟩
 obtain ⟨bk, hbk⟩ : ∃ b, w2.heap.size = b := ⟨_, rfl⟩
 have hb3 : Below w2.heap.size w2 W3 := by rw [← hW3]; exact below_new _ _
 have HR3 : Hid (W3.heap[bk]? = some (.cells #[.string K2, .bool h2, .int .i64 k2, .string S2, .bool b2, .int .u64 n2, .slice lo2 ln2 lc2, .slice mo2 mn2 mc2, .string I2, .string U2, .string Y2] 35 (0, 0))) := Lib.hid (by rw [← hW3, ← hbk]; exact heap_alloc_new _ _)
 have HB3 := Lib.hid (below_step HB2.out hb3)
 have HXK3 := Lib.hid (HXK2.out.below hb3)
 have HL3 := Lib.hid (krels_1 (HY.out.below HB3.out) HR3.out)
 have HW3 := Lib.hid hW3
 have HBK := Lib.hid hbk
 clear hW3 hbk hb3
 go_wp2_with fail
 rw [HW3.out, HBK.out]
 refine (fewk_any [y] (some ⟨bk, 0, none⟩) 1 _ W3 (by simp) (by rw [kslim, kslim]; exact ⟨HYL.out, trivial⟩) (by rw [ksfit, ksfit]; exact ⟨HYF.out, trivial⟩) HL3.out).mono ?_; intro e w4 hpost
 obtain ⟨hb, bb, rfl, hkw⟩ := hpost
 have HB4 := Lib.hid (below_step HB3.out hb)
 have HXK4 := Lib.hid (HXK3.out.below hb)
 have HKW := Lib.hid hkw
 clear hb hkw xk0 xk1 xk2 xk3 xk4 xk5 xk6 xk7 xk8 xk9 xk10
 cases bb with
 | false =>
  go_wp2_with fail
  refine (first8 w4 (HG.out.below HB4.out)).mono ?_; rintro e w9 ⟨rfl, hb⟩
  have HB9 := Lib.hid (below_step HB4.out hb)
  clear hb
  go_wp2_with fail
  go_ret
  exact ⟨rfl, HB9.out⟩
 | true =>
 have HVL : Hid (vw x ≤ 8000) := Lib.hid (by first | exact HVW.out rfl | exact HVW.out trivial)
 have HKL : Hid (kw y ≤ 8000) := Lib.hid (by
  have h : ksw [y] ≤ 8000 := by first | exact HKW.out rfl | exact HKW.out trivial
  rwa [ksw_one] at h)
 go_upto_region 5 with fail
 obtain ⟨D, hD⟩ : ∃ D, w4.drew = D := ⟨_, rfl⟩
 have hb : Below w4.heap.size w4 D := by rw [← hD]; exact (Below.refl _ _).drew
 have HBD := Lib.hid (below_step HB4.out hb)
 have hS : XK D w.heap.size [.int .i64 k1, .string S1, .bool b1, .int .u64 n1, .slice lo1 ln1 lc1, .slice mo1 mn1 mc1, .string I1, .string U1] [.string K2, .bool h2, .int .i64 k2, .string S2, .bool b2, .int .u64 n2, .slice lo2 ln2 lc2, .slice mo2 mn2 mc2, .string I2, .string U2, .string Y2] := HXK4.out.below hb
 have hne : Nonempty {w' : World // XK w' w.heap.size [.int .i64 k1, .string S1, .bool b1, .int .u64 n1, .slice lo1 ln1 lc1, .slice mo1 mn1 mc1, .string I1, .string U1] [.string K2, .bool h2, .int .i64 k2, .string S2, .bool b2, .int .u64 n2, .slice lo2 ln2 lc2, .slice mo2 mn2 mc2, .string I2, .string U2, .string Y2]} := ⟨⟨_, hS⟩⟩
 refine wp_region_seq (S := fun w' => XK w' w.heap.size [.int .i64 k1, .string S1, .bool b1, .int .u64 n1, .slice lo1 ln1 lc1, .slice mo1 mn1 mc1, .string I1, .string U1] [.string K2, .bool h2, .int .i64 k2, .string S2, .bool b2, .int .u64 n2, .slice lo2 ln2 lc2, .slice mo2 mn2 mc2, .string I2, .string U2, .string Y2]) [(0, true), (1, true), (3, true), (4, true), (2, false), (5, false), (6, true), (7, true)] (by kernel_rfl) (by kernel_rfl) (by kernel_rfl) (by kernel_rfl) (by rw [hD]; exact hS) ?_
 rw [hD]
 clear hD hb
 refine seq_take _ rfl (fun KC hK => ?_); go_simp
 refine ⟨.agg #[.int .i64 k1, .string S1, .bool b1, .int .u64 n1, .slice lo1 ln1 lc1, .slice mo1 mn1 mc1, .string I1, .string U1], fun a ha => by obtain ⟨p0, p1, p2, p3, p4, p5, p6, p7⟩ := XK.a ha; simp only [p0, p1, p2, p3, p4, p5, p6, p7, Result.andThen], hK _ ?_⟩
 clear hK KC
 refine seq_take _ rfl (fun KC hK => ?_); go_simp; (first | refine hK _ ?_ | refine ⟨_, fun _ _ => rfl, hK _ ?_⟩); clear hK KC
 refine seq_take _ rfl (fun KC hK => ?_); go_simp
 refine ⟨.agg #[.string K2, .bool h2, .int .i64 k2, .string S2, .bool b2, .int .u64 n2, .slice lo2 ln2 lc2, .slice mo2 mn2 mc2, .string I2, .string U2, .string Y2], fun a ha => by obtain ⟨p0, p1, p2, p3, p4, p5, p6, p7, p8, p9, p10⟩ := XK.k ha; simp only [p0, p1, p2, p3, p4, p5, p6, p7, p8, p9, p10, Result.andThen], hK _ ?_⟩
 clear hK KC
 refine seq_take _ rfl (fun KC hK => ?_); go_simp; (first | refine hK _ ?_ | refine ⟨_, fun _ _ => rfl, hK _ ?_⟩); clear hK KC
 refine seq_come _ rfl (fun KC hK => ?_); go_simp
 refine (mayv_any8 x [.int .i64 k1, .string S1, .bool b1, .int .u64 n1, .slice lo1 ln1 lc1, .slice mo1 mn1 mc1, .string I1, .string U1] _ D d HXF.out (HX.out.below HBD.out) (by have := HD.out; omega) (by have := HVL.out; omega)).mono ?_; rintro e w5 ⟨hb, g, rfl, hg⟩
 obtain rfl : g = false := by rw [hg]; exact HMAY.out
 have HB5 := Lib.hid (below_step HBD.out hb)
 have hS5 : XK w5 w.heap.size [.int .i64 k1, .string S1, .bool b1, .int .u64 n1, .slice lo1 ln1 lc1, .slice mo1 mn1 mc1, .string I1, .string U1] [.string K2, .bool h2, .int .i64 k2, .string S2, .bool b2, .int .u64 n2, .slice lo2 ln2 lc2, .slice mo2 mn2 mc2, .string I2, .string U2, .string Y2] := hS.below hb
 go_simp; refine hK.out _ _ hS5 ?_; clear hK KC hb hg
 refine seq_come _ rfl (fun KC hK => ?_); go_simp
 refine (mayk_any8 y [.string K2, .bool h2, .int .i64 k2, .string S2, .bool b2, .int .u64 n2, .slice lo2 ln2 lc2, .slice mo2 mn2 mc2, .string I2, .string U2, .string Y2] _ w5 d HYF.out (HY.out.below HB5.out) (by have := HD.out; omega) (by have := HKL.out; omega)).mono ?_; rintro e w6 ⟨hb, g, rfl, hg⟩
 obtain rfl : g = true := by rw [hg]; exact HCAN.out
 have HB6 := Lib.hid (below_step HB5.out hb)
 have hS6 : XK w6 w.heap.size [.int .i64 k1, .string S1, .bool b1, .int .u64 n1, .slice lo1 ln1 lc1, .slice mo1 mn1 mc1, .string I1, .string U1] [.string K2, .bool h2, .int .i64 k2, .string S2, .bool b2, .int .u64 n2, .slice lo2 ln2 lc2, .slice mo2 mn2 mc2, .string I2, .string U2, .string Y2] := hS5.below hb
 go_simp; refine hK.out _ _ hS6 ?_; clear hK KC hb hg
 iterate 2 (refine seq_take _ rfl (fun KC hK => ?_); go_simp; (first | refine hK _ ?_ | refine ⟨_, fun _ _ => rfl, hK _ ?_⟩); clear hK KC)
 refine seq_done ?_
 have HXK6 := Lib.hid hS6
 clear hne hS hS5 hS6
 obtain ⟨xa0, xa1, xa2, xa3, xa4, xa5, xa6, xa7⟩ := HXK6.out.a
 go_wp2_with fail
 refine (vmarshal_any x [.int .i64 k1, .string S1, .bool b1, .int .u64 n1, .slice lo1 ln1 lc1, .slice mo1 mn1 mc1, .string I1, .string U1] _ d w6 HXF.out (HX.out.below HB6.out) HD.out (by have := HVL.out; omega)).mono ?_; rintro e w7 ⟨hb, hcase⟩
 rw [HMAY.out] at hcase
 have HB7 := Lib.hid (below_step HB6.out hb)
 have HXK7 := Lib.hid (HXK6.out.below hb)
 rw [if_neg (by simp)] at hcase
 obtain ⟨v, rfl, hec⟩ := hcase
 obtain ⟨T7, y7, rfl⟩ := hec.iface
 have HE7 := Lib.hid hec
 clear hec
 clear hb xa0 xa1 xa2 xa3 xa4 xa5 xa6 xa7 
 obtain ⟨xk0, xk1, xk2, xk3, xk4, xk5, xk6, xk7, xk8, xk9, xk10⟩ := HXK7.out.k
 go_wp2_with fail
 refine (kmarshal_any y [.string K2, .bool h2, .int .i64 k2, .string S2, .bool b2, .int .u64 n2, .slice lo2 ln2 lc2, .slice mo2 mn2 mc2, .string I2, .string U2, .string Y2] _ d w7 HYF.out (HY.out.below HB7.out) HD.out (by have := HKL.out; omega)).mono ?_; rintro e w8 ⟨hb, hcase⟩
 rw [HCAN.out] at hcase
 have HB8 := Lib.hid (below_step HB7.out hb)
 have HXK8 := Lib.hid (HXK7.out.below hb)
 have HE8 := Lib.hid (HE7.out.below hb)
 rw [if_pos rfl] at hcase
 subst hcase
 obtain ⟨TT, hTT⟩ : ∃ S : ByteArray, (⟨(kout y).toArray⟩ : ByteArray) = S := ⟨_, rfl⟩
 have HTT : Hid (TT.data.toList = kout y) := Lib.hid (by rw [← hTT])
 have HTZ : Hid (TT.size = (kout y).length) := Lib.hid (by rw [← hTT]; simp [ByteArray.size])
 have hts : TT.size ≤ 100000 := by rw [HTZ.out]; have := kout_le y; have := kw_kb y; have := HKL.out; omega
 rw [hTT]
 clear hTT
 clear hb xk0 xk1 xk2 xk3 xk4 xk5 xk6 xk7 xk8 xk9 xk10
 obtain ⟨xa0, xa1, xa2, xa3, xa4, xa5, xa6, xa7⟩ := HXK8.out.a
 go_wp2_with fail
 refine (vmay_any x [.int .i64 k1, .string S1, .bool b1, .int .u64 n1, .slice lo1 ln1 lc1, .slice mo1 mn1 mc1, .string I1, .string U1] _ d w8 HXF.out (HX.out.below HB8.out) HD.out (by have := HVL.out; omega)).mono ?_; rintro e w9 ⟨rfl, hb⟩
 rw [HMAY.out]
 have HB9 := Lib.hid (below_step HB8.out hb)
 have HXK9 := Lib.hid (HXK8.out.below hb)
 have HE9 := Lib.hid (HE8.out.below hb)
 clear hb xa0 xa1 xa2 xa3 xa4 xa5 xa6 xa7 
 obtain ⟨xk0, xk1, xk2, xk3, xk4, xk5, xk6, xk7, xk8, xk9, xk10⟩ := HXK9.out.k
 go_wp2_with fail
 refine (kmay_any y [.string K2, .bool h2, .int .i64 k2, .string S2, .bool b2, .int .u64 n2, .slice lo2 ln2 lc2, .slice mo2 mn2 mc2, .string I2, .string U2, .string Y2] _ d w9 HYF.out (HY.out.below HB9.out) HD.out (by have := HKL.out; omega)).mono ?_; rintro e w10 ⟨rfl, hb⟩
 rw [HCAN.out]
 have HB10 := Lib.hid (below_step HB9.out hb)
 have HXK10 := Lib.hid (HXK9.out.below hb)
 have HE10 := Lib.hid (HE9.out.below hb)
 clear hb xk0 xk1 xk2 xk3 xk4 xk5 xk6 xk7 xk8 xk9 xk10
 obtain ⟨xk0, xk1, xk2, xk3, xk4, xk5, xk6, xk7, xk8, xk9, xk10⟩ := HXK10.out.k
 obtain ⟨W11, hW11⟩ : ∃ W, w10.alloc (.cells #[.string K2, .bool h2, .int .i64 k2, .string S2, .bool b2, .int .u64 n2, .slice lo2 ln2 lc2, .slice mo2 mn2 mc2, .string I2, .string U2, .string Y2, .string K2, .bool h2, .int .i64 k2, .string S2, .bool b2, .int .u64 n2, .slice lo2 ln2 lc2, .slice mo2 mn2 mc2, .string I2, .string U2, .string Y2] 35) = W := ⟨_, rfl⟩
 obtain ⟨bq, hbq⟩ : ∃ b, w10.heap.size = b := ⟨_, rfl⟩
 have hb11 : Below w10.heap.size w10 W11 := by rw [← hW11]; exact below_new _ _
 have HR11 : Hid (W11.heap[bq]? = some (.cells #[.string K2, .bool h2, .int .i64 k2, .string S2, .bool b2, .int .u64 n2, .slice lo2 ln2 lc2, .slice mo2 mn2 mc2, .string I2, .string U2, .string Y2, .string K2, .bool h2, .int .i64 k2, .string S2, .bool b2, .int .u64 n2, .slice lo2 ln2 lc2, .slice mo2 mn2 mc2, .string I2, .string U2, .string Y2] 35 (0, 0))) := Lib.hid (by rw [← hW11, ← hbq]; exact heap_alloc_new _ _)
 have HB11 := Lib.hid (below_step HB10.out hb11)
 have HXK11 := Lib.hid (HXK10.out.below hb11)
 have HL11 := Lib.hid (krels_2 (HY.out.below HB11.out) HR11.out)
 have HW11 := Lib.hid hW11
 have HBQ := Lib.hid hbq
 have HALL : Hid (([y, y].all fun x => kmayD x d) = true) := Lib.hid (by rw [List.all_cons, List.all_cons, HCAN.out]; rfl)
 have HE11 := Lib.hid (HE10.out.below hb11)
 clear hW11 hbq hb11
 go_wp2_with fail
 rw [HW11.out, HBQ.out]
 refine (cmaykeys_any [y, y] (some ⟨bq, 0, none⟩) 2 _ W11 d (by rw [ksfit, ksfit, ksfit]; exact ⟨HYF.out, HYF.out, trivial⟩) HL11.out HD.out (by have := HKL.out; rw [ksw, ksw, ksw]; omega)).mono ?_; rintro e w12 ⟨rfl, hb⟩
 rw [HALL.out]
 have HB12 := Lib.hid (below_step HB11.out hb)
 have HXK12 := Lib.hid (HXK11.out.below hb)
 have HE12 := Lib.hid (HE11.out.below hb)
 clear hb xk0 xk1 xk2 xk3 xk4 xk5 xk6 xk7 xk8 xk9 xk10
 obtain ⟨xa0, xa1, xa2, xa3, xa4, xa5, xa6, xa7⟩ := HXK12.out.a
 go_upto_region 10 with fail
 refine wp_region_litG ?_
 clear xa0 xa1 xa2 xa3 xa4 xa5 xa6 xa7 
 iterate 22 ((first | refine wpList_plainG rfl (fun K hK => ?_) | refine wpList_yesG rfl rfl rfl rfl (fun K hK => ?_) | refine wpList_noG rfl rfl rfl rfl rfl (fun K hK => ?_) | refine wpList_unG (v := undef) rfl rfl rfl rfl (fun c h => by simp [undef] at h) (fun K hK => ?_)); go_simp; refine hK _ _ ?_; clear hK K)
 refine wpList_yesG (g := 20) (s := 96) (b := false) rfl rfl rfl rfl (fun K hK => ?_); go_simp
 refine (codeIs_any _ 8 w12 (.inr HE12.out) (HG.out.below HB12.out)).mono ?_; rintro e w14 ⟨rfl, hb⟩
 have HB14 := Lib.hid (below_step HB12.out hb)
 have HXK14 := Lib.hid (HXK12.out.below hb)
 have HE14 := Lib.hid (HE12.out.below hb)
 clear hb 
 refine hK _ _ ?_; clear hK K
 iterate 4 ((first | refine wpList_plainG rfl (fun K hK => ?_) | refine wpList_yesG rfl rfl rfl rfl (fun K hK => ?_) | refine wpList_noG rfl rfl rfl rfl rfl (fun K hK => ?_) | refine wpList_unG (v := undef) rfl rfl rfl rfl (fun c h => by simp [undef] at h) (fun K hK => ?_)); go_simp; refine hK _ _ ?_; clear hK K)
 refine wpList_nilG ?_
 go_upto_region 12 with fail
 refine wp_region_litG ?_
 refine wpList_plainG rfl (fun K hK => ?_); go_simp
 refine (first8 w14 (HG.out.below HB14.out)).mono ?_; rintro e w15 ⟨rfl, hb⟩
 have HB15 := Lib.hid (below_step HB14.out hb)
 have HXK15 := Lib.hid (HXK14.out.below hb)
 have HE15 := Lib.hid (HE14.out.below hb)
 clear hb
 have HKM : Hid (kmay y d = true) := Lib.hid (by have h := HCAN.out; rw [kmayD] at h; simp only [Bool.and_eq_true] at h; exact h.2)
 have HKD : Hid (kmayD y 262144 = true) := Lib.hid (by rw [kmayD, kmay_enough y d 262144 HKM.out (by have := HKL.out; omega)]; rfl)
 obtain ⟨xk0, xk1, xk2, xk3, xk4, xk5, xk6, xk7, xk8, xk9, xk10⟩ := HXK15.out.k
 refine hK _ _ ?_; clear hK K
 iterate 5 ((first | refine wpList_plainG rfl (fun K hK => ?_) | refine wpList_yesG rfl rfl rfl rfl (fun K hK => ?_) | refine wpList_noG rfl rfl rfl rfl rfl (fun K hK => ?_) | refine wpList_unG (v := undef) rfl rfl rfl rfl (fun c h => by simp [undef] at h) (fun K hK => ?_)); go_simp; refine hK _ _ ?_; clear hK K)
 refine wpList_yesG (g := 3) (s := 106) (b := true) rfl rfl rfl rfl (fun K hK => ?_); go_simp
 refine (rok_any y [.string K2, .bool h2, .int .i64 k2, .string S2, .bool b2, .int .u64 n2, .slice lo2 ln2 lc2, .slice mo2 mn2 mc2, .string I2, .string U2, .string Y2] _ w15 d HYF.out (HY.out.below HB15.out) (by have := HKL.out; omega) HKM.out).mono ?_; rintro e w16 ⟨hb, R, rfl, HR⟩
 have HB16 := Lib.hid (below_step HB15.out hb)
 have HXK16 := Lib.hid (HXK15.out.below hb)
 have HE16 := Lib.hid (HE15.out.below hb)
 obtain rfl : R = TT := ByteArray.ext (Array.ext' (by rw [HR.out, HTT.out]))
 clear hb xk0 xk1 xk2 xk3 xk4 xk5 xk6 xk7 xk8 xk9 xk10
 obtain ⟨xk0, xk1, xk2, xk3, xk4, xk5, xk6, xk7, xk8, xk9, xk10⟩ := HXK16.out.k
 refine hK _ _ ?_; clear hK K
 iterate 4 ((first | refine wpList_plainG rfl (fun K hK => ?_) | refine wpList_yesG rfl rfl rfl rfl (fun K hK => ?_) | refine wpList_noG rfl rfl rfl rfl rfl (fun K hK => ?_) | refine wpList_unG (v := undef) rfl rfl rfl rfl (fun c h => by simp [undef] at h) (fun K hK => ?_)); go_simp; refine hK _ _ ?_; clear hK K)
 refine wpList_yesG (g := 9) (s := 112) (b := true) rfl rfl rfl rfl (fun K hK => ?_); go_simp
 refine (ksize_any y [.string K2, .bool h2, .int .i64 k2, .string S2, .bool b2, .int .u64 n2, .slice lo2 ln2 lc2, .slice mo2 mn2 mc2, .string I2, .string U2, .string Y2] _ w16 HYF.out (HY.out.below HB16.out) (by have := HKL.out; omega) (by have := kout_le y; have := kw_kb y; have := HKL.out; omega) HKD.out).mono ?_; rintro e w17 ⟨rfl, hb⟩
 rw [← HTZ.out]
 have HB17 := Lib.hid (below_step HB16.out hb)
 have HXK17 := Lib.hid (HXK16.out.below hb)
 have HE17 := Lib.hid (HE16.out.below hb)
 clear hb xk0 xk1 xk2 xk3 xk4 xk5 xk6 xk7 xk8 xk9 xk10
 refine hK _ _ ?_; clear hK K
 iterate 19 ((first | refine wpList_plainG rfl (fun K hK => ?_) | refine wpList_yesG rfl rfl rfl rfl (fun K hK => ?_) | refine wpList_noG rfl rfl rfl rfl rfl (fun K hK => ?_) | refine wpList_unG (v := undef) rfl rfl rfl rfl (fun c h => by simp [undef] at h) (fun K hK => ?_)); go_simp; refine hK _ _ ?_; clear hK K)
 refine wpList_nilG ?_
 go_wp2_with fail
 go_ret
 exact ⟨rfl, HB17.out⟩
set_option maxRecDepth 1000000 in
set_option maxHeartbeats 16000000 in
theorem vwrites_FF (x : Val) (y : KV) (ca ck : List Value) (d : Int) (w : World) (hg : Glob w) (hxl : vlim x) (hxf : vfit x) (hx : VRel w (fun k => k < w.heap.size) x ca) (hyl : klim y) (hyf : kfit y) (hy : KRel w (fun k => k < w.heap.size) y ck) (hd : -9223372036854775808 ≤ d ∧ d ≤ 9223372036854775807) (hmay : vmayD x d = false) (hcan : kmayD y d = false) :
  Calls Tryz.prog 4 #[.agg ca.toArray, .agg ck.toArray, .int .i64 d] w fun e w' => e = .returned (.bool true) ∧ Below w.heap.size w w' := by
 have HG := Lib.hid hg
 have HX := Lib.hid hx
 have HY := Lib.hid hy
 have HXL := Lib.hid hxl
 have HXF := Lib.hid hxf
 have HYL := Lib.hid hyl
 have HYF := Lib.hid hyf
 have HD := Lib.hid hd
 have HMAY := Lib.hid hmay
 have HCAN := Lib.hid hcan
 obtain ⟨k1, S1, b1, n1, lo1, ln1, lc1, mo1, mn1, mc1, I1, U1, rfl⟩ := hx.form
 obtain ⟨K2, h2, k2, S2, b2, n2, lo2, ln2, lc2, mo2, mn2, mc2, I2, U2, Y2, rfl⟩ := hy.form
 clear hg hxl hxf hx hyl hyf hy hd hmay hcan
 obtain ⟨W, hW⟩ : ∃ W, (w.alloc (.cells #[.int .i64 k1, .string S1, .bool b1, .int .u64 n1, .slice lo1 ln1 lc1, .slice mo1 mn1 mc1, .string I1, .string U1] 27)).alloc (.cells #[.string K2, .bool h2, .int .i64 k2, .string S2, .bool b2, .int .u64 n2, .slice lo2 ln2 lc2, .slice mo2 mn2 mc2, .string I2, .string U2, .string Y2] 35) = W := ⟨_, rfl⟩
 have HB0 : Hid (Below w.heap.size w W) := Lib.hid (by rw [← hW]; exact below_step (below_new _ _) (below_new _ _))
 have HXK0 : Hid (XK W w.heap.size [.int .i64 k1, .string S1, .bool b1, .int .u64 n1, .slice lo1 ln1 lc1, .slice mo1 mn1 mc1, .string I1, .string U1] [.string K2, .bool h2, .int .i64 k2, .string S2, .bool b2, .int .u64 n2, .slice lo2 ln2 lc2, .slice mo2 mn2 mc2, .string I2, .string U2, .string Y2]) := Lib.hid ⟨by rw [← hW]; exact (Below.heap_alloc _ _ _ (by simp)).trans (heap_alloc_new w _), by rw [← hW]; have := heap_alloc_new (w.alloc (.cells #[.int .i64 k1, .string S1, .bool b1, .int .u64 n1, .slice lo1 ln1 lc1, .slice mo1 mn1 mc1, .string I1, .string U1] 27)) (.cells #[.string K2, .bool h2, .int .i64 k2, .string S2, .bool b2, .int .u64 n2, .slice lo2 ln2 lc2, .slice mo2 mn2 mc2, .string I2, .string U2, .string Y2] 35); simpa using this⟩
 have HW := Lib.hid hW
 clear hW
 go_enter Tryz.func4, Tryz.ntmps4
 go_wp2_with fail
 rw [HW.out]
 refine (first8 W (HG.out.below HB0.out)).mono ?_; rintro e w1 ⟨rfl, hb⟩
 have HB1 := Lib.hid (below_step HB0.out hb)
 have HXK1 := Lib.hid (HXK0.out.below hb)
 clear hb
 obtain ⟨xa0, xa1, xa2, xa3, xa4, xa5, xa6, xa7⟩ := HXK1.out.a
 obtain ⟨xk0, xk1, xk2, xk3, xk4, xk5, xk6, xk7, xk8, xk9, xk10⟩ := HXK1.out.k
 go_wp2_with fail
 refine (fewv_any x [.int .i64 k1, .string S1, .bool b1, .int .u64 n1, .slice lo1 ln1 lc1, .slice mo1 mn1 mc1, .string I1, .string U1] _ w1 HXL.out HXF.out (HX.out.below HB1.out)).mono ?_; intro e w2 hpost
 obtain ⟨hb, bb, rfl, hvw⟩ := hpost
 have HB2 := Lib.hid (below_step HB1.out hb)
 have HXK2 := Lib.hid (HXK1.out.below hb)
 have HVW := Lib.hid hvw
 clear hb hvw xa0 xa1 xa2 xa3 xa4 xa5 xa6 xa7 xk0 xk1 xk2 xk3 xk4 xk5 xk6 xk7 xk8 xk9 xk10
 cases bb with
 | false =>
  go_wp2_with fail
  refine (first8 w2 (HG.out.below HB2.out)).mono ?_; rintro e w9 ⟨rfl, hb⟩
  have HB9 := Lib.hid (below_step HB2.out hb)
  clear hb
  go_wp2_with fail
  go_ret
  exact ⟨rfl, HB9.out⟩
 | true =>
 obtain ⟨xk0, xk1, xk2, xk3, xk4, xk5, xk6, xk7, xk8, xk9, xk10⟩ := HXK2.out.k
 obtain ⟨W3, hW3⟩ : ∃ W, w2.alloc (.cells #[.string K2, .bool h2, .int .i64 k2, .string S2, .bool b2, .int .u64 n2, .slice lo2 ln2 lc2, .slice mo2 mn2 mc2, .string I2, .string U2, .string Y2] 35) = W := ⟨_, rfl⟩
 obtain ⟨bk, hbk⟩ : ∃ b, w2.heap.size = b := ⟨_, rfl⟩
 have hb3 : Below w2.heap.size w2 W3 := by rw [← hW3]; exact below_new _ _
 have HR3 : Hid (W3.heap[bk]? = some (.cells #[.string K2, .bool h2, .int .i64 k2, .string S2, .bool b2, .int .u64 n2, .slice lo2 ln2 lc2, .slice mo2 mn2 mc2, .string I2, .string U2, .string Y2] 35 (0, 0))) := Lib.hid (by rw [← hW3, ← hbk]; exact heap_alloc_new _ _)
 have HB3 := Lib.hid (below_step HB2.out hb3)
 have HXK3 := Lib.hid (HXK2.out.below hb3)
 have HL3 := Lib.hid (krels_1 (HY.out.below HB3.out) HR3.out)
 have HW3 := Lib.hid hW3
 have HBK := Lib.hid hbk
 clear hW3 hbk hb3
 go_wp2_with fail
 rw [HW3.out, HBK.out]
 refine (fewk_any [y] (some ⟨bk, 0, none⟩) 1 _ W3 (by simp) (by rw [kslim, kslim]; exact ⟨HYL.out, trivial⟩) (by rw [ksfit, ksfit]; exact ⟨HYF.out, trivial⟩) HL3.out).mono ?_; intro e w4 hpost
 obtain ⟨hb, bb, rfl, hkw⟩ := hpost
 have HB4 := Lib.hid (below_step HB3.out hb)
 have HXK4 := Lib.hid (HXK3.out.below hb)
 have HKW := Lib.hid hkw
 clear hb hkw xk0 xk1 xk2 xk3 xk4 xk5 xk6 xk7 xk8 xk9 xk10
 cases bb with
 | false =>
  go_wp2_with fail
  refine (first8 w4 (HG.out.below HB4.out)).mono ?_; rintro e w9 ⟨rfl, hb⟩
  have HB9 := Lib.hid (below_step HB4.out hb)
  clear hb
  go_wp2_with fail
  go_ret
  exact ⟨rfl, HB9.out⟩
 | true =>
 have HVL : Hid (vw x ≤ 8000) := Lib.hid (by first | exact HVW.out rfl | exact HVW.out trivial)
 have HKL : Hid (kw y ≤ 8000) := Lib.hid (by
  have h : ksw [y] ≤ 8000 := by first | exact HKW.out rfl | exact HKW.out trivial
  rwa [ksw_one] at h)
 go_upto_region 5 with fail
 obtain ⟨D, hD⟩ : ∃ D, w4.drew = D := ⟨_, rfl⟩
 have hb : Below w4.heap.size w4 D := by rw [← hD]; exact (Below.refl _ _).drew
 have HBD := Lib.hid (below_step HB4.out hb)
 have hS : XK D w.heap.size [.int .i64 k1, .string S1, .bool b1, .int .u64 n1, .slice lo1 ln1 lc1, .slice mo1 mn1 mc1, .string I1, .string U1] [.string K2, .bool h2, .int .i64 k2, .string S2, .bool b2, .int .u64 n2, .slice lo2 ln2 lc2, .slice mo2 mn2 mc2, .string I2, .string U2, .string Y2] := HXK4.out.below hb
 have hne : Nonempty {w' : World // XK w' w.heap.size [.int .i64 k1, .string S1, .bool b1, .int .u64 n1, .slice lo1 ln1 lc1, .slice mo1 mn1 mc1, .string I1, .string U1] [.string K2, .bool h2, .int .i64 k2, .string S2, .bool b2, .int .u64 n2, .slice lo2 ln2 lc2, .slice mo2 mn2 mc2, .string I2, .string U2, .string Y2]} := ⟨⟨_, hS⟩⟩
 refine wp_region_seq (S := fun w' => XK w' w.heap.size [.int .i64 k1, .string S1, .bool b1, .int .u64 n1, .slice lo1 ln1 lc1, .slice mo1 mn1 mc1, .string I1, .string U1] [.string K2, .bool h2, .int .i64 k2, .string S2, .bool b2, .int .u64 n2, .slice lo2 ln2 lc2, .slice mo2 mn2 mc2, .string I2, .string U2, .string Y2]) [(0, true), (1, true), (3, true), (4, true), (2, false), (5, false), (6, true), (7, true)] (by kernel_rfl) (by kernel_rfl) (by kernel_rfl) (by kernel_rfl) (by rw [hD]; exact hS) ?_
 rw [hD]
 clear hD hb
 refine seq_take _ rfl (fun KC hK => ?_); go_simp
 refine ⟨.agg #[.int .i64 k1, .string S1, .bool b1, .int .u64 n1, .slice lo1 ln1 lc1, .slice mo1 mn1 mc1, .string I1, .string U1], fun a ha => by obtain ⟨p0, p1, p2, p3, p4, p5, p6, p7⟩ := XK.a ha; simp only [p0, p1, p2, p3, p4, p5, p6, p7, Result.andThen], hK _ ?_⟩
 clear hK KC
 refine seq_take _ rfl (fun KC hK => ?_); go_simp; (first | refine hK _ ?_ | refine ⟨_, fun _ _ => rfl, hK _ ?_⟩); clear hK KC
 refine seq_take _ rfl (fun KC hK => ?_); go_simp
 refine ⟨.agg #[.string K2, .bool h2, .int .i64 k2, .string S2, .bool b2, .int .u64 n2, .slice lo2 ln2 lc2, .slice mo2 mn2 mc2, .string I2, .string U2, .string Y2], fun a ha => by obtain ⟨p0, p1, p2, p3, p4, p5, p6, p7, p8, p9, p10⟩ := XK.k ha; simp only [p0, p1, p2, p3, p4, p5, p6, p7, p8, p9, p10, Result.andThen], hK _ ?_⟩
 clear hK KC
 refine seq_take _ rfl (fun KC hK => ?_); go_simp; (first | refine hK _ ?_ | refine ⟨_, fun _ _ => rfl, hK _ ?_⟩); clear hK KC
 refine seq_come _ rfl (fun KC hK => ?_); go_simp
 refine (mayv_any8 x [.int .i64 k1, .string S1, .bool b1, .int .u64 n1, .slice lo1 ln1 lc1, .slice mo1 mn1 mc1, .string I1, .string U1] _ D d HXF.out (HX.out.below HBD.out) (by have := HD.out; omega) (by have := HVL.out; omega)).mono ?_; rintro e w5 ⟨hb, g, rfl, hg⟩
 obtain rfl : g = false := by rw [hg]; exact HMAY.out
 have HB5 := Lib.hid (below_step HBD.out hb)
 have hS5 : XK w5 w.heap.size [.int .i64 k1, .string S1, .bool b1, .int .u64 n1, .slice lo1 ln1 lc1, .slice mo1 mn1 mc1, .string I1, .string U1] [.string K2, .bool h2, .int .i64 k2, .string S2, .bool b2, .int .u64 n2, .slice lo2 ln2 lc2, .slice mo2 mn2 mc2, .string I2, .string U2, .string Y2] := hS.below hb
 go_simp; refine hK.out _ _ hS5 ?_; clear hK KC hb hg
 refine seq_come _ rfl (fun KC hK => ?_); go_simp
 refine (mayk_any8 y [.string K2, .bool h2, .int .i64 k2, .string S2, .bool b2, .int .u64 n2, .slice lo2 ln2 lc2, .slice mo2 mn2 mc2, .string I2, .string U2, .string Y2] _ w5 d HYF.out (HY.out.below HB5.out) (by have := HD.out; omega) (by have := HKL.out; omega)).mono ?_; rintro e w6 ⟨hb, g, rfl, hg⟩
 obtain rfl : g = false := by rw [hg]; exact HCAN.out
 have HB6 := Lib.hid (below_step HB5.out hb)
 have hS6 : XK w6 w.heap.size [.int .i64 k1, .string S1, .bool b1, .int .u64 n1, .slice lo1 ln1 lc1, .slice mo1 mn1 mc1, .string I1, .string U1] [.string K2, .bool h2, .int .i64 k2, .string S2, .bool b2, .int .u64 n2, .slice lo2 ln2 lc2, .slice mo2 mn2 mc2, .string I2, .string U2, .string Y2] := hS5.below hb
 go_simp; refine hK.out _ _ hS6 ?_; clear hK KC hb hg
 iterate 2 (refine seq_take _ rfl (fun KC hK => ?_); go_simp; (first | refine hK _ ?_ | refine ⟨_, fun _ _ => rfl, hK _ ?_⟩); clear hK KC)
 refine seq_done ?_
 have HXK6 := Lib.hid hS6
 clear hne hS hS5 hS6
 obtain ⟨xa0, xa1, xa2, xa3, xa4, xa5, xa6, xa7⟩ := HXK6.out.a
 go_wp2_with fail
 refine (vmarshal_any x [.int .i64 k1, .string S1, .bool b1, .int .u64 n1, .slice lo1 ln1 lc1, .slice mo1 mn1 mc1, .string I1, .string U1] _ d w6 HXF.out (HX.out.below HB6.out) HD.out (by have := HVL.out; omega)).mono ?_; rintro e w7 ⟨hb, hcase⟩
 rw [HMAY.out] at hcase
 have HB7 := Lib.hid (below_step HB6.out hb)
 have HXK7 := Lib.hid (HXK6.out.below hb)
 rw [if_neg (by simp)] at hcase
 obtain ⟨v, rfl, hec⟩ := hcase
 obtain ⟨T7, y7, rfl⟩ := hec.iface
 have HE7 := Lib.hid hec
 clear hec
 clear hb xa0 xa1 xa2 xa3 xa4 xa5 xa6 xa7 
 obtain ⟨xk0, xk1, xk2, xk3, xk4, xk5, xk6, xk7, xk8, xk9, xk10⟩ := HXK7.out.k
 go_wp2_with fail
 refine (kmarshal_any y [.string K2, .bool h2, .int .i64 k2, .string S2, .bool b2, .int .u64 n2, .slice lo2 ln2 lc2, .slice mo2 mn2 mc2, .string I2, .string U2, .string Y2] _ d w7 HYF.out (HY.out.below HB7.out) HD.out (by have := HKL.out; omega)).mono ?_; rintro e w8 ⟨hb, hcase⟩
 rw [HCAN.out] at hcase
 have HB8 := Lib.hid (below_step HB7.out hb)
 have HXK8 := Lib.hid (HXK7.out.below hb)
 have HE8 := Lib.hid (HE7.out.below hb)
 rw [if_neg (by simp)] at hcase
 obtain ⟨v, rfl, hec⟩ := hcase
 obtain ⟨T8, y8, rfl⟩ := hec.iface
 have HF8 := Lib.hid hec
 clear hec
 clear hb xk0 xk1 xk2 xk3 xk4 xk5 xk6 xk7 xk8 xk9 xk10
 obtain ⟨xa0, xa1, xa2, xa3, xa4, xa5, xa6, xa7⟩ := HXK8.out.a
 go_wp2_with fail
 refine (vmay_any x [.int .i64 k1, .string S1, .bool b1, .int .u64 n1, .slice lo1 ln1 lc1, .slice mo1 mn1 mc1, .string I1, .string U1] _ d w8 HXF.out (HX.out.below HB8.out) HD.out (by have := HVL.out; omega)).mono ?_; rintro e w9 ⟨rfl, hb⟩
 rw [HMAY.out]
 have HB9 := Lib.hid (below_step HB8.out hb)
 have HXK9 := Lib.hid (HXK8.out.below hb)
 have HE9 := Lib.hid (HE8.out.below hb)
 have HF9 := Lib.hid (HF8.out.below hb)
 clear hb xa0 xa1 xa2 xa3 xa4 xa5 xa6 xa7 
 obtain ⟨xk0, xk1, xk2, xk3, xk4, xk5, xk6, xk7, xk8, xk9, xk10⟩ := HXK9.out.k
 go_wp2_with fail
 refine (kmay_any y [.string K2, .bool h2, .int .i64 k2, .string S2, .bool b2, .int .u64 n2, .slice lo2 ln2 lc2, .slice mo2 mn2 mc2, .string I2, .string U2, .string Y2] _ d w9 HYF.out (HY.out.below HB9.out) HD.out (by have := HKL.out; omega)).mono ?_; rintro e w10 ⟨rfl, hb⟩
 rw [HCAN.out]
 have HB10 := Lib.hid (below_step HB9.out hb)
 have HXK10 := Lib.hid (HXK9.out.below hb)
 have HE10 := Lib.hid (HE9.out.below hb)
 have HF10 := Lib.hid (HF9.out.below hb)
 clear hb xk0 xk1 xk2 xk3 xk4 xk5 xk6 xk7 xk8 xk9 xk10
 obtain ⟨xk0, xk1, xk2, xk3, xk4, xk5, xk6, xk7, xk8, xk9, xk10⟩ := HXK10.out.k
 obtain ⟨W11, hW11⟩ : ∃ W, w10.alloc (.cells #[.string K2, .bool h2, .int .i64 k2, .string S2, .bool b2, .int .u64 n2, .slice lo2 ln2 lc2, .slice mo2 mn2 mc2, .string I2, .string U2, .string Y2, .string K2, .bool h2, .int .i64 k2, .string S2, .bool b2, .int .u64 n2, .slice lo2 ln2 lc2, .slice mo2 mn2 mc2, .string I2, .string U2, .string Y2] 35) = W := ⟨_, rfl⟩
 obtain ⟨bq, hbq⟩ : ∃ b, w10.heap.size = b := ⟨_, rfl⟩
 have hb11 : Below w10.heap.size w10 W11 := by rw [← hW11]; exact below_new _ _
 have HR11 : Hid (W11.heap[bq]? = some (.cells #[.string K2, .bool h2, .int .i64 k2, .string S2, .bool b2, .int .u64 n2, .slice lo2 ln2 lc2, .slice mo2 mn2 mc2, .string I2, .string U2, .string Y2, .string K2, .bool h2, .int .i64 k2, .string S2, .bool b2, .int .u64 n2, .slice lo2 ln2 lc2, .slice mo2 mn2 mc2, .string I2, .string U2, .string Y2] 35 (0, 0))) := Lib.hid (by rw [← hW11, ← hbq]; exact heap_alloc_new _ _)
 have HB11 := Lib.hid (below_step HB10.out hb11)
 have HXK11 := Lib.hid (HXK10.out.below hb11)
 have HL11 := Lib.hid (krels_2 (HY.out.below HB11.out) HR11.out)
 have HW11 := Lib.hid hW11
 have HBQ := Lib.hid hbq
 have HALL : Hid (([y, y].all fun x => kmayD x d) = false) := Lib.hid (by rw [List.all_cons, List.all_cons, HCAN.out]; rfl)
 have HE11 := Lib.hid (HE10.out.below hb11)
 have HF11 := Lib.hid (HF10.out.below hb11)
 clear hW11 hbq hb11
 go_wp2_with fail
 rw [HW11.out, HBQ.out]
 refine (cmaykeys_any [y, y] (some ⟨bq, 0, none⟩) 2 _ W11 d (by rw [ksfit, ksfit, ksfit]; exact ⟨HYF.out, HYF.out, trivial⟩) HL11.out HD.out (by have := HKL.out; rw [ksw, ksw, ksw]; omega)).mono ?_; rintro e w12 ⟨rfl, hb⟩
 rw [HALL.out]
 have HB12 := Lib.hid (below_step HB11.out hb)
 have HXK12 := Lib.hid (HXK11.out.below hb)
 have HE12 := Lib.hid (HE11.out.below hb)
 have HF12 := Lib.hid (HF11.out.below hb)
 clear hb xk0 xk1 xk2 xk3 xk4 xk5 xk6 xk7 xk8 xk9 xk10
 obtain ⟨xa0, xa1, xa2, xa3, xa4, xa5, xa6, xa7⟩ := HXK12.out.a
 go_upto_region 10 with fail
 refine wp_region_litG ?_
 clear xa0 xa1 xa2 xa3 xa4 xa5 xa6 xa7 
 iterate 22 ((first | refine wpList_plainG rfl (fun K hK => ?_) | refine wpList_yesG rfl rfl rfl rfl (fun K hK => ?_) | refine wpList_noG rfl rfl rfl rfl rfl (fun K hK => ?_) | refine wpList_unG (v := undef) rfl rfl rfl rfl (fun c h => by simp [undef] at h) (fun K hK => ?_)); go_simp; refine hK _ _ ?_; clear hK K)
 refine wpList_yesG (g := 20) (s := 96) (b := false) rfl rfl rfl rfl (fun K hK => ?_); go_simp
 refine (codeIs_any _ 8 w12 (.inr HE12.out) (HG.out.below HB12.out)).mono ?_; rintro e w14 ⟨rfl, hb⟩
 have HB14 := Lib.hid (below_step HB12.out hb)
 have HXK14 := Lib.hid (HXK12.out.below hb)
 have HE14 := Lib.hid (HE12.out.below hb)
 have HF14 := Lib.hid (HF12.out.below hb)
 clear hb 
 refine hK _ _ ?_; clear hK K
 iterate 4 ((first | refine wpList_plainG rfl (fun K hK => ?_) | refine wpList_yesG rfl rfl rfl rfl (fun K hK => ?_) | refine wpList_noG rfl rfl rfl rfl rfl (fun K hK => ?_) | refine wpList_unG (v := undef) rfl rfl rfl rfl (fun c h => by simp [undef] at h) (fun K hK => ?_)); go_simp; refine hK _ _ ?_; clear hK K)
 refine wpList_nilG ?_
 go_upto_region 12 with fail
 refine wp_region_litG ?_
 refine wpList_plainG rfl (fun K hK => ?_); go_simp
 refine (first8 w14 (HG.out.below HB14.out)).mono ?_; rintro e w15 ⟨rfl, hb⟩
 have HB15 := Lib.hid (below_step HB14.out hb)
 have HXK15 := Lib.hid (HXK14.out.below hb)
 have HE15 := Lib.hid (HE14.out.below hb)
 have HF15 := Lib.hid (HF14.out.below hb)
 clear hb
 refine hK _ _ ?_; clear hK K
 iterate 24 ((first | refine wpList_plainG rfl (fun K hK => ?_) | refine wpList_yesG rfl rfl rfl rfl (fun K hK => ?_) | refine wpList_noG rfl rfl rfl rfl rfl (fun K hK => ?_) | refine wpList_unG (v := undef) rfl rfl rfl rfl (fun c h => by simp [undef] at h) (fun K hK => ?_)); go_simp; refine hK _ _ ?_; clear hK K)
 refine wpList_yesG (g := 23) (s := 126) (b := true) rfl rfl rfl rfl (fun K hK => ?_); go_simp
 refine (codeIs_any _ 8 w15 (.inr HF15.out) (HG.out.below HB15.out)).mono ?_; rintro e w17 ⟨rfl, hb⟩
 have HB17 := Lib.hid (below_step HB15.out hb)
 have HXK17 := Lib.hid (HXK15.out.below hb)
 have HE17 := Lib.hid (HE15.out.below hb)
 have HF17 := Lib.hid (HF15.out.below hb)
 clear hb 
 refine hK _ _ ?_; clear hK K
 iterate 5 ((first | refine wpList_plainG rfl (fun K hK => ?_) | refine wpList_yesG rfl rfl rfl rfl (fun K hK => ?_) | refine wpList_noG rfl rfl rfl rfl rfl (fun K hK => ?_) | refine wpList_unG (v := undef) rfl rfl rfl rfl (fun c h => by simp [undef] at h) (fun K hK => ?_)); go_simp; refine hK _ _ ?_; clear hK K)
 refine wpList_nilG ?_
 go_wp2_with fail
 go_ret
 exact ⟨rfl, HB17.out⟩
theorem vwrites_any (x : Val) (y : KV) (ca ck : List Value) (d : Int) (w : World) (hg : Glob w) (hxl : vlim x) (hxf : vfit x) (hx : VRel w (fun k => k < w.heap.size) x ca) (hyl : klim y) (hyf : kfit y) (hy : KRel w (fun k => k < w.heap.size) y ck) (hd : -9223372036854775808 ≤ d ∧ d ≤ 9223372036854775807) :
  Calls Tryz.prog 4 #[.agg ca.toArray, .agg ck.toArray, .int .i64 d] w fun e w' => e = .returned (.bool true) ∧ Below w.heap.size w w' := by
 cases hm : vmayD x d with
 | true => cases hc : kmayD y d with
  | true => exact vwrites_TT x y ca ck d w hg hxl hxf hx hyl hyf hy hd hm hc
  | false => exact vwrites_TF x y ca ck d w hg hxl hxf hx hyl hyf hy hd hm hc
 | false => cases hc : kmayD y d with
  | true => exact vwrites_FT x y ca ck d w hg hxl hxf hx hyl hyf hy hd hm hc
  | false => exact vwrites_FF x y ca ck d w hg hxl hxf hx hyl hyf hy hd hm hc
end Go.Proofs.YteknippgiljgeaaGreatDoor
