/-
  hyglaw8.ValueHalves.
-/
import Derived.Test.YteknippgiljgeaaGreatDoorValBack
import Derived.Test.YteknippgiljgeaaGreatDoorValSame
import Derived.Test.YteknippgiljgeaaGreatDoorRefOut
import Derived.Test.YteknippgiljgeaaGreatDoorFirst8
import Derived.Test.YteknippgiljgeaaGreatDoorFx
import Derived.Test.YteknippgiljgeaaGreatDoorDoor
import Derived.Laws.CopyOwn
namespace Go.Proofs.YteknippgiljgeaaGreatDoor
open Go.RowKit

theorem wrec_okh {num kind : Nat} (h1 : 1 ≤ num) (h2 : num ≤ 536870911) (h3 : kind ≤ 5) (t : List UInt8) : wrec (num : Int) (kind : Int) t = vput (8 * num + kind) ++ t := by
 unfold wrec
 rw [wtag_ok h1 h2 h3, if_neg (vput_ne _)]
theorem bytes_ath (num : Nat) (X Y : ByteArray) (h1 : 1 ≤ num) (h2 : num ≤ 536870911) (hX : X.size ≤ 1000000) (hY : (⟨(rB num X.data.toList).raw.toArray⟩ : ByteArray) = Y) (w : World) :
 Calls Tryz.prog 36 #[.int .i64 (num : Int), .string X] w fun e w' => e = .returned (.string Y) ∧ Below w.heap.size w w' := by
 have h := wbytes_any (num : Int) X w (by omega) (by omega) hX
 have e := wrec_okh (num := num) (kind := 2) h1 h2 (by omega) (vput X.size ++ X.data.toList)
 rw [show ((2 : Nat) : Int) = 2 from rfl] at e
 have hz : X.data.toList.length = X.size := by simp
 rw [e, ← hz, show (⟨(vput (8 * num + 2) ++ (vput X.data.toList.length ++ X.data.toList)).toArray⟩ : ByteArray) = Y from hY] at h
 exact h
/-- told in two records -/
theorem khalves {key a b u : List UInt8} {v : Val} {d : Int} {f : Nat} (hd : 0 ≤ d) (hk : uvalid key = true) (hs : key.length < 2 ^ 64 ∧ a.length < 2 ^ 64 ∧ b.length < 2 ^ 64) (hv : vread f (a ++ b) (d - 1) = .ok v) (hu : munkOk ktk u d = true) :
  kread (f + 1) ((rB 2 a).raw ++ (rB 1 key).raw ++ (rB 2 b).raw ++ u) d = .ok (.mk key true v u) := by
 have h1 : mfold ktk kstep ([], []) [rB 2 a, rB 1 key, rB 2 b] = .ok (key, [a, b]) := by
  rw [mfold, if_pos (by rfl)]
  have e1 : kstep ([], []) (rB 2 a) = .ok ([], [a]) := by unfold kstep; rw [if_neg (by show ¬ (2 : Nat) = 1; decide)]; rfl
  rw [e1]
  dsimp only
  rw [mfold, if_pos (by rfl)]
  have e2 : kstep ([], [a]) (rB 1 key) = .ok (key, [a]) := by unfold kstep; rw [if_pos (by rfl : (rB 1 key).num = 1), show (rB 1 key).s = key from rfl, if_pos hk]
  rw [e2]
  dsimp only
  rw [mfold, if_pos (by rfl)]
  have e3 : kstep (key, [a]) (rB 2 b) = .ok (key, [a, b]) := by unfold kstep; rw [if_neg (by show ¬ (2 : Nat) = 1; decide)]; rfl
  rw [e3]
  rfl
 have h2 := mread_put_ok (u := u) hd (rs := [rB 2 a, rB 1 key, rB 2 b]) (fun r hr d => by
  simp only [List.mem_cons, List.not_mem_nil, or_false] at hr
  rcases hr with rfl | rfl | rfl
  ·exact rB_is (by omega) (by omega) hs.2.1 d
  ·exact rB_is (by omega) (by omega) hs.1 d
  ·exact rB_is (by omega) (by omega) hs.2.2 d) h1 (by rfl) hu
 have e : (rB 2 a).raw ++ (rB 1 key).raw ++ (rB 2 b).raw ++ u = ([rB 2 a, rB 1 key, rB 2 b].flatMap Rec.raw) ++ u := by simp
 rw [kread, e, h2]
 dsimp only
 rw [if_neg (by simp), show ([a, b] : List (List UInt8)).flatten = a ++ b by simp, hv]
theorem cut_list (X : ByteArray) (k : Nat) : (X.extract 0 k).data.toList = X.data.toList.take k := by
 rw [ByteArray.data_extract, Array.toList_extract, List.extract_eq_take_drop]
 simp
theorem cut_rest (X : ByteArray) (k : Nat) : (X.extract k X.size).data.toList = X.data.toList.drop k := by
 rw [ByteArray.data_extract, Array.toList_extract, List.extract_eq_take_drop]
 exact List.take_of_length_le (by rw [List.length_drop, Array.length_toList]; exact Nat.le_refl _)
set_option maxRecDepth 1000000 in
set_option maxHeartbeats 16000000 in
theorem vhalves_any (y : KV) (ck : List Value) (cut : Int) (w : World) (hg : Glob w) (hyl : klim y) (hyf : kfit y) (hy : KRel w (fun k => k < w.heap.size) y ck) (hc : -9223372036854775808 ≤ cut ∧ cut ≤ 9223372036854775807) :
 Calls Tryz.prog 9 #[.agg ck.toArray, .int .i64 cut] w fun e w' => e = .returned (.bool true) ∧ Below w.heap.size w w' := by
 have HG := Lib.hid hg
 have HYL := Lib.hid hyl
 have HYF := Lib.hid hyf
 have HY := Lib.hid hy
 have HC := Lib.hid hc
 obtain ⟨key, has, v, u⟩ := y
 have hy2 := hy
 rw [KRel] at hy2
 obtain ⟨cs, hv, rfl⟩ := hy2
 obtain ⟨k2, S2, b2, n2, lo2, ln2, lc2, mo2, mn2, mc2, I2, U2, rfl⟩ := hv.form
 have HV := Lib.hid hv
 obtain ⟨K2, hK2⟩ : ∃ K : ByteArray, (⟨key.toArray⟩ : ByteArray) = K := ⟨_, rfl⟩
 obtain ⟨Y2, hY2⟩ : ∃ K : ByteArray, (⟨u.toArray⟩ : ByteArray) = K := ⟨_, rfl⟩
 have HKK : Hid (K2.data.toList = key) := Lib.hid (by rw [← hK2])
 have HYY : Hid (Y2.data.toList = u) := Lib.hid (by rw [← hY2])
 have HY' : Hid (KRel w (fun k => k < w.heap.size) (.mk key has v u) [.string K2, .bool has, .int .i64 k2, .string S2, .bool b2, .int .u64 n2, .slice lo2 ln2 lc2, .slice mo2 mn2 mc2, .string I2, .string U2, .string Y2]) := Lib.hid (by have h := HY.out; simpa only [strV, hK2, hY2, List.cons_append, List.nil_append, List.append_assoc] using h)
 have ECK : ([strV key, .bool has] ++ ([.int .i64 k2, .string S2, .bool b2, .int .u64 n2, .slice lo2 ln2 lc2, .slice mo2 mn2 mc2, .string I2, .string U2] : List Value) ++ [strV u] : List Value).toArray = #[.string K2, .bool has, .int .i64 k2, .string S2, .bool b2, .int .u64 n2, .slice lo2 ln2 lc2, .slice mo2 mn2 mc2, .string I2, .string U2, .string Y2] := by simp only [strV, hK2, hY2]; rfl
 rw [ECK]
 clear hg hyl hyf hy hc hv hK2 hY2 ECK HY
 obtain ⟨W, hW⟩ : ∃ W, w.alloc (.cells #[.string K2, .bool has, .int .i64 k2, .string S2, .bool b2, .int .u64 n2, .slice lo2 ln2 lc2, .slice mo2 mn2 mc2, .string I2, .string U2, .string Y2] 35) = W := ⟨_, rfl⟩
 have hbw : Below w.heap.size w W := by rw [← hW]; exact below_new _ _
 have hrk : W.heap[w.heap.size]? = some (.cells #[.string K2, .bool has, .int .i64 k2, .string S2, .bool b2, .int .u64 n2, .slice lo2 ln2 lc2, .slice mo2 mn2 mc2, .string I2, .string U2, .string Y2] 35 (0, 0)) := by rw [← hW]; exact new_row _ _ _
 have H1 := Lib.hid (Fx.nil W)
 have H2 := Lib.hid (H1.out.base (hbw))
 clear H1
 have H3 := Lib.hid (H2.out.glob (HG.out.below hbw))
 clear H2
 have H4 := Lib.hid (H3.out.row (hrk))
 clear H3
 have H5 := Lib.hid (H4.out.krel (HY'.out.below hbw))
 clear H4
 have H6 := Lib.hid (H5.out.vrel (HV.out.below hbw))
 clear H5
 have HW := Lib.hid hW
 clear hW hbw hrk HY' HV
 go_enter Tryz.func9, Tryz.ntmps9
 go_wp2_with fail
 rw [HW.out]
 refine (first8 W (H6.out.is.2.2.2.1)).mono ?_; rintro e w2 ⟨rfl, hb⟩
 have H7 := Lib.hid (H6.out.below hb)
 clear hb H6
 obtain ⟨xk0, xk1, xk2, xk3, xk4, xk5, xk6, xk7, xk8, xk9, xk10⟩ := row11 (H7.out.is.2.2.1)
 obtain ⟨blfew, hbl⟩ : ∃ b, w2.heap.size = b := ⟨_, rfl⟩
 obtain ⟨W3, hW⟩ : ∃ W, w2.alloc (.cells #[.string K2, .bool has, .int .i64 k2, .string S2, .bool b2, .int .u64 n2, .slice lo2 ln2 lc2, .slice mo2 mn2 mc2, .string I2, .string U2, .string Y2] 35) = W := ⟨_, rfl⟩
 have hb : Below w2.heap.size w2 W3 := by rw [← hW]; exact below_new _ _
 have hr : W3.heap[blfew]? = some (.cells #[.string K2, .bool has, .int .i64 k2, .string S2, .bool b2, .int .u64 n2, .slice lo2 ln2 lc2, .slice mo2 mn2 mc2, .string I2, .string U2, .string Y2] 35 (0, 0)) := by rw [← hW, ← hbl]; exact new_row _ _ _
 have HWN := Lib.hid hW
 have HBN := Lib.hid hbl
 clear hW hbl
 have H8 := Lib.hid (H7.out.below hb)
 clear hb H7
 have H9 := Lib.hid (H8.out.row (hr))
 clear H8
 clear hr
 have HL3 := Lib.hid (krels_1 (H9.out.is.2.2.1) (H9.out.is.1))
 go_wp2_with fail
 rw [HWN.out, HBN.out]
 clear HWN HBN
 refine (fewk_any [.mk key has v u] (some ⟨blfew, 0, none⟩) 1 _ W3 (by simp) (by rw [kslim, kslim]; exact ⟨HYL.out, trivial⟩) (by rw [ksfit, ksfit]; exact ⟨HYF.out, trivial⟩) HL3.out).mono ?_; intro e w4 hpost
 obtain ⟨hb, bb, rfl, hkw⟩ := hpost
 have HKW := Lib.hid hkw
 clear hkw HL3
 clear xk0 xk1 xk2 xk3 xk4 xk5 xk6 xk7 xk8 xk9 xk10
 have H10 := Lib.hid (H9.out.below hb)
 clear hb H9
 cases bb with
 | false =>
  go_wp2_with fail
  refine (first8 w4 (H10.out.is.2.2.2.2.1)).mono ?_; rintro e w9 ⟨rfl, hb⟩
  have H11 := Lib.hid (H10.out.below hb)
  clear hb H10
  go_wp2_with fail
  go_ret
  exact ⟨rfl, H11.out.is.2.2.2.2.2.1⟩
 | true =>
 have HKL : Hid (kw (.mk key has v u) ≤ 8000) := Lib.hid (by
  have h : ksw [.mk key has v u] ≤ 8000 := by first | exact HKW.out rfl | exact HKW.out trivial
  rwa [ksw_one] at h)
 clear HKW
 cases has with
 | false =>
  obtain ⟨xk0, xk1, xk2, xk3, xk4, xk5, xk6, xk7, xk8, xk9, xk10⟩ := row11 (H10.out.is.2.2.2.1)
  go_wp2_with fail
  refine (first8 w4 (H10.out.is.2.2.2.2.1)).mono ?_; rintro e w9 ⟨rfl, hb⟩
  have H11 := Lib.hid (H10.out.below hb)
  clear hb H10
  clear xk0 xk1 xk2 xk3 xk4 xk5 xk6 xk7 xk8 xk9 xk10
  go_wp2_with fail
  go_ret
  exact ⟨rfl, H11.out.is.2.2.2.2.2.1⟩
 | true =>
 by_cases hc0 : cut < 0
 ·have q1 : decide (cut < 0) = true := decide_eq_true hc0
  clear hc0
  obtain ⟨xk0, xk1, xk2, xk3, xk4, xk5, xk6, xk7, xk8, xk9, xk10⟩ := row11 (H10.out.is.2.2.2.1)
  go_wp2_with fail
  refine (first8 w4 (H10.out.is.2.2.2.2.1)).mono ?_; rintro e w9 ⟨rfl, hb⟩
  have H11 := Lib.hid (H10.out.below hb)
  clear hb H10
  clear xk0 xk1 xk2 xk3 xk4 xk5 xk6 xk7 xk8 xk9 xk10
  go_wp2_with fail
  go_ret
  exact ⟨rfl, H11.out.is.2.2.2.2.2.1⟩
 have q1 : decide (cut < 0) = false := decide_eq_false hc0
 have HC0 : Hid (0 ≤ cut) := Lib.hid (by omega)
 clear hc0
 obtain ⟨xk0, xk1, xk2, xk3, xk4, xk5, xk6, xk7, xk8, xk9, xk10⟩ := row11 (H10.out.is.2.2.2.1)
 go_wp2_with fail
 refine (mayk_any8 (.mk key true v u) [.string K2, .bool true, .int .i64 k2, .string S2, .bool b2, .int .u64 n2, .slice lo2 ln2 lc2, .slice mo2 mn2 mc2, .string I2, .string U2, .string Y2] _ w4 10 HYF.out (H10.out.is.2.2.1) (by omega) (by have := HKL.out; omega)).mono ?_; rintro e w5 ⟨hb, gg, rfl, hgg⟩
 clear xk0 xk1 xk2 xk3 xk4 xk5 xk6 xk7 xk8 xk9 xk10
 have H11 := Lib.hid (H10.out.below hb)
 clear hb H10
 cases gg with
 | false =>
  clear hgg
  go_wp2_with fail
  refine (first8 w5 (H11.out.is.2.2.2.2.1)).mono ?_; rintro e w9 ⟨rfl, hb⟩
  have H12 := Lib.hid (H11.out.below hb)
  clear hb H11
  go_wp2_with fail
  go_ret
  exact ⟨rfl, H12.out.is.2.2.2.2.2.1⟩
 | true =>
 have hgg2 : kmayD (.mk key true v u) 10 = true := hgg.symm
 clear hgg
 rw [kmayD, kmay] at hgg2
 simp only [Bool.and_eq_true, decide_eq_true_eq, if_true] at hgg2
 obtain ⟨_, ⟨hu1, _, hvm⟩, hu2⟩ := hgg2
 have HU1 := Lib.hid hu1
 have HVM : Hid (vmay v 9 = true) := Lib.hid hvm
 have HU2 := Lib.hid hu2
 have HFF : Hid (key.length ≤ 9223372036854775807 ∧ u.length ≤ 9223372036854775807 ∧ vfit v) := Lib.hid (by have h := HYF.out; rwa [kfit] at h)
 have HVW : Hid (40 + key.length + u.length + vw v ≤ 8000) := Lib.hid (by have h := HKL.out; rwa [kw] at h)
 clear hu1 hvm hu2
 obtain ⟨xk0, xk1, xk2, xk3, xk4, xk5, xk6, xk7, xk8, xk9, xk10⟩ := row11 (H11.out.is.2.2.2.1)
 go_wp2_with fail
 refine (rov_any v [.int .i64 k2, .string S2, .bool b2, .int .u64 n2, .slice lo2 ln2 lc2, .slice mo2 mn2 mc2, .string I2, .string U2] _ w5 9 HFF.out.2.2 (H11.out.is.2.1) (by have := HVW.out; omega) HVM.out).mono ?_; rintro e w6 ⟨hb, R, rfl, HR⟩
 clear xk0 xk1 xk2 xk3 xk4 xk5 xk6 xk7 xk8 xk9 xk10
 have H12 := Lib.hid (H11.out.below hb)
 clear hb H11
 have hRz : R.size = (vout v).length := by have h := congrArg List.length HR.out; simpa using h
 have HRB : Hid (R.size ≤ 8000) := Lib.hid (by rw [hRz]; have := vout_le v; have := vw_vb v; have := HVW.out; omega)
 have hRB := HRB.out
 obtain ⟨K, hK⟩ := Int.eq_ofNat_of_zero_le (Int.tmod_nonneg ((R.size : Int) + 1) HC0.out)
 have hK2 : K ≤ R.size := by have := Int.tmod_lt_of_pos cut (show (0 : Int) < (R.size : Int) + 1 by omega); omega
 have q2 : IntKind.i64.wrap ((R.size : Int) + 1) = (R.size : Int) + 1 := i64_wrap_id (by omega) (by omega)
 have q3 : ¬ ((R.size : Int) + 1 = 0) := by omega
 have q4 : cut.tmod ((R.size : Int) + 1) = (K : Int) := hK
 have q5 : IntKind.i64.wrap (K : Int) = (K : Int) := i64_wrap_id (by omega) (by omega)
 clear hK hRz
 go_upto_region 7 with fail
 clear q2 q3 q4 q5
 obtain ⟨XA, hXA⟩ : ∃ B, R.extract 0 K = B := ⟨_, rfl⟩
 obtain ⟨XB, hXB⟩ : ∃ B, R.extract K R.size = B := ⟨_, rfl⟩
 have hXA1 : XA.data.toList = (vout v).take K := by rw [← hXA, cut_list, HR.out]
 have hXB1 : XB.data.toList = (vout v).drop K := by rw [← hXB, cut_rest, HR.out]
 have hXA2 : XA.size ≤ 8000 := by have h := congrArg List.length hXA1; have h2 := congrArg List.length HR.out; simp only [List.length_take, Array.length_toList, ByteArray.size_data] at h h2; omega
 have hXB2 : XB.size ≤ 8000 := by have h := congrArg List.length hXB1; have h2 := congrArg List.length HR.out; simp only [List.length_drop, Array.length_toList, ByteArray.size_data] at h h2; omega
 have hKS : K2.size ≤ 8000 := by have h := congrArg List.length HKK.out; have := HVW.out; simp only [Array.length_toList, ByteArray.size_data] at h; omega
 have hYS : Y2.size ≤ 8000 := by have h := congrArg List.length HYY.out; have := HVW.out; simp only [Array.length_toList, ByteArray.size_data] at h; omega
 obtain ⟨TA, hTA⟩ : ∃ B, (⟨(rB 2 XA.data.toList).raw.toArray⟩ : ByteArray) = B := ⟨_, rfl⟩
 obtain ⟨TK, hTK⟩ : ∃ B, (⟨(rB 1 K2.data.toList).raw.toArray⟩ : ByteArray) = B := ⟨_, rfl⟩
 obtain ⟨TB, hTB⟩ : ∃ B, (⟨(rB 2 XB.data.toList).raw.toArray⟩ : ByteArray) = B := ⟨_, rfl⟩
 have HBA := Lib.hid (bytes_ath 2 XA TA (by omega) (by omega) (by omega) hTA)
 have HBK := Lib.hid (bytes_ath 1 K2 TK (by omega) (by omega) (by omega) hTK)
 have HBB := Lib.hid (bytes_ath 2 XB TB (by omega) (by omega) (by omega) hTB)
 have hlen : ∀ (num : Nat) (s : List UInt8), (rB num s).raw.length ≤ 20 + s.length := fun num s => by
  show (vput (8 * num + 2) ++ (vput s.length ++ s)).length ≤ _
  rw [List.length_append, List.length_append]
  have := vput_le10 (8 * num + 2)
  have := vput_le10 s.length
  omega
 have hTA2 : TA.size ≤ 8020 := by rw [← hTA]; have := hlen 2 XA.data.toList; simp only [ByteArray.size, List.size_toArray, Array.length_toList] at this hXA2 ⊢; omega
 have hTK2 : TK.size ≤ 8020 := by rw [← hTK]; have := hlen 1 K2.data.toList; simp only [ByteArray.size, List.size_toArray, Array.length_toList] at this hKS ⊢; omega
 have hTB2 : TB.size ≤ 8020 := by rw [← hTB]; have := hlen 2 XB.data.toList; simp only [ByteArray.size, List.size_toArray, Array.length_toList] at this hXB2 ⊢; omega
 obtain ⟨X, hX⟩ : ∃ B, TA ++ TK ++ TB ++ Y2 = B := ⟨_, rfl⟩
 have hXS : X.size ≤ 40000 := by rw [← hX]; simp only [ByteArray.size_append]; omega
 have hX1 : X.data.toList = (rB 2 ((vout v).take K)).raw ++ (rB 1 key).raw ++ (rB 2 ((vout v).drop K)).raw ++ u := by
  rw [← hX, ← hTA, ← hTK, ← hTB]
  simp only [ByteArray.data_append, Array.toList_append]
  rw [hXA1, hXB1, HKK.out, HYY.out]
 have HUN := Lib.hid (fun w' => (both_any 1000001 X 10 w' (by omega) (by omega) (by omega)).2)
 rw [hX1, khalves (by omega) HU1.out ⟨by have := HVW.out; omega, by have h := congrArg List.length hXA1; rw [← h]; simp only [Array.length_toList, ByteArray.size_data]; omega, by have h := congrArg List.length hXB1; rw [← h]; simp only [Array.length_toList, ByteArray.size_data]; omega⟩ (by rw [List.take_append_drop]; exact vback v 9 1000000 HFF.out.2.2 (by have := HVW.out; omega) HVM.out (by omega) (by have := vout_le v; have := vw_vb v; have := HVW.out; omega)) HU2.out] at HUN
 have HX := Lib.hid hX
 have r1 : ¬ 9223372036854775807 < TA.size + TK.size := by omega
 have r2 : ¬ 9223372036854775807 < TA.size + TK.size + TB.size := by omega
 have r3 : ¬ 9223372036854775807 < TA.size + TK.size + TB.size + Y2.size := by omega
 clear hXA1 hXB1 hXA2 hXB2 hKS hTA hTK hTB hlen hTA2 hTK2 hTB2 hX hXS hX1 hYS
 obtain ⟨D, hD⟩ : ∃ D, w6.drew = D := ⟨_, rfl⟩
 have hb : Below w6.heap.size w6 D := by rw [← hD]; exact (Below.refl _ _).drew
 have H13 := Lib.hid (H12.out.below hb)
 clear hb H12
 have hS := H13.out.is.2.2.2.1
 have hne : Nonempty {w' : World // (fun w' : World => w'.heap[w.heap.size]? = some (.cells #[.string K2, .bool true, .int .i64 k2, .string S2, .bool b2, .int .u64 n2, .slice lo2 ln2 lc2, .slice mo2 mn2 mc2, .string I2, .string U2, .string Y2] 35 (0, 0))) w'} := ⟨⟨_, hS⟩⟩
 refine wp_region_seqP (S := fun w' : World => w'.heap[w.heap.size]? = some (.cells #[.string K2, .bool true, .int .i64 k2, .string S2, .bool b2, .int .u64 n2, .slice lo2 ln2 lc2, .slice mo2 mn2 mc2, .string I2, .string U2, .string Y2] 35 (0, 0))) (.take 0 (.take 1 (.take 2 (.take 4 (.take 5 (.take 8 (.take 9 (.take 10 (.take 13 (.take 14 (.two 3 20 (.two 6 20 (.take 7 (.two 11 20 (.take 12 (.take 15 (.two 16 20 (.take 17 (.take 18 (.take 19 (.come 20 (.come 21 (.take 22 .done)))))) (.come 16 (.take 17 (.take 18 (.take 19 (.come 21 (.take 22 .done))))))))) (.come 11 (.take 12 (.take 15 (.come 16 (.take 17 (.take 18 (.take 19 (.come 21 (.take 22 .done))))))))))) (.come 6 (.take 7 (.come 11 (.take 12 (.take 15 (.come 16 (.take 17 (.take 18 (.take 19 (.come 21 (.take 22 .done)))))))))))) (.come 3 (.come 6 (.take 7 (.come 11 (.take 12 (.take 15 (.come 16 (.take 17 (.take 18 (.take 19 (.come 21 (.take 22 .done))))))))))))))))))))))) (by kernel_rfl) (by kernel_rfl) (by kernel_rfl) (by kernel_rfl) (by rw [hD]; exact hS) ?_
 rw [hD]
 clear hD
 iterate 2 (refine seqP_take _ rfl (fun KC hK => ?_); go_simp; (first | refine hK _ ?_ | refine ⟨_, fun _ _ => rfl, hK _ ?_⟩); clear hK KC)
 iterate 2 (refine seqP_take _ rfl (fun KC hK => ?_); go_simp; (first | refine hK _ ?_ | refine ⟨_, fun _ _ => rfl, hK _ ?_⟩); clear hK KC)
 refine seqP_take _ rfl (fun KC hK => ?_); go_simp
 refine ⟨.string K2, fun a ha => by rw [row_cell ha (j := 0) rfl]; rfl, hK _ ?_⟩
 clear hK KC
 iterate 4 (refine seqP_take _ rfl (fun KC hK => ?_); go_simp; (first | refine hK _ ?_ | refine ⟨_, fun _ _ => rfl, hK _ ?_⟩); clear hK KC)
 refine seqP_take _ rfl (fun KC hK => ?_); go_simp
 refine ⟨.string Y2, fun a ha => by rw [row_cell ha (j := 10) rfl]; rfl, hK _ ?_⟩
 clear hK KC
 refine seqP_two _ _ rfl rfl (fun K9 hK => ?_) (fun K9 hK => ?_)
 ·skip
  go_simp
  refine (HBA.out D).mono ?_; rintro e wc3 ⟨rfl, hb⟩
  have H14 := Lib.hid (H13.out.below hb)
  clear hb H13
  have hS := H14.out.is.2.2.2.1
  go_simp; refine hK.out _ _ hS ?_; clear hK K9
  refine seqP_two _ _ rfl rfl (fun K9 hK => ?_) (fun K9 hK => ?_)
  ·skip
   go_simp
   refine (HBK.out wc3).mono ?_; rintro e wc6 ⟨rfl, hb⟩
   have H15 := Lib.hid (H14.out.below hb)
   clear hb H14
   have hS := H15.out.is.2.2.2.1
   go_simp; refine hK.out _ _ hS ?_; clear hK K9
   iterate 1 (refine seqP_take _ rfl (fun KC hK => ?_); go_simp; (first | refine hK _ ?_ | refine ⟨_, fun _ _ => rfl, hK _ ?_⟩); clear hK KC)
   refine seqP_two _ _ rfl rfl (fun K9 hK => ?_) (fun K9 hK => ?_)
   ·skip
    go_simp
    refine (HBB.out wc6).mono ?_; rintro e wc11 ⟨rfl, hb⟩
    have H16 := Lib.hid (H15.out.below hb)
    clear hb H15
    have hS := H16.out.is.2.2.2.1
    go_simp; refine hK.out _ _ hS ?_; clear hK K9
    iterate 2 (refine seqP_take _ rfl (fun KC hK => ?_); go_simp; (first | refine hK _ ?_ | refine ⟨_, fun _ _ => rfl, hK _ ?_⟩); clear hK KC)
    refine seqP_two _ _ rfl rfl (fun K9 hK => ?_) (fun K9 hK => ?_)
    ·skip
     go_simp
     rw [HX.out]
     refine (HUN.out wc11).mono ?_; rintro e w7 ⟨hb, hcase⟩
     obtain ⟨cs, rfl, hrel⟩ := hcase
     obtain ⟨K5, h5, k5, S5, b5, n5, lo5, ln5, lc5, mo5, mn5, mc5, I5, U5, Y5, rfl⟩ := hrel.form
     have hrl := KRel.lt _ _ hrel
     clear hrel
     have H17 := Lib.hid (H16.out.below hb)
     clear hb H16
     have H18 := Lib.hid (H17.out.krel (hrl))
     clear H17
     clear hrl
     have hS := H18.out.is.2.2.2.2.1
     go_simp; refine hK.out _ _ hS ?_; clear hK K9
     iterate 3 (refine seqP_take _ rfl (fun KC hK => ?_); go_simp; (first | refine hK _ ?_ | refine ⟨_, fun _ _ => rfl, hK _ ?_⟩); clear hK KC)
     refine seqP_come _ rfl (fun K9 hK => ?_)
     go_simp
     have HA := H18
     have hb0 : Below w7.heap.size w7 w7 := Below.refl _ _
     have H19 := Lib.hid (H18.out.base (hb0))
     clear H18
     clear hb0
     obtain ⟨blz7, hbl⟩ : ∃ b, w7.heap.size = b := ⟨_, rfl⟩
     obtain ⟨WZ, hW⟩ : ∃ W, w7.alloc (.cells #[.string ⟨#[]⟩, .bool false, .int .i64 0, .string ⟨#[]⟩, .bool false, .int .u64 0, .slice none 0 0, .slice none 0 0, .string ⟨#[]⟩, .string ⟨#[]⟩, .string ⟨#[]⟩] 35) = W := ⟨_, rfl⟩
     have hb : Below w7.heap.size w7 WZ := by rw [← hW]; exact below_new _ _
     have hr : WZ.heap[blz7]? = some (.cells #[.string ⟨#[]⟩, .bool false, .int .i64 0, .string ⟨#[]⟩, .bool false, .int .u64 0, .slice none 0 0, .slice none 0 0, .string ⟨#[]⟩, .string ⟨#[]⟩, .string ⟨#[]⟩] 35 (0, 0)) := by rw [← hW, ← hbl]; exact new_row _ _ _
     have HBZ := Lib.hid hbl
     rw [hW, hbl]
     clear hW hbl
     have H20 := Lib.hid (H19.out.below hb)
     clear hb H19
     have H21 := Lib.hid (H20.out.row (hr))
     clear H20
     clear hr
     have hS := H21.out.is.2.2.2.2.2.2.1
     refine hK.out _ _ hS ?_; clear hK K9
     have HLT : Hid (w7.heap.size ≤ blz7) := Lib.hid (Nat.le_of_eq HBZ.out)
     refine seqP_wp _ rfl rfl (fun K9 hK => ?_)
     have hzr := H21.out.is.1
     have hab := H21.out.is.2.1
     refine wp_store_row 35 _ _ rfl blz7 #[.string K5, .bool h5, .int .i64 k5, .string S5, .bool b5, .int .u64 n5, .slice lo5 ln5 lc5, .slice mo5 mn5 mc5, .string I5, .string U5, .string Y5] (by go_simp) (by go_simp) 35 _ hzr (by rfl) (by rfl) (by simp [Value.oneCell']) ?_
     have hle : w7.heap.size ≤ blz7 := Nat.le_of_eq HBZ.out
     have hbs : Below w7.heap.size w7 (WZ.setRow blz7 #[.string K5, .bool h5, .int .i64 k5, .string S5, .bool b5, .int .u64 n5, .slice lo5 ln5 lc5, .slice mo5 mn5 mc5, .string I5, .string U5, .string Y5]) := below_setRow hab hle _
     have hrs : (WZ.setRow blz7 #[.string K5, .bool h5, .int .i64 k5, .string S5, .bool b5, .int .u64 n5, .slice lo5 ln5 lc5, .slice mo5 mn5 mc5, .string I5, .string U5, .string Y5]).heap[blz7]? = some (.cells #[.string K5, .bool h5, .int .i64 k5, .string S5, .bool b5, .int .u64 n5, .slice lo5 ln5 lc5, .slice mo5 mn5 mc5, .string I5, .string U5, .string Y5] 35 (0, 0)) := setRow_heap _ _ _ _ _ _ hzr
     have hup : Upd (fun k => k = blz7) WZ (WZ.setRow blz7 #[.string K5, .bool h5, .int .i64 k5, .string S5, .bool b5, .int .u64 n5, .slice lo5 ln5 lc5, .slice mo5 mn5 mc5, .string I5, .string U5, .string Y5]) := ⟨rfl, rfl, rfl, by simp [World.setRow], fun k hk hn => setRow_other _ _ _ _ hn⟩
     have hkr := KRel.upd hup (fun k hk e => by subst e; have := HLT.out; omega) (fun k hk => hk) _ _ (H21.out.is.2.2.1)
     obtain ⟨WS, hWS⟩ : ∃ W, WZ.setRow blz7 #[.string K5, .bool h5, .int .i64 k5, .string S5, .bool b5, .int .u64 n5, .slice lo5 ln5 lc5, .slice mo5 mn5 mc5, .string I5, .string U5, .string Y5] = W := ⟨_, rfl⟩
     rw [hWS] at hbs hrs hkr ⊢
     clear hWS hup hzr hab hle
     have HF := Lib.hid (HA.out.below hbs)
     clear hbs
     have H22 := Lib.hid (HF.out.row (hrs))
     clear HF
     have H23 := Lib.hid (H22.out.krel (hkr))
     clear H22
     clear hrs hkr
     have hS := H23.out.is.2.2.2.2.2.2.1
     refine hK.out _ _ hS ?_; clear hK K9
     iterate 1 (refine seqP_take _ rfl (fun KC hK => ?_); go_simp; (first | refine hK _ ?_ | refine ⟨_, fun _ _ => rfl, hK _ ?_⟩); clear hK KC)
     refine seqP_done ?_
     clear hne hS
     go_wp2_with fail
     refine (first8 WS (H23.out.is.2.2.2.2.2.2.2.1)).mono ?_; rintro e w17 ⟨rfl, hb⟩
     have H24 := Lib.hid (H23.out.below hb)
     clear hb H23
     obtain ⟨xk0, xk1, xk2, xk3, xk4, xk5, xk6, xk7, xk8, xk9, xk10⟩ := row11 (H24.out.is.2.2.2.2.2.2.1)
     obtain ⟨xl0, xl1, xl2, xl3, xl4, xl5, xl6, xl7, xl8, xl9, xl10⟩ := row11 (H24.out.is.2.1)
     go_wp2_with fail
     refine (key_same (.mk key true v u) (.mk key true v u) _ _ _ _ w17 HYL.out (H24.out.is.2.2.2.2.2.1) (H24.out.is.1)).mono ?_; rintro e w18 ⟨rfl, hb⟩
     rw [alike_yes rfl]
     clear xk0 xk1 xk2 xk3 xk4 xk5 xk6 xk7 xk8 xk9 xk10 xl0 xl1 xl2 xl3 xl4 xl5 xl6 xl7 xl8 xl9 xl10
     have H25 := Lib.hid (H24.out.below hb)
     clear hb H24
     go_wp2_with fail
     go_ret
     exact ⟨rfl, H25.out.is.2.2.2.2.2.2.2.2.1⟩
    ·skip
     go_simp
     have HA := H16
     have hb0 : Below wc11.heap.size wc11 wc11 := Below.refl _ _
     have H17 := Lib.hid (H16.out.base (hb0))
     clear H16
     clear hb0
     obtain ⟨blz7, hbl⟩ : ∃ b, wc11.heap.size = b := ⟨_, rfl⟩
     obtain ⟨WZ, hW⟩ : ∃ W, wc11.alloc (.cells #[.string ⟨#[]⟩, .bool false, .int .i64 0, .string ⟨#[]⟩, .bool false, .int .u64 0, .slice none 0 0, .slice none 0 0, .string ⟨#[]⟩, .string ⟨#[]⟩, .string ⟨#[]⟩] 35) = W := ⟨_, rfl⟩
     have hb : Below wc11.heap.size wc11 WZ := by rw [← hW]; exact below_new _ _
     have hr : WZ.heap[blz7]? = some (.cells #[.string ⟨#[]⟩, .bool false, .int .i64 0, .string ⟨#[]⟩, .bool false, .int .u64 0, .slice none 0 0, .slice none 0 0, .string ⟨#[]⟩, .string ⟨#[]⟩, .string ⟨#[]⟩] 35 (0, 0)) := by rw [← hW, ← hbl]; exact new_row _ _ _
     have HBZ := Lib.hid hbl
     rw [hW, hbl]
     clear hW hbl
     have H18 := Lib.hid (H17.out.below hb)
     clear hb H17
     have H19 := Lib.hid (H18.out.row (hr))
     clear H18
     clear hr
     have hS := H19.out.is.2.2.2.2.2.1
     refine hK.out _ _ hS ?_; clear hK K9
     have HLT : Hid (blz7 < WZ.heap.size) := Lib.hid (row_lt (H19.out.is.1))
     refine seqP_come _ rfl (fun K9 hK => ?_)
     go_simp
     rw [HX.out]
     refine (HUN.out WZ).mono ?_; rintro e w7 ⟨hb, hcase⟩
     obtain ⟨cs, rfl, hrel⟩ := hcase
     obtain ⟨K5, h5, k5, S5, b5, n5, lo5, ln5, lc5, mo5, mn5, mc5, I5, U5, Y5, rfl⟩ := hrel.form
     have hrl := KRel.lt _ _ hrel
     clear hrel
     have H20 := Lib.hid (H19.out.below hb)
     clear hb H19
     have H21 := Lib.hid (H20.out.krel (hrl))
     clear H20
     clear hrl
     have hS := H21.out.is.2.2.2.2.2.2.1
     go_simp; refine hK.out _ _ hS ?_; clear hK K9
     iterate 3 (refine seqP_take _ rfl (fun KC hK => ?_); go_simp; (first | refine hK _ ?_ | refine ⟨_, fun _ _ => rfl, hK _ ?_⟩); clear hK KC)
     refine seqP_wp _ rfl rfl (fun K9 hK => ?_)
     have hzr := H21.out.is.2.1
     have hab := H21.out.is.2.2.1
     refine wp_store_row 35 _ _ rfl blz7 #[.string K5, .bool h5, .int .i64 k5, .string S5, .bool b5, .int .u64 n5, .slice lo5 ln5 lc5, .slice mo5 mn5 mc5, .string I5, .string U5, .string Y5] (by go_simp) (by go_simp) 35 _ hzr (by rfl) (by rfl) (by simp [Value.oneCell']) ?_
     have hle : wc11.heap.size ≤ blz7 := Nat.le_of_eq HBZ.out
     have hbs : Below wc11.heap.size wc11 (w7.setRow blz7 #[.string K5, .bool h5, .int .i64 k5, .string S5, .bool b5, .int .u64 n5, .slice lo5 ln5 lc5, .slice mo5 mn5 mc5, .string I5, .string U5, .string Y5]) := below_setRow hab hle _
     have hrs : (w7.setRow blz7 #[.string K5, .bool h5, .int .i64 k5, .string S5, .bool b5, .int .u64 n5, .slice lo5 ln5 lc5, .slice mo5 mn5 mc5, .string I5, .string U5, .string Y5]).heap[blz7]? = some (.cells #[.string K5, .bool h5, .int .i64 k5, .string S5, .bool b5, .int .u64 n5, .slice lo5 ln5 lc5, .slice mo5 mn5 mc5, .string I5, .string U5, .string Y5] 35 (0, 0)) := setRow_heap _ _ _ _ _ _ hzr
     have hup : Upd (fun k => k = blz7) w7 (w7.setRow blz7 #[.string K5, .bool h5, .int .i64 k5, .string S5, .bool b5, .int .u64 n5, .slice lo5 ln5 lc5, .slice mo5 mn5 mc5, .string I5, .string U5, .string Y5]) := ⟨rfl, rfl, rfl, by simp [World.setRow], fun k hk hn => setRow_other _ _ _ _ hn⟩
     have hkr := KRel.upd hup (fun k hk e => by subst e; have := HLT.out; omega) (fun k hk => hk) _ _ (H21.out.is.1)
     obtain ⟨WS, hWS⟩ : ∃ W, w7.setRow blz7 #[.string K5, .bool h5, .int .i64 k5, .string S5, .bool b5, .int .u64 n5, .slice lo5 ln5 lc5, .slice mo5 mn5 mc5, .string I5, .string U5, .string Y5] = W := ⟨_, rfl⟩
     rw [hWS] at hbs hrs hkr ⊢
     clear hWS hup hzr hab hle
     have HF := Lib.hid (HA.out.below hbs)
     clear hbs
     have H22 := Lib.hid (HF.out.row (hrs))
     clear HF
     have H23 := Lib.hid (H22.out.krel (hkr))
     clear H22
     clear hrs hkr
     have hS := H23.out.is.2.2.2.2.2.1
     refine hK.out _ _ hS ?_; clear hK K9
     iterate 1 (refine seqP_take _ rfl (fun KC hK => ?_); go_simp; (first | refine hK _ ?_ | refine ⟨_, fun _ _ => rfl, hK _ ?_⟩); clear hK KC)
     refine seqP_done ?_
     clear hne hS
     go_wp2_with fail
     refine (first8 WS (H23.out.is.2.2.2.2.2.2.1)).mono ?_; rintro e w17 ⟨rfl, hb⟩
     have H24 := Lib.hid (H23.out.below hb)
     clear hb H23
     obtain ⟨xk0, xk1, xk2, xk3, xk4, xk5, xk6, xk7, xk8, xk9, xk10⟩ := row11 (H24.out.is.2.2.2.2.2.1)
     obtain ⟨xl0, xl1, xl2, xl3, xl4, xl5, xl6, xl7, xl8, xl9, xl10⟩ := row11 (H24.out.is.2.1)
     go_wp2_with fail
     refine (key_same (.mk key true v u) (.mk key true v u) _ _ _ _ w17 HYL.out (H24.out.is.2.2.2.2.1) (H24.out.is.1)).mono ?_; rintro e w18 ⟨rfl, hb⟩
     rw [alike_yes rfl]
     clear xk0 xk1 xk2 xk3 xk4 xk5 xk6 xk7 xk8 xk9 xk10 xl0 xl1 xl2 xl3 xl4 xl5 xl6 xl7 xl8 xl9 xl10
     have H25 := Lib.hid (H24.out.below hb)
     clear hb H24
     go_wp2_with fail
     go_ret
     exact ⟨rfl, H25.out.is.2.2.2.2.2.2.2.1⟩
   ·skip
    go_simp
    have HA := H15
    have hb0 : Below wc6.heap.size wc6 wc6 := Below.refl _ _
    have H16 := Lib.hid (H15.out.base (hb0))
    clear H15
    clear hb0
    obtain ⟨blz7, hbl⟩ : ∃ b, wc6.heap.size = b := ⟨_, rfl⟩
    obtain ⟨WZ, hW⟩ : ∃ W, wc6.alloc (.cells #[.string ⟨#[]⟩, .bool false, .int .i64 0, .string ⟨#[]⟩, .bool false, .int .u64 0, .slice none 0 0, .slice none 0 0, .string ⟨#[]⟩, .string ⟨#[]⟩, .string ⟨#[]⟩] 35) = W := ⟨_, rfl⟩
    have hb : Below wc6.heap.size wc6 WZ := by rw [← hW]; exact below_new _ _
    have hr : WZ.heap[blz7]? = some (.cells #[.string ⟨#[]⟩, .bool false, .int .i64 0, .string ⟨#[]⟩, .bool false, .int .u64 0, .slice none 0 0, .slice none 0 0, .string ⟨#[]⟩, .string ⟨#[]⟩, .string ⟨#[]⟩] 35 (0, 0)) := by rw [← hW, ← hbl]; exact new_row _ _ _
    have HBZ := Lib.hid hbl
    rw [hW, hbl]
    clear hW hbl
    have H17 := Lib.hid (H16.out.below hb)
    clear hb H16
    have H18 := Lib.hid (H17.out.row (hr))
    clear H17
    clear hr
    have hS := H18.out.is.2.2.2.2.2.1
    refine hK.out _ _ hS ?_; clear hK K9
    refine seqP_come _ rfl (fun K9 hK => ?_)
    go_simp
    refine (HBB.out WZ).mono ?_; rintro e wc11 ⟨rfl, hb⟩
    have H19 := Lib.hid (H18.out.below hb)
    clear hb H18
    have hS := H19.out.is.2.2.2.2.2.1
    go_simp; refine hK.out _ _ hS ?_; clear hK K9
    iterate 2 (refine seqP_take _ rfl (fun KC hK => ?_); go_simp; (first | refine hK _ ?_ | refine ⟨_, fun _ _ => rfl, hK _ ?_⟩); clear hK KC)
    have HLT : Hid (blz7 < wc11.heap.size) := Lib.hid (row_lt (H19.out.is.1))
    refine seqP_come _ rfl (fun K9 hK => ?_)
    go_simp
    rw [HX.out]
    refine (HUN.out wc11).mono ?_; rintro e w7 ⟨hb, hcase⟩
    obtain ⟨cs, rfl, hrel⟩ := hcase
    obtain ⟨K5, h5, k5, S5, b5, n5, lo5, ln5, lc5, mo5, mn5, mc5, I5, U5, Y5, rfl⟩ := hrel.form
    have hrl := KRel.lt _ _ hrel
    clear hrel
    have H20 := Lib.hid (H19.out.below hb)
    clear hb H19
    have H21 := Lib.hid (H20.out.krel (hrl))
    clear H20
    clear hrl
    have hS := H21.out.is.2.2.2.2.2.2.1
    go_simp; refine hK.out _ _ hS ?_; clear hK K9
    iterate 3 (refine seqP_take _ rfl (fun KC hK => ?_); go_simp; (first | refine hK _ ?_ | refine ⟨_, fun _ _ => rfl, hK _ ?_⟩); clear hK KC)
    refine seqP_wp _ rfl rfl (fun K9 hK => ?_)
    have hzr := H21.out.is.2.1
    have hab := H21.out.is.2.2.1
    refine wp_store_row 35 _ _ rfl blz7 #[.string K5, .bool h5, .int .i64 k5, .string S5, .bool b5, .int .u64 n5, .slice lo5 ln5 lc5, .slice mo5 mn5 mc5, .string I5, .string U5, .string Y5] (by go_simp) (by go_simp) 35 _ hzr (by rfl) (by rfl) (by simp [Value.oneCell']) ?_
    have hle : wc6.heap.size ≤ blz7 := Nat.le_of_eq HBZ.out
    have hbs : Below wc6.heap.size wc6 (w7.setRow blz7 #[.string K5, .bool h5, .int .i64 k5, .string S5, .bool b5, .int .u64 n5, .slice lo5 ln5 lc5, .slice mo5 mn5 mc5, .string I5, .string U5, .string Y5]) := below_setRow hab hle _
    have hrs : (w7.setRow blz7 #[.string K5, .bool h5, .int .i64 k5, .string S5, .bool b5, .int .u64 n5, .slice lo5 ln5 lc5, .slice mo5 mn5 mc5, .string I5, .string U5, .string Y5]).heap[blz7]? = some (.cells #[.string K5, .bool h5, .int .i64 k5, .string S5, .bool b5, .int .u64 n5, .slice lo5 ln5 lc5, .slice mo5 mn5 mc5, .string I5, .string U5, .string Y5] 35 (0, 0)) := setRow_heap _ _ _ _ _ _ hzr
    have hup : Upd (fun k => k = blz7) w7 (w7.setRow blz7 #[.string K5, .bool h5, .int .i64 k5, .string S5, .bool b5, .int .u64 n5, .slice lo5 ln5 lc5, .slice mo5 mn5 mc5, .string I5, .string U5, .string Y5]) := ⟨rfl, rfl, rfl, by simp [World.setRow], fun k hk hn => setRow_other _ _ _ _ hn⟩
    have hkr := KRel.upd hup (fun k hk e => by subst e; have := HLT.out; omega) (fun k hk => hk) _ _ (H21.out.is.1)
    obtain ⟨WS, hWS⟩ : ∃ W, w7.setRow blz7 #[.string K5, .bool h5, .int .i64 k5, .string S5, .bool b5, .int .u64 n5, .slice lo5 ln5 lc5, .slice mo5 mn5 mc5, .string I5, .string U5, .string Y5] = W := ⟨_, rfl⟩
    rw [hWS] at hbs hrs hkr ⊢
    clear hWS hup hzr hab hle
    have HF := Lib.hid (HA.out.below hbs)
    clear hbs
    have H22 := Lib.hid (HF.out.row (hrs))
    clear HF
    have H23 := Lib.hid (H22.out.krel (hkr))
    clear H22
    clear hrs hkr
    have hS := H23.out.is.2.2.2.2.2.1
    refine hK.out _ _ hS ?_; clear hK K9
    iterate 1 (refine seqP_take _ rfl (fun KC hK => ?_); go_simp; (first | refine hK _ ?_ | refine ⟨_, fun _ _ => rfl, hK _ ?_⟩); clear hK KC)
    refine seqP_done ?_
    clear hne hS
    go_wp2_with fail
    refine (first8 WS (H23.out.is.2.2.2.2.2.2.1)).mono ?_; rintro e w17 ⟨rfl, hb⟩
    have H24 := Lib.hid (H23.out.below hb)
    clear hb H23
    obtain ⟨xk0, xk1, xk2, xk3, xk4, xk5, xk6, xk7, xk8, xk9, xk10⟩ := row11 (H24.out.is.2.2.2.2.2.1)
    obtain ⟨xl0, xl1, xl2, xl3, xl4, xl5, xl6, xl7, xl8, xl9, xl10⟩ := row11 (H24.out.is.2.1)
    go_wp2_with fail
    refine (key_same (.mk key true v u) (.mk key true v u) _ _ _ _ w17 HYL.out (H24.out.is.2.2.2.2.1) (H24.out.is.1)).mono ?_; rintro e w18 ⟨rfl, hb⟩
    rw [alike_yes rfl]
    clear xk0 xk1 xk2 xk3 xk4 xk5 xk6 xk7 xk8 xk9 xk10 xl0 xl1 xl2 xl3 xl4 xl5 xl6 xl7 xl8 xl9 xl10
    have H25 := Lib.hid (H24.out.below hb)
    clear hb H24
    go_wp2_with fail
    go_ret
    exact ⟨rfl, H25.out.is.2.2.2.2.2.2.2.1⟩
  ·skip
   go_simp
   have HA := H14
   have hb0 : Below wc3.heap.size wc3 wc3 := Below.refl _ _
   have H15 := Lib.hid (H14.out.base (hb0))
   clear H14
   clear hb0
   obtain ⟨blz7, hbl⟩ : ∃ b, wc3.heap.size = b := ⟨_, rfl⟩
   obtain ⟨WZ, hW⟩ : ∃ W, wc3.alloc (.cells #[.string ⟨#[]⟩, .bool false, .int .i64 0, .string ⟨#[]⟩, .bool false, .int .u64 0, .slice none 0 0, .slice none 0 0, .string ⟨#[]⟩, .string ⟨#[]⟩, .string ⟨#[]⟩] 35) = W := ⟨_, rfl⟩
   have hb : Below wc3.heap.size wc3 WZ := by rw [← hW]; exact below_new _ _
   have hr : WZ.heap[blz7]? = some (.cells #[.string ⟨#[]⟩, .bool false, .int .i64 0, .string ⟨#[]⟩, .bool false, .int .u64 0, .slice none 0 0, .slice none 0 0, .string ⟨#[]⟩, .string ⟨#[]⟩, .string ⟨#[]⟩] 35 (0, 0)) := by rw [← hW, ← hbl]; exact new_row _ _ _
   have HBZ := Lib.hid hbl
   rw [hW, hbl]
   clear hW hbl
   have H16 := Lib.hid (H15.out.below hb)
   clear hb H15
   have H17 := Lib.hid (H16.out.row (hr))
   clear H16
   clear hr
   have hS := H17.out.is.2.2.2.2.2.1
   refine hK.out _ _ hS ?_; clear hK K9
   refine seqP_come _ rfl (fun K9 hK => ?_)
   go_simp
   refine (HBK.out WZ).mono ?_; rintro e wc6 ⟨rfl, hb⟩
   have H18 := Lib.hid (H17.out.below hb)
   clear hb H17
   have hS := H18.out.is.2.2.2.2.2.1
   go_simp; refine hK.out _ _ hS ?_; clear hK K9
   iterate 1 (refine seqP_take _ rfl (fun KC hK => ?_); go_simp; (first | refine hK _ ?_ | refine ⟨_, fun _ _ => rfl, hK _ ?_⟩); clear hK KC)
   refine seqP_come _ rfl (fun K9 hK => ?_)
   go_simp
   refine (HBB.out wc6).mono ?_; rintro e wc11 ⟨rfl, hb⟩
   have H19 := Lib.hid (H18.out.below hb)
   clear hb H18
   have hS := H19.out.is.2.2.2.2.2.1
   go_simp; refine hK.out _ _ hS ?_; clear hK K9
   iterate 2 (refine seqP_take _ rfl (fun KC hK => ?_); go_simp; (first | refine hK _ ?_ | refine ⟨_, fun _ _ => rfl, hK _ ?_⟩); clear hK KC)
   have HLT : Hid (blz7 < wc11.heap.size) := Lib.hid (row_lt (H19.out.is.1))
   refine seqP_come _ rfl (fun K9 hK => ?_)
   go_simp
   rw [HX.out]
   refine (HUN.out wc11).mono ?_; rintro e w7 ⟨hb, hcase⟩
   obtain ⟨cs, rfl, hrel⟩ := hcase
   obtain ⟨K5, h5, k5, S5, b5, n5, lo5, ln5, lc5, mo5, mn5, mc5, I5, U5, Y5, rfl⟩ := hrel.form
   have hrl := KRel.lt _ _ hrel
   clear hrel
   have H20 := Lib.hid (H19.out.below hb)
   clear hb H19
   have H21 := Lib.hid (H20.out.krel (hrl))
   clear H20
   clear hrl
   have hS := H21.out.is.2.2.2.2.2.2.1
   go_simp; refine hK.out _ _ hS ?_; clear hK K9
   iterate 3 (refine seqP_take _ rfl (fun KC hK => ?_); go_simp; (first | refine hK _ ?_ | refine ⟨_, fun _ _ => rfl, hK _ ?_⟩); clear hK KC)
   refine seqP_wp _ rfl rfl (fun K9 hK => ?_)
   have hzr := H21.out.is.2.1
   have hab := H21.out.is.2.2.1
   refine wp_store_row 35 _ _ rfl blz7 #[.string K5, .bool h5, .int .i64 k5, .string S5, .bool b5, .int .u64 n5, .slice lo5 ln5 lc5, .slice mo5 mn5 mc5, .string I5, .string U5, .string Y5] (by go_simp) (by go_simp) 35 _ hzr (by rfl) (by rfl) (by simp [Value.oneCell']) ?_
   have hle : wc3.heap.size ≤ blz7 := Nat.le_of_eq HBZ.out
   have hbs : Below wc3.heap.size wc3 (w7.setRow blz7 #[.string K5, .bool h5, .int .i64 k5, .string S5, .bool b5, .int .u64 n5, .slice lo5 ln5 lc5, .slice mo5 mn5 mc5, .string I5, .string U5, .string Y5]) := below_setRow hab hle _
   have hrs : (w7.setRow blz7 #[.string K5, .bool h5, .int .i64 k5, .string S5, .bool b5, .int .u64 n5, .slice lo5 ln5 lc5, .slice mo5 mn5 mc5, .string I5, .string U5, .string Y5]).heap[blz7]? = some (.cells #[.string K5, .bool h5, .int .i64 k5, .string S5, .bool b5, .int .u64 n5, .slice lo5 ln5 lc5, .slice mo5 mn5 mc5, .string I5, .string U5, .string Y5] 35 (0, 0)) := setRow_heap _ _ _ _ _ _ hzr
   have hup : Upd (fun k => k = blz7) w7 (w7.setRow blz7 #[.string K5, .bool h5, .int .i64 k5, .string S5, .bool b5, .int .u64 n5, .slice lo5 ln5 lc5, .slice mo5 mn5 mc5, .string I5, .string U5, .string Y5]) := ⟨rfl, rfl, rfl, by simp [World.setRow], fun k hk hn => setRow_other _ _ _ _ hn⟩
   have hkr := KRel.upd hup (fun k hk e => by subst e; have := HLT.out; omega) (fun k hk => hk) _ _ (H21.out.is.1)
   obtain ⟨WS, hWS⟩ : ∃ W, w7.setRow blz7 #[.string K5, .bool h5, .int .i64 k5, .string S5, .bool b5, .int .u64 n5, .slice lo5 ln5 lc5, .slice mo5 mn5 mc5, .string I5, .string U5, .string Y5] = W := ⟨_, rfl⟩
   rw [hWS] at hbs hrs hkr ⊢
   clear hWS hup hzr hab hle
   have HF := Lib.hid (HA.out.below hbs)
   clear hbs
   have H22 := Lib.hid (HF.out.row (hrs))
   clear HF
   have H23 := Lib.hid (H22.out.krel (hkr))
   clear H22
   clear hrs hkr
   have hS := H23.out.is.2.2.2.2.2.1
   refine hK.out _ _ hS ?_; clear hK K9
   iterate 1 (refine seqP_take _ rfl (fun KC hK => ?_); go_simp; (first | refine hK _ ?_ | refine ⟨_, fun _ _ => rfl, hK _ ?_⟩); clear hK KC)
   refine seqP_done ?_
   clear hne hS
   go_wp2_with fail
   refine (first8 WS (H23.out.is.2.2.2.2.2.2.1)).mono ?_; rintro e w17 ⟨rfl, hb⟩
   have H24 := Lib.hid (H23.out.below hb)
   clear hb H23
   obtain ⟨xk0, xk1, xk2, xk3, xk4, xk5, xk6, xk7, xk8, xk9, xk10⟩ := row11 (H24.out.is.2.2.2.2.2.1)
   obtain ⟨xl0, xl1, xl2, xl3, xl4, xl5, xl6, xl7, xl8, xl9, xl10⟩ := row11 (H24.out.is.2.1)
   go_wp2_with fail
   refine (key_same (.mk key true v u) (.mk key true v u) _ _ _ _ w17 HYL.out (H24.out.is.2.2.2.2.1) (H24.out.is.1)).mono ?_; rintro e w18 ⟨rfl, hb⟩
   rw [alike_yes rfl]
   clear xk0 xk1 xk2 xk3 xk4 xk5 xk6 xk7 xk8 xk9 xk10 xl0 xl1 xl2 xl3 xl4 xl5 xl6 xl7 xl8 xl9 xl10
   have H25 := Lib.hid (H24.out.below hb)
   clear hb H24
   go_wp2_with fail
   go_ret
   exact ⟨rfl, H25.out.is.2.2.2.2.2.2.2.1⟩
 ·skip
  go_simp
  have HA := H13
  have hb0 : Below D.heap.size D D := Below.refl _ _
  have H14 := Lib.hid (H13.out.base (hb0))
  clear H13
  clear hb0
  obtain ⟨blz7, hbl⟩ : ∃ b, D.heap.size = b := ⟨_, rfl⟩
  obtain ⟨WZ, hW⟩ : ∃ W, D.alloc (.cells #[.string ⟨#[]⟩, .bool false, .int .i64 0, .string ⟨#[]⟩, .bool false, .int .u64 0, .slice none 0 0, .slice none 0 0, .string ⟨#[]⟩, .string ⟨#[]⟩, .string ⟨#[]⟩] 35) = W := ⟨_, rfl⟩
  have hb : Below D.heap.size D WZ := by rw [← hW]; exact below_new _ _
  have hr : WZ.heap[blz7]? = some (.cells #[.string ⟨#[]⟩, .bool false, .int .i64 0, .string ⟨#[]⟩, .bool false, .int .u64 0, .slice none 0 0, .slice none 0 0, .string ⟨#[]⟩, .string ⟨#[]⟩, .string ⟨#[]⟩] 35 (0, 0)) := by rw [← hW, ← hbl]; exact new_row _ _ _
  have HBZ := Lib.hid hbl
  rw [hW, hbl]
  clear hW hbl
  have H15 := Lib.hid (H14.out.below hb)
  clear hb H14
  have H16 := Lib.hid (H15.out.row (hr))
  clear H15
  clear hr
  have hS := H16.out.is.2.2.2.2.2.1
  refine hK.out _ _ hS ?_; clear hK K9
  refine seqP_come _ rfl (fun K9 hK => ?_)
  go_simp
  refine (HBA.out WZ).mono ?_; rintro e wc3 ⟨rfl, hb⟩
  have H17 := Lib.hid (H16.out.below hb)
  clear hb H16
  have hS := H17.out.is.2.2.2.2.2.1
  go_simp; refine hK.out _ _ hS ?_; clear hK K9
  refine seqP_come _ rfl (fun K9 hK => ?_)
  go_simp
  refine (HBK.out wc3).mono ?_; rintro e wc6 ⟨rfl, hb⟩
  have H18 := Lib.hid (H17.out.below hb)
  clear hb H17
  have hS := H18.out.is.2.2.2.2.2.1
  go_simp; refine hK.out _ _ hS ?_; clear hK K9
  iterate 1 (refine seqP_take _ rfl (fun KC hK => ?_); go_simp; (first | refine hK _ ?_ | refine ⟨_, fun _ _ => rfl, hK _ ?_⟩); clear hK KC)
  refine seqP_come _ rfl (fun K9 hK => ?_)
  go_simp
  refine (HBB.out wc6).mono ?_; rintro e wc11 ⟨rfl, hb⟩
  have H19 := Lib.hid (H18.out.below hb)
  clear hb H18
  have hS := H19.out.is.2.2.2.2.2.1
  go_simp; refine hK.out _ _ hS ?_; clear hK K9
  iterate 2 (refine seqP_take _ rfl (fun KC hK => ?_); go_simp; (first | refine hK _ ?_ | refine ⟨_, fun _ _ => rfl, hK _ ?_⟩); clear hK KC)
  have HLT : Hid (blz7 < wc11.heap.size) := Lib.hid (row_lt (H19.out.is.1))
  refine seqP_come _ rfl (fun K9 hK => ?_)
  go_simp
  rw [HX.out]
  refine (HUN.out wc11).mono ?_; rintro e w7 ⟨hb, hcase⟩
  obtain ⟨cs, rfl, hrel⟩ := hcase
  obtain ⟨K5, h5, k5, S5, b5, n5, lo5, ln5, lc5, mo5, mn5, mc5, I5, U5, Y5, rfl⟩ := hrel.form
  have hrl := KRel.lt _ _ hrel
  clear hrel
  have H20 := Lib.hid (H19.out.below hb)
  clear hb H19
  have H21 := Lib.hid (H20.out.krel (hrl))
  clear H20
  clear hrl
  have hS := H21.out.is.2.2.2.2.2.2.1
  go_simp; refine hK.out _ _ hS ?_; clear hK K9
  iterate 3 (refine seqP_take _ rfl (fun KC hK => ?_); go_simp; (first | refine hK _ ?_ | refine ⟨_, fun _ _ => rfl, hK _ ?_⟩); clear hK KC)
  refine seqP_wp _ rfl rfl (fun K9 hK => ?_)
  have hzr := H21.out.is.2.1
  have hab := H21.out.is.2.2.1
  refine wp_store_row 35 _ _ rfl blz7 #[.string K5, .bool h5, .int .i64 k5, .string S5, .bool b5, .int .u64 n5, .slice lo5 ln5 lc5, .slice mo5 mn5 mc5, .string I5, .string U5, .string Y5] (by go_simp) (by go_simp) 35 _ hzr (by rfl) (by rfl) (by simp [Value.oneCell']) ?_
  have hle : D.heap.size ≤ blz7 := Nat.le_of_eq HBZ.out
  have hbs : Below D.heap.size D (w7.setRow blz7 #[.string K5, .bool h5, .int .i64 k5, .string S5, .bool b5, .int .u64 n5, .slice lo5 ln5 lc5, .slice mo5 mn5 mc5, .string I5, .string U5, .string Y5]) := below_setRow hab hle _
  have hrs : (w7.setRow blz7 #[.string K5, .bool h5, .int .i64 k5, .string S5, .bool b5, .int .u64 n5, .slice lo5 ln5 lc5, .slice mo5 mn5 mc5, .string I5, .string U5, .string Y5]).heap[blz7]? = some (.cells #[.string K5, .bool h5, .int .i64 k5, .string S5, .bool b5, .int .u64 n5, .slice lo5 ln5 lc5, .slice mo5 mn5 mc5, .string I5, .string U5, .string Y5] 35 (0, 0)) := setRow_heap _ _ _ _ _ _ hzr
  have hup : Upd (fun k => k = blz7) w7 (w7.setRow blz7 #[.string K5, .bool h5, .int .i64 k5, .string S5, .bool b5, .int .u64 n5, .slice lo5 ln5 lc5, .slice mo5 mn5 mc5, .string I5, .string U5, .string Y5]) := ⟨rfl, rfl, rfl, by simp [World.setRow], fun k hk hn => setRow_other _ _ _ _ hn⟩
  have hkr := KRel.upd hup (fun k hk e => by subst e; have := HLT.out; omega) (fun k hk => hk) _ _ (H21.out.is.1)
  obtain ⟨WS, hWS⟩ : ∃ W, w7.setRow blz7 #[.string K5, .bool h5, .int .i64 k5, .string S5, .bool b5, .int .u64 n5, .slice lo5 ln5 lc5, .slice mo5 mn5 mc5, .string I5, .string U5, .string Y5] = W := ⟨_, rfl⟩
  rw [hWS] at hbs hrs hkr ⊢
  clear hWS hup hzr hab hle
  have HF := Lib.hid (HA.out.below hbs)
  clear hbs
  have H22 := Lib.hid (HF.out.row (hrs))
  clear HF
  have H23 := Lib.hid (H22.out.krel (hkr))
  clear H22
  clear hrs hkr
  have hS := H23.out.is.2.2.2.2.2.1
  refine hK.out _ _ hS ?_; clear hK K9
  iterate 1 (refine seqP_take _ rfl (fun KC hK => ?_); go_simp; (first | refine hK _ ?_ | refine ⟨_, fun _ _ => rfl, hK _ ?_⟩); clear hK KC)
  refine seqP_done ?_
  clear hne hS
  go_wp2_with fail
  refine (first8 WS (H23.out.is.2.2.2.2.2.2.1)).mono ?_; rintro e w17 ⟨rfl, hb⟩
  have H24 := Lib.hid (H23.out.below hb)
  clear hb H23
  obtain ⟨xk0, xk1, xk2, xk3, xk4, xk5, xk6, xk7, xk8, xk9, xk10⟩ := row11 (H24.out.is.2.2.2.2.2.1)
  obtain ⟨xl0, xl1, xl2, xl3, xl4, xl5, xl6, xl7, xl8, xl9, xl10⟩ := row11 (H24.out.is.2.1)
  go_wp2_with fail
  refine (key_same (.mk key true v u) (.mk key true v u) _ _ _ _ w17 HYL.out (H24.out.is.2.2.2.2.1) (H24.out.is.1)).mono ?_; rintro e w18 ⟨rfl, hb⟩
  rw [alike_yes rfl]
  clear xk0 xk1 xk2 xk3 xk4 xk5 xk6 xk7 xk8 xk9 xk10 xl0 xl1 xl2 xl3 xl4 xl5 xl6 xl7 xl8 xl9 xl10
  have H25 := Lib.hid (H24.out.below hb)
  clear hb H24
  go_wp2_with fail
  go_ret
  exact ⟨rfl, H25.out.is.2.2.2.2.2.2.2.1⟩
end Go.Proofs.YteknippgiljgeaaGreatDoor
