/-
  hyglaw13.HistBack.
-/
import Derived.Test.YtjbingoliffjiaaGreatHiMar
import Derived.Test.YtjbingoliffjiaaGreatHiKMar
import Derived.Test.YtjbingoliffjiaaGreatHiSame
import Derived.Test.YtjbingoliffjiaaGreatHiRoom
set_option maxRecDepth 1000000
set_option maxHeartbeats 16000000
namespace Go.Proofs.YtjbingoliffjiaaGreat
open Go.RowKit
def R3w (T : TypeId) (g1 : Nat) (c1 : Array Value) (g2 : Nat) (c2 : Array Value) (g3 : Nat) (c3 : Array Value) (w : World) : Prop := w.heap[g1]? = some (.cells c1 T (0, 0)) ∧ w.heap[g2]? = some (.cells c2 T (0, 0)) ∧ w.heap[g3]? = some (.cells c3 T (0, 0))
theorem R3w.below {g1 g2 g3 : Nat} {c1 c2 c3 : Array Value} {T : TypeId} {w w' : World} (h : R3w T g1 c1 g2 c2 g3 c3 w) (hb : Below w.heap.size w w') : R3w T g1 c1 g2 c2 g3 c3 w' := ⟨(hb.block _ (row_lt h.1)).trans h.1, (hb.block _ (row_lt h.2.1)).trans h.2.1, (hb.block _ (row_lt h.2.2)).trans h.2.2⟩
theorem hibk_F (x : Hi) (cs : List Value) (P : Nat → Prop) (d c : Int) (w : World) (ha : hi_arg x) (hr : hiCel.R w P x cs) (hd : -9223372036854775808 ≤ d ∧ d ≤ 9223372036854775807) (hc : -9223372036854775808 ≤ c ∧ c ≤ 9223372036854775807) (hm : hi_may d x = false) :
 Calls Tryz.prog 4 #[.agg cs.toArray, .int .i64 d, .int .i64 c] w fun e w' => e = .returned (.bool true) ∧ Below w.heap.size w w' := by
 obtain ⟨⟨a, ⟨t, ⟨k, ⟨⟨ph, pn⟩, ⟨nc, ⟨nb, ⟨es, ⟨l, ⟨f, ⟨⟨mh, mn⟩, ⟨gh, gn⟩⟩⟩⟩⟩⟩⟩⟩⟩⟩⟩, u⟩ := x
 have hs := hr
 obtain ⟨lo1, lc1, nco1, ncc1, nbo1, nbc1, eo1, ec1, rfl, _, _, _, _⟩ := hs
 dsimp only [strV]
 obtain ⟨Xu, eu⟩ : ∃ X : ByteArray, (⟨u.toArray⟩ : ByteArray) = X := ⟨_, rfl⟩
 have HNu := Lib.hid eu
 clear eu
 rw [HNu.out]
 have HARG := Lib.hid ha
 have HDX := Lib.hid hd
 have HCX := Lib.hid hc
 have HMX := Lib.hid hm
 have hb : Below w.heap.size w w := Below.refl _ _
 have H1 := Lib.hid (Fx.nil w)
 have H2 := Lib.hid (H1.out.base (hb))
 clear H1
 clear hb
 have H3 := Lib.hid (H2.out.cel (hr))
 clear H2
 clear hr hd hc hm ha
 go_enter Tryz.func4, Tryz.ntmps4
 go_upto_region 1 with fail
 obtain ⟨blr1, hbl⟩ : ∃ b, w.heap.size = b := ⟨_, rfl⟩
 obtain ⟨W1, hW⟩ : ∃ W, w.alloc (.cells #[.slice lo1 l.length lc1, .int .u64 (a : Int), .int .u64 (t : Int), .int .u64 (k : Int), .bool ph, .int .u64 (pn : Int), .bool mh, .int .u64 (mn : Int), .bool gh, .int .u64 (gn : Int), .slice nco1 nc.length ncc1, .slice nbo1 nb.length nbc1, .slice eo1 es.length ec1, .int .u32 (f : Int), .string Xu] 30) = W := ⟨_, rfl⟩
 have hb : Below w.heap.size w W1 := by rw [← hW]; exact below_new _ _
 have hr : W1.heap[blr1]? = some (.cells #[.slice lo1 l.length lc1, .int .u64 (a : Int), .int .u64 (t : Int), .int .u64 (k : Int), .bool ph, .int .u64 (pn : Int), .bool mh, .int .u64 (mn : Int), .bool gh, .int .u64 (gn : Int), .slice nco1 nc.length ncc1, .slice nbo1 nb.length nbc1, .slice eo1 es.length ec1, .int .u32 (f : Int), .string Xu] 30 (0, 0)) := by rw [← hW, ← hbl]; exact new_row _ _ _
 rw [hW, hbl]
 clear hW hbl
 have H4 := Lib.hid (H3.out.below hb)
 clear hb H3
 have H5 := Lib.hid (H4.out.row (hr))
 clear H4
 clear hr
 go_wp2_with fail
 refine (first13 W1).mono ?_; rintro e w1 ⟨rfl, hb⟩
 have H6 := Lib.hid (H5.out.below hb)
 clear hb H5
 obtain ⟨xa0, xa1, xa2, xa3, xa4, xa5, xa6, xa7, xa8, xa9, xa10, xa11, xa12, xa13, xa14⟩ := row15 (H6.out.is.1)
 go_wp2_with fail
 refine (hi_room ((a, (t, (k, ((ph, pn), (nc, (nb, (es, (l, (f, ((mh, mn), (gh, gn))))))))))), u) [.slice lo1 l.length lc1, .int .u64 (a : Int), .int .u64 (t : Int), .int .u64 (k : Int), .bool ph, .int .u64 (pn : Int), .bool mh, .int .u64 (mn : Int), .bool gh, .int .u64 (gn : Int), .slice nco1 nc.length ncc1, .slice nbo1 nb.length nbc1, .slice eo1 es.length ec1, .int .u32 (f : Int), .string Xu] _ w1 12000 HARG.out (by rw [← HNu.out]; exact H6.out.is.2.1) (by omega)).mono ?_; intro e w2 hpost
 obtain ⟨hb, r, rfl, HR⟩ := hpost
 clear xa0 xa1 xa2 xa3 xa4 xa5 xa6 xa7 xa8 xa9 xa10 xa11 xa12 xa13 xa14
 have H7 := Lib.hid (H6.out.below hb)
 clear hb H6
 by_cases hr0 : r < 0
 case pos =>
  have d1 : decide (r < 0) = true := decide_eq_true hr0
  clear hr0 HR
  go_wp2_with fail
  refine (first13 w2).mono ?_; rintro e w9 ⟨rfl, hb⟩
  have H8 := Lib.hid (H7.out.below hb)
  clear hb H7
  go_wp2_with fail
  go_ret
  exact ⟨rfl, H8.out.is.2.2.1⟩
 have d1 : decide (r < 0) = false := decide_eq_false hr0
 by_cases hc0 : c < 0
 case pos =>
  have d2 : decide (c < 0) = true := decide_eq_true hc0
  clear hc0 hr0 HR
  go_wp2_with fail
  refine (first13 w2).mono ?_; rintro e w9 ⟨rfl, hb⟩
  have H8 := Lib.hid (H7.out.below hb)
  clear hb H7
  go_wp2_with fail
  go_ret
  exact ⟨rfl, H8.out.is.2.2.1⟩
 have d2 : decide (c < 0) = false := decide_eq_false hc0
 by_cases hc1 : d < c
 case pos =>
  have d3 : decide (d < c) = true := decide_eq_true hc1
  clear hc1 hc0 hr0 HR
  go_wp2_with fail
  refine (first13 w2).mono ?_; rintro e w9 ⟨rfl, hb⟩
  have H8 := Lib.hid (H7.out.below hb)
  clear hb H7
  go_wp2_with fail
  go_ret
  exact ⟨rfl, H8.out.is.2.2.1⟩
 have d3 : decide (d < c) = false := decide_eq_false hc1
 have HRF := Lib.hid (hi_fit_of HARG.out (by have h := HR.out; unfold RoomOk at h; omega))
 have HC0 := Lib.hid hc0
 have HC1 := Lib.hid hc1
 clear HR hr0 hc0 hc1
 obtain ⟨xa0, xa1, xa2, xa3, xa4, xa5, xa6, xa7, xa8, xa9, xa10, xa11, xa12, xa13, xa14⟩ := row15 (H7.out.is.1)
 go_wp2_with fail
 refine (hi_marshal ((a, (t, (k, ((ph, pn), (nc, (nb, (es, (l, (f, ((mh, mn), (gh, gn))))))))))), u) [.slice lo1 l.length lc1, .int .u64 (a : Int), .int .u64 (t : Int), .int .u64 (k : Int), .bool ph, .int .u64 (pn : Int), .bool mh, .int .u64 (mn : Int), .bool gh, .int .u64 (gn : Int), .slice nco1 nc.length ncc1, .slice nbo1 nb.length nbc1, .slice eo1 es.length ec1, .int .u32 (f : Int), .string Xu] _ d w2 HRF.out (by rw [← HNu.out]; exact H7.out.is.2.1) HDX.out).mono ?_; rintro e w3 ⟨hb, hcase⟩
 rw [HMX.out, if_neg (by simp)] at hcase
 obtain ⟨v, rfl, hec⟩ := hcase
 obtain ⟨T', y, rfl⟩ := hec.iface
 clear hec
 clear xa0 xa1 xa2 xa3 xa4 xa5 xa6 xa7 xa8 xa9 xa10 xa11 xa12 xa13 xa14
 have H8 := Lib.hid (H7.out.below hb)
 clear hb H7
 go_wp2_with fail
 refine (first13 w3).mono ?_; rintro e w4 ⟨rfl, hb⟩
 have H9 := Lib.hid (H8.out.below hb)
 clear hb H8
 go_wp2_with fail
 go_ret
 exact ⟨rfl, H9.out.is.2.2.1⟩
theorem hibk_TF (x : Hi) (cs : List Value) (P : Nat → Prop) (d c : Int) (w : World) (ha : hi_arg x) (hr : hiCel.R w P x cs) (hd : -9223372036854775808 ≤ d ∧ d ≤ 9223372036854775807) (hc : -9223372036854775808 ≤ c ∧ c ≤ 9223372036854775807) (hm : hi_may d x = true) (hm2 : hi_may (d - c) x = false) :
 Calls Tryz.prog 4 #[.agg cs.toArray, .int .i64 d, .int .i64 c] w fun e w' => e = .returned (.bool true) ∧ Below w.heap.size w w' := by
 obtain ⟨⟨a, ⟨t, ⟨k, ⟨⟨ph, pn⟩, ⟨nc, ⟨nb, ⟨es, ⟨l, ⟨f, ⟨⟨mh, mn⟩, ⟨gh, gn⟩⟩⟩⟩⟩⟩⟩⟩⟩⟩⟩, u⟩ := x
 have hs := hr
 obtain ⟨lo1, lc1, nco1, ncc1, nbo1, nbc1, eo1, ec1, rfl, _, _, _, _⟩ := hs
 dsimp only [strV]
 obtain ⟨Xu, eu⟩ : ∃ X : ByteArray, (⟨u.toArray⟩ : ByteArray) = X := ⟨_, rfl⟩
 have HNu := Lib.hid eu
 clear eu
 rw [HNu.out]
 have HARG := Lib.hid ha
 have HDX := Lib.hid hd
 have HCX := Lib.hid hc
 have HMX := Lib.hid hm
 have HMY := Lib.hid hm2
 have hb : Below w.heap.size w w := Below.refl _ _
 have H1 := Lib.hid (Fx.nil w)
 have H2 := Lib.hid (H1.out.base (hb))
 clear H1
 clear hb
 have H3 := Lib.hid (H2.out.cel (hr))
 clear H2
 clear hr hd hc hm ha hm2
 go_enter Tryz.func4, Tryz.ntmps4
 go_upto_region 1 with fail
 obtain ⟨blr1, hbl⟩ : ∃ b, w.heap.size = b := ⟨_, rfl⟩
 obtain ⟨W1, hW⟩ : ∃ W, w.alloc (.cells #[.slice lo1 l.length lc1, .int .u64 (a : Int), .int .u64 (t : Int), .int .u64 (k : Int), .bool ph, .int .u64 (pn : Int), .bool mh, .int .u64 (mn : Int), .bool gh, .int .u64 (gn : Int), .slice nco1 nc.length ncc1, .slice nbo1 nb.length nbc1, .slice eo1 es.length ec1, .int .u32 (f : Int), .string Xu] 30) = W := ⟨_, rfl⟩
 have hb : Below w.heap.size w W1 := by rw [← hW]; exact below_new _ _
 have hr : W1.heap[blr1]? = some (.cells #[.slice lo1 l.length lc1, .int .u64 (a : Int), .int .u64 (t : Int), .int .u64 (k : Int), .bool ph, .int .u64 (pn : Int), .bool mh, .int .u64 (mn : Int), .bool gh, .int .u64 (gn : Int), .slice nco1 nc.length ncc1, .slice nbo1 nb.length nbc1, .slice eo1 es.length ec1, .int .u32 (f : Int), .string Xu] 30 (0, 0)) := by rw [← hW, ← hbl]; exact new_row _ _ _
 rw [hW, hbl]
 clear hW hbl
 have H4 := Lib.hid (H3.out.below hb)
 clear hb H3
 have H5 := Lib.hid (H4.out.row (hr))
 clear H4
 clear hr
 go_wp2_with fail
 refine (first13 W1).mono ?_; rintro e w1 ⟨rfl, hb⟩
 have H6 := Lib.hid (H5.out.below hb)
 clear hb H5
 obtain ⟨xa0, xa1, xa2, xa3, xa4, xa5, xa6, xa7, xa8, xa9, xa10, xa11, xa12, xa13, xa14⟩ := row15 (H6.out.is.1)
 go_wp2_with fail
 refine (hi_room ((a, (t, (k, ((ph, pn), (nc, (nb, (es, (l, (f, ((mh, mn), (gh, gn))))))))))), u) [.slice lo1 l.length lc1, .int .u64 (a : Int), .int .u64 (t : Int), .int .u64 (k : Int), .bool ph, .int .u64 (pn : Int), .bool mh, .int .u64 (mn : Int), .bool gh, .int .u64 (gn : Int), .slice nco1 nc.length ncc1, .slice nbo1 nb.length nbc1, .slice eo1 es.length ec1, .int .u32 (f : Int), .string Xu] _ w1 12000 HARG.out (by rw [← HNu.out]; exact H6.out.is.2.1) (by omega)).mono ?_; intro e w2 hpost
 obtain ⟨hb, r, rfl, HR⟩ := hpost
 clear xa0 xa1 xa2 xa3 xa4 xa5 xa6 xa7 xa8 xa9 xa10 xa11 xa12 xa13 xa14
 have H7 := Lib.hid (H6.out.below hb)
 clear hb H6
 by_cases hr0 : r < 0
 case pos =>
  have d1 : decide (r < 0) = true := decide_eq_true hr0
  clear hr0 HR
  go_wp2_with fail
  refine (first13 w2).mono ?_; rintro e w9 ⟨rfl, hb⟩
  have H8 := Lib.hid (H7.out.below hb)
  clear hb H7
  go_wp2_with fail
  go_ret
  exact ⟨rfl, H8.out.is.2.2.1⟩
 have d1 : decide (r < 0) = false := decide_eq_false hr0
 by_cases hc0 : c < 0
 case pos =>
  have d2 : decide (c < 0) = true := decide_eq_true hc0
  clear hc0 hr0 HR
  go_wp2_with fail
  refine (first13 w2).mono ?_; rintro e w9 ⟨rfl, hb⟩
  have H8 := Lib.hid (H7.out.below hb)
  clear hb H7
  go_wp2_with fail
  go_ret
  exact ⟨rfl, H8.out.is.2.2.1⟩
 have d2 : decide (c < 0) = false := decide_eq_false hc0
 by_cases hc1 : d < c
 case pos =>
  have d3 : decide (d < c) = true := decide_eq_true hc1
  clear hc1 hc0 hr0 HR
  go_wp2_with fail
  refine (first13 w2).mono ?_; rintro e w9 ⟨rfl, hb⟩
  have H8 := Lib.hid (H7.out.below hb)
  clear hb H7
  go_wp2_with fail
  go_ret
  exact ⟨rfl, H8.out.is.2.2.1⟩
 have d3 : decide (d < c) = false := decide_eq_false hc1
 have HRF := Lib.hid (hi_fit_of HARG.out (by have h := HR.out; unfold RoomOk at h; omega))
 have HC0 := Lib.hid hc0
 have HC1 := Lib.hid hc1
 clear HR hr0 hc0 hc1
 obtain ⟨xa0, xa1, xa2, xa3, xa4, xa5, xa6, xa7, xa8, xa9, xa10, xa11, xa12, xa13, xa14⟩ := row15 (H7.out.is.1)
 go_wp2_with fail
 refine (hi_marshal ((a, (t, (k, ((ph, pn), (nc, (nb, (es, (l, (f, ((mh, mn), (gh, gn))))))))))), u) [.slice lo1 l.length lc1, .int .u64 (a : Int), .int .u64 (t : Int), .int .u64 (k : Int), .bool ph, .int .u64 (pn : Int), .bool mh, .int .u64 (mn : Int), .bool gh, .int .u64 (gn : Int), .slice nco1 nc.length ncc1, .slice nbo1 nb.length nbc1, .slice eo1 es.length ec1, .int .u32 (f : Int), .string Xu] _ d w2 HRF.out (by rw [← HNu.out]; exact H7.out.is.2.1) HDX.out).mono ?_; rintro e w3 ⟨hb, hcase⟩
 rw [HMX.out, if_pos rfl] at hcase
 subst hcase
 have hq : IntKind.i64.wrap (d - c) = d - c := IntWalk.i64_in _ (by have := HDX.out; have := HCX.out; have := HC0.out; have := HC1.out; omega)
 have hdc : -9223372036854775808 ≤ d - c ∧ d - c ≤ 9223372036854775807 := by have := HDX.out; have := HCX.out; have := HC0.out; have := HC1.out; omega
 have HDC := Lib.hid hdc
 have hbk := hi_back HRF.out HMX.out
 obtain ⟨SS, hSS⟩ : ∃ S : ByteArray, (⟨(hi_out ((a, (t, (k, ((ph, pn), (nc, (nb, (es, (l, (f, ((mh, mn), (gh, gn))))))))))), u)).toArray⟩ : ByteArray) = S := ⟨_, rfl⟩
 have hSL : SS.data.toList = hi_out ((a, (t, (k, ((ph, pn), (nc, (nb, (es, (l, (f, ((mh, mn), (gh, gn))))))))))), u) := by rw [← hSS]
 have hsz : SS.size = (hi_out ((a, (t, (k, ((ph, pn), (nc, (nb, (es, (l, (f, ((mh, mn), (gh, gn))))))))))), u)).length := by rw [← hSS]; simp [ByteArray.size]
 have HLM := Lib.hid (hi_olen HRF.out)
 have HU := Lib.hid (fun w' => hi_un SS d w' (by have := HLM.out; omega) HDX.out)
 have HU2 := Lib.hid (fun w' => hi_un SS (d - c) w' (by have := HLM.out; omega) hdc)
 rw [hSL, hbk] at HU
 rw [hSS]
 obtain ⟨ec, hec⟩ := hi_less HRF.out HMX.out (by have := HC0.out; omega) HMY.out
 rw [hSL, hec] at HU2
 clear hec
 clear hdc hbk hSS hSL hsz
 clear xa0 xa1 xa2 xa3 xa4 xa5 xa6 xa7 xa8 xa9 xa10 xa11 xa12 xa13 xa14
 have H8 := Lib.hid (H7.out.below hb)
 clear hb H7
 go_wp2_with fail
 refine (HU.out w3).mono ?_; rintro e w4 ⟨hb, cs, rfl, hrel⟩
 clear HU
 have hr2 := hrel
 obtain ⟨lo2, lc2, nco2, ncc2, nbo2, nbc2, eo2, ec2, rfl, _, _, _, _⟩ := hr2
 dsimp only [strV]
 rw [HNu.out]
 have H9 := Lib.hid (H8.out.below hb)
 clear hb H8
 have H10 := Lib.hid (H9.out.cel (hrel))
 clear H9
 clear hrel
 go_upto_region 9 with fail
 obtain ⟨blr2, hbl⟩ : ∃ b, w4.heap.size = b := ⟨_, rfl⟩
 obtain ⟨W5, hW⟩ : ∃ W, w4.alloc (.cells #[.slice lo2 l.length lc2, .int .u64 (a : Int), .int .u64 (t : Int), .int .u64 (k : Int), .bool ph, .int .u64 (pn : Int), .bool mh, .int .u64 (mn : Int), .bool gh, .int .u64 (gn : Int), .slice nco2 nc.length ncc2, .slice nbo2 nb.length nbc2, .slice eo2 es.length ec2, .int .u32 (f : Int), .string Xu] 30) = W := ⟨_, rfl⟩
 have hb : Below w4.heap.size w4 W5 := by rw [← hW]; exact below_new _ _
 have hr : W5.heap[blr2]? = some (.cells #[.slice lo2 l.length lc2, .int .u64 (a : Int), .int .u64 (t : Int), .int .u64 (k : Int), .bool ph, .int .u64 (pn : Int), .bool mh, .int .u64 (mn : Int), .bool gh, .int .u64 (gn : Int), .slice nco2 nc.length ncc2, .slice nbo2 nb.length nbc2, .slice eo2 es.length ec2, .int .u32 (f : Int), .string Xu] 30 (0, 0)) := by rw [← hW, ← hbl]; exact new_row _ _ _
 rw [hW, hbl]
 clear hW hbl
 have H11 := Lib.hid (H10.out.below hb)
 clear hb H10
 have H12 := Lib.hid (H11.out.row (hr))
 clear H11
 clear hr
 go_wp2_with fail
 refine (HU2.out W5).mono ?_; rintro e w6 ⟨hb, v4, q4, rfl, _, hew⟩
 obtain ⟨T4, y4, rfl⟩ := hew.iface
 clear HU2
 unfold hizero
 have H13 := Lib.hid (H12.out.below hb)
 clear hb H12
 clear hew
 go_upto_region 10 with fail
 obtain ⟨blr3, hbl⟩ : ∃ b, w6.heap.size = b := ⟨_, rfl⟩
 obtain ⟨W7, hW⟩ : ∃ W, w6.alloc (.cells #[.slice none 0 0, .int .u64 0, .int .u64 0, .int .u64 0, .bool false, .int .u64 0, .bool false, .int .u64 0, .bool false, .int .u64 0, .slice none 0 0, .slice none 0 0, .slice none 0 0, .int .u32 0, .string ⟨#[]⟩] 30) = W := ⟨_, rfl⟩
 have hb : Below w6.heap.size w6 W7 := by rw [← hW]; exact below_new _ _
 have hr : W7.heap[blr3]? = some (.cells #[.slice none 0 0, .int .u64 0, .int .u64 0, .int .u64 0, .bool false, .int .u64 0, .bool false, .int .u64 0, .bool false, .int .u64 0, .slice none 0 0, .slice none 0 0, .slice none 0 0, .int .u32 0, .string ⟨#[]⟩] 30 (0, 0)) := by rw [← hW, ← hbl]; exact new_row _ _ _
 rw [hW, hbl]
 clear hW hbl
 have H14 := Lib.hid (H13.out.below hb)
 clear hb H13
 have H15 := Lib.hid (H14.out.row (hr))
 clear H14
 clear hr
 obtain ⟨D, hD⟩ : ∃ D, W7.drew = D := ⟨_, rfl⟩
 have hb : Below W7.heap.size W7 D := by rw [← hD]; exact (Below.refl _ _).drew
 have H16 := Lib.hid (H15.out.below hb)
 clear hb H15
 have hS : R3w 30 blr1 #[.slice lo1 l.length lc1, .int .u64 (a : Int), .int .u64 (t : Int), .int .u64 (k : Int), .bool ph, .int .u64 (pn : Int), .bool mh, .int .u64 (mn : Int), .bool gh, .int .u64 (gn : Int), .slice nco1 nc.length ncc1, .slice nbo1 nb.length nbc1, .slice eo1 es.length ec1, .int .u32 (f : Int), .string Xu] blr2 #[.slice lo2 l.length lc2, .int .u64 (a : Int), .int .u64 (t : Int), .int .u64 (k : Int), .bool ph, .int .u64 (pn : Int), .bool mh, .int .u64 (mn : Int), .bool gh, .int .u64 (gn : Int), .slice nco2 nc.length ncc2, .slice nbo2 nb.length nbc2, .slice eo2 es.length ec2, .int .u32 (f : Int), .string Xu] blr3 #[.slice none 0 0, .int .u64 0, .int .u64 0, .int .u64 0, .bool false, .int .u64 0, .bool false, .int .u64 0, .bool false, .int .u64 0, .slice none 0 0, .slice none 0 0, .slice none 0 0, .int .u32 0, .string ⟨#[]⟩] D := ⟨H16.out.is.2.2.2.1, H16.out.is.2.1, H16.out.is.1⟩
 have hne : Nonempty {w' : World // R3w 30 blr1 #[.slice lo1 l.length lc1, .int .u64 (a : Int), .int .u64 (t : Int), .int .u64 (k : Int), .bool ph, .int .u64 (pn : Int), .bool mh, .int .u64 (mn : Int), .bool gh, .int .u64 (gn : Int), .slice nco1 nc.length ncc1, .slice nbo1 nb.length nbc1, .slice eo1 es.length ec1, .int .u32 (f : Int), .string Xu] blr2 #[.slice lo2 l.length lc2, .int .u64 (a : Int), .int .u64 (t : Int), .int .u64 (k : Int), .bool ph, .int .u64 (pn : Int), .bool mh, .int .u64 (mn : Int), .bool gh, .int .u64 (gn : Int), .slice nco2 nc.length ncc2, .slice nbo2 nb.length nbc2, .slice eo2 es.length ec2, .int .u32 (f : Int), .string Xu] blr3 #[.slice none 0 0, .int .u64 0, .int .u64 0, .int .u64 0, .bool false, .int .u64 0, .bool false, .int .u64 0, .bool false, .int .u64 0, .slice none 0 0, .slice none 0 0, .slice none 0 0, .int .u32 0, .string ⟨#[]⟩] w'} := ⟨⟨_, hS⟩⟩
 refine wp_region_seq (S := R3w 30 blr1 #[.slice lo1 l.length lc1, .int .u64 (a : Int), .int .u64 (t : Int), .int .u64 (k : Int), .bool ph, .int .u64 (pn : Int), .bool mh, .int .u64 (mn : Int), .bool gh, .int .u64 (gn : Int), .slice nco1 nc.length ncc1, .slice nbo1 nb.length nbc1, .slice eo1 es.length ec1, .int .u32 (f : Int), .string Xu] blr2 #[.slice lo2 l.length lc2, .int .u64 (a : Int), .int .u64 (t : Int), .int .u64 (k : Int), .bool ph, .int .u64 (pn : Int), .bool mh, .int .u64 (mn : Int), .bool gh, .int .u64 (gn : Int), .slice nco2 nc.length ncc2, .slice nbo2 nb.length nbc2, .slice eo2 es.length ec2, .int .u32 (f : Int), .string Xu] blr3 #[.slice none 0 0, .int .u64 0, .int .u64 0, .int .u64 0, .bool false, .int .u64 0, .bool false, .int .u64 0, .bool false, .int .u64 0, .slice none 0 0, .slice none 0 0, .slice none 0 0, .int .u32 0, .string ⟨#[]⟩]) [(0, false), (1, true), (2, true), (3, true), (4, true), (5, true), (6, true), (7, true), (8, false), (9, true), (10, true), (11, true), (12, true), (13, true), (14, true), (15, true), (16, true), (17, false), (18, true), (19, true), (20, true), (21, true), (22, true), (23, true), (24, true), (25, true), (26, false), (27, true), (28, true), (29, true)] (by kernel_rfl) (by kernel_rfl) (by kernel_rfl) (by kernel_rfl) (by rw [hD]; exact hS) ?_
 rw [hD]
 clear hD
 refine seq_come _ rfl (fun KC hK => ?_); go_simp
 refine (first13 D).mono ?_; rintro e w8 ⟨rfl, hb⟩
 have hS8 := hS.below hb
 have H17 := Lib.hid (H16.out.below hb)
 clear hb H16
 go_simp; refine hK.out _ _ hS8 ?_; clear hK KC
 iterate 5 (refine seq_take _ rfl (fun KC hK => ?_); go_simp; (first | refine hK _ ?_ | refine ⟨_, fun _ _ => rfl, hK _ ?_⟩); clear hK KC)
 refine seq_take _ rfl (fun KC hK => ?_); go_simp
 refine ⟨.agg #[.slice lo1 l.length lc1, .int .u64 (a : Int), .int .u64 (t : Int), .int .u64 (k : Int), .bool ph, .int .u64 (pn : Int), .bool mh, .int .u64 (mn : Int), .bool gh, .int .u64 (gn : Int), .slice nco1 nc.length ncc1, .slice nbo1 nb.length nbc1, .slice eo1 es.length ec1, .int .u32 (f : Int), .string Xu], fun a ha => by obtain ⟨p0, p1, p2, p3, p4, p5, p6, p7, p8, p9, p10, p11, p12, p13, p14⟩ := row15 ha.1; simp only [p0, p1, p2, p3, p4, p5, p6, p7, p8, p9, p10, p11, p12, p13, p14, Result.andThen], hK _ ?_⟩
 clear hK KC
 refine seq_take _ rfl (fun KC hK => ?_); go_simp
 refine ⟨.agg #[.slice lo2 l.length lc2, .int .u64 (a : Int), .int .u64 (t : Int), .int .u64 (k : Int), .bool ph, .int .u64 (pn : Int), .bool mh, .int .u64 (mn : Int), .bool gh, .int .u64 (gn : Int), .slice nco2 nc.length ncc2, .slice nbo2 nb.length nbc2, .slice eo2 es.length ec2, .int .u32 (f : Int), .string Xu], fun a ha => by obtain ⟨p0, p1, p2, p3, p4, p5, p6, p7, p8, p9, p10, p11, p12, p13, p14⟩ := row15 ha.2.1; simp only [p0, p1, p2, p3, p4, p5, p6, p7, p8, p9, p10, p11, p12, p13, p14, Result.andThen], hK _ ?_⟩
 clear hK KC
 refine seq_come _ rfl (fun KC hK => ?_); go_simp
 refine (hi_same ((a, (t, (k, ((ph, pn), (nc, (nb, (es, (l, (f, ((mh, mn), (gh, gn))))))))))), u) ((a, (t, (k, ((ph, pn), (nc, (nb, (es, (l, (f, ((mh, mn), (gh, gn))))))))))), u) [.slice lo1 l.length lc1, .int .u64 (a : Int), .int .u64 (t : Int), .int .u64 (k : Int), .bool ph, .int .u64 (pn : Int), .bool mh, .int .u64 (mn : Int), .bool gh, .int .u64 (gn : Int), .slice nco1 nc.length ncc1, .slice nbo1 nb.length nbc1, .slice eo1 es.length ec1, .int .u32 (f : Int), .string Xu] [.slice lo2 l.length lc2, .int .u64 (a : Int), .int .u64 (t : Int), .int .u64 (k : Int), .bool ph, .int .u64 (pn : Int), .bool mh, .int .u64 (mn : Int), .bool gh, .int .u64 (gn : Int), .slice nco2 nc.length ncc2, .slice nbo2 nb.length nbc2, .slice eo2 es.length ec2, .int .u32 (f : Int), .string Xu] _ _ w8 HARG.out (by rw [← HNu.out]; exact H17.out.is.2.2.2.2.1) (by rw [← HNu.out]; exact H17.out.is.2.2.1)).mono ?_; rintro e w9 ⟨rfl, hb⟩
 rw [alike_yes rfl]
 have hS9 := hS8.below hb
 have H18 := Lib.hid (H17.out.below hb)
 clear hb H17
 go_simp; refine hK.out _ _ hS9 ?_; clear hK KC
 iterate 4 (refine seq_take _ rfl (fun KC hK => ?_); go_simp; (first | refine hK _ ?_ | refine ⟨_, fun _ _ => rfl, hK _ ?_⟩); clear hK KC)
 refine seq_take _ rfl (fun KC hK => ?_); go_simp
 refine ⟨.agg #[.slice lo1 l.length lc1, .int .u64 (a : Int), .int .u64 (t : Int), .int .u64 (k : Int), .bool ph, .int .u64 (pn : Int), .bool mh, .int .u64 (mn : Int), .bool gh, .int .u64 (gn : Int), .slice nco1 nc.length ncc1, .slice nbo1 nb.length nbc1, .slice eo1 es.length ec1, .int .u32 (f : Int), .string Xu], fun a ha => by obtain ⟨p0, p1, p2, p3, p4, p5, p6, p7, p8, p9, p10, p11, p12, p13, p14⟩ := row15 ha.1; simp only [p0, p1, p2, p3, p4, p5, p6, p7, p8, p9, p10, p11, p12, p13, p14, Result.andThen], hK _ ?_⟩
 clear hK KC
 iterate 3 (refine seq_take _ rfl (fun KC hK => ?_); go_simp; (first | refine hK _ ?_ | refine ⟨_, fun _ _ => rfl, hK _ ?_⟩); clear hK KC)
 refine seq_come _ rfl (fun KC hK => ?_); go_simp
 refine (hi_mayc ((a, (t, (k, ((ph, pn), (nc, (nb, (es, (l, (f, ((mh, mn), (gh, gn))))))))))), u) [.slice lo1 l.length lc1, .int .u64 (a : Int), .int .u64 (t : Int), .int .u64 (k : Int), .bool ph, .int .u64 (pn : Int), .bool mh, .int .u64 (mn : Int), .bool gh, .int .u64 (gn : Int), .slice nco1 nc.length ncc1, .slice nbo1 nb.length nbc1, .slice eo1 es.length ec1, .int .u32 (f : Int), .string Xu] _ (d - c) w9 HRF.out (by rw [← HNu.out]; exact H18.out.is.2.2.2.2.1) HDC.out).mono ?_; rintro e w10 ⟨rfl, hb⟩
 rw [HMY.out]
 have hS10 := hS9.below hb
 have H19 := Lib.hid (H18.out.below hb)
 clear hb H18
 go_simp; refine hK.out _ _ hS10 ?_; clear hK KC
 iterate 8 (refine seq_take _ rfl (fun KC hK => ?_); go_simp; (first | refine hK _ ?_ | refine ⟨_, fun _ _ => rfl, hK _ ?_⟩); clear hK KC)
 refine seq_come _ rfl (fun KC hK => ?_); go_simp
 refine hK.out _ _ hS10 ?_; clear hK KC
 iterate 3 (refine seq_take _ rfl (fun KC hK => ?_); go_simp; (first | refine hK _ ?_ | refine ⟨_, fun _ _ => rfl, hK _ ?_⟩); clear hK KC)
 refine seq_done ?_
 clear hne hS hS8 hS9 hS10
 go_wp2_with fail
 go_ret
 exact ⟨rfl, H19.out.is.2.2.2.2.2.1⟩
theorem hibk_TT (x : Hi) (cs : List Value) (P : Nat → Prop) (d c : Int) (w : World) (ha : hi_arg x) (hr : hiCel.R w P x cs) (hd : -9223372036854775808 ≤ d ∧ d ≤ 9223372036854775807) (hc : -9223372036854775808 ≤ c ∧ c ≤ 9223372036854775807) (hm : hi_may d x = true) (hm2 : hi_may (d - c) x = true) :
 Calls Tryz.prog 4 #[.agg cs.toArray, .int .i64 d, .int .i64 c] w fun e w' => e = .returned (.bool true) ∧ Below w.heap.size w w' := by
 obtain ⟨⟨a, ⟨t, ⟨k, ⟨⟨ph, pn⟩, ⟨nc, ⟨nb, ⟨es, ⟨l, ⟨f, ⟨⟨mh, mn⟩, ⟨gh, gn⟩⟩⟩⟩⟩⟩⟩⟩⟩⟩⟩, u⟩ := x
 have hs := hr
 obtain ⟨lo1, lc1, nco1, ncc1, nbo1, nbc1, eo1, ec1, rfl, _, _, _, _⟩ := hs
 dsimp only [strV]
 obtain ⟨Xu, eu⟩ : ∃ X : ByteArray, (⟨u.toArray⟩ : ByteArray) = X := ⟨_, rfl⟩
 have HNu := Lib.hid eu
 clear eu
 rw [HNu.out]
 have HARG := Lib.hid ha
 have HDX := Lib.hid hd
 have HCX := Lib.hid hc
 have HMX := Lib.hid hm
 have HMY := Lib.hid hm2
 have hb : Below w.heap.size w w := Below.refl _ _
 have H1 := Lib.hid (Fx.nil w)
 have H2 := Lib.hid (H1.out.base (hb))
 clear H1
 clear hb
 have H3 := Lib.hid (H2.out.cel (hr))
 clear H2
 clear hr hd hc hm ha hm2
 go_enter Tryz.func4, Tryz.ntmps4
 go_upto_region 1 with fail
 obtain ⟨blr1, hbl⟩ : ∃ b, w.heap.size = b := ⟨_, rfl⟩
 obtain ⟨W1, hW⟩ : ∃ W, w.alloc (.cells #[.slice lo1 l.length lc1, .int .u64 (a : Int), .int .u64 (t : Int), .int .u64 (k : Int), .bool ph, .int .u64 (pn : Int), .bool mh, .int .u64 (mn : Int), .bool gh, .int .u64 (gn : Int), .slice nco1 nc.length ncc1, .slice nbo1 nb.length nbc1, .slice eo1 es.length ec1, .int .u32 (f : Int), .string Xu] 30) = W := ⟨_, rfl⟩
 have hb : Below w.heap.size w W1 := by rw [← hW]; exact below_new _ _
 have hr : W1.heap[blr1]? = some (.cells #[.slice lo1 l.length lc1, .int .u64 (a : Int), .int .u64 (t : Int), .int .u64 (k : Int), .bool ph, .int .u64 (pn : Int), .bool mh, .int .u64 (mn : Int), .bool gh, .int .u64 (gn : Int), .slice nco1 nc.length ncc1, .slice nbo1 nb.length nbc1, .slice eo1 es.length ec1, .int .u32 (f : Int), .string Xu] 30 (0, 0)) := by rw [← hW, ← hbl]; exact new_row _ _ _
 rw [hW, hbl]
 clear hW hbl
 have H4 := Lib.hid (H3.out.below hb)
 clear hb H3
 have H5 := Lib.hid (H4.out.row (hr))
 clear H4
 clear hr
 go_wp2_with fail
 refine (first13 W1).mono ?_; rintro e w1 ⟨rfl, hb⟩
 have H6 := Lib.hid (H5.out.below hb)
 clear hb H5
 obtain ⟨xa0, xa1, xa2, xa3, xa4, xa5, xa6, xa7, xa8, xa9, xa10, xa11, xa12, xa13, xa14⟩ := row15 (H6.out.is.1)
 go_wp2_with fail
 refine (hi_room ((a, (t, (k, ((ph, pn), (nc, (nb, (es, (l, (f, ((mh, mn), (gh, gn))))))))))), u) [.slice lo1 l.length lc1, .int .u64 (a : Int), .int .u64 (t : Int), .int .u64 (k : Int), .bool ph, .int .u64 (pn : Int), .bool mh, .int .u64 (mn : Int), .bool gh, .int .u64 (gn : Int), .slice nco1 nc.length ncc1, .slice nbo1 nb.length nbc1, .slice eo1 es.length ec1, .int .u32 (f : Int), .string Xu] _ w1 12000 HARG.out (by rw [← HNu.out]; exact H6.out.is.2.1) (by omega)).mono ?_; intro e w2 hpost
 obtain ⟨hb, r, rfl, HR⟩ := hpost
 clear xa0 xa1 xa2 xa3 xa4 xa5 xa6 xa7 xa8 xa9 xa10 xa11 xa12 xa13 xa14
 have H7 := Lib.hid (H6.out.below hb)
 clear hb H6
 by_cases hr0 : r < 0
 case pos =>
  have d1 : decide (r < 0) = true := decide_eq_true hr0
  clear hr0 HR
  go_wp2_with fail
  refine (first13 w2).mono ?_; rintro e w9 ⟨rfl, hb⟩
  have H8 := Lib.hid (H7.out.below hb)
  clear hb H7
  go_wp2_with fail
  go_ret
  exact ⟨rfl, H8.out.is.2.2.1⟩
 have d1 : decide (r < 0) = false := decide_eq_false hr0
 by_cases hc0 : c < 0
 case pos =>
  have d2 : decide (c < 0) = true := decide_eq_true hc0
  clear hc0 hr0 HR
  go_wp2_with fail
  refine (first13 w2).mono ?_; rintro e w9 ⟨rfl, hb⟩
  have H8 := Lib.hid (H7.out.below hb)
  clear hb H7
  go_wp2_with fail
  go_ret
  exact ⟨rfl, H8.out.is.2.2.1⟩
 have d2 : decide (c < 0) = false := decide_eq_false hc0
 by_cases hc1 : d < c
 case pos =>
  have d3 : decide (d < c) = true := decide_eq_true hc1
  clear hc1 hc0 hr0 HR
  go_wp2_with fail
  refine (first13 w2).mono ?_; rintro e w9 ⟨rfl, hb⟩
  have H8 := Lib.hid (H7.out.below hb)
  clear hb H7
  go_wp2_with fail
  go_ret
  exact ⟨rfl, H8.out.is.2.2.1⟩
 have d3 : decide (d < c) = false := decide_eq_false hc1
 have HRF := Lib.hid (hi_fit_of HARG.out (by have h := HR.out; unfold RoomOk at h; omega))
 have HC0 := Lib.hid hc0
 have HC1 := Lib.hid hc1
 clear HR hr0 hc0 hc1
 obtain ⟨xa0, xa1, xa2, xa3, xa4, xa5, xa6, xa7, xa8, xa9, xa10, xa11, xa12, xa13, xa14⟩ := row15 (H7.out.is.1)
 go_wp2_with fail
 refine (hi_marshal ((a, (t, (k, ((ph, pn), (nc, (nb, (es, (l, (f, ((mh, mn), (gh, gn))))))))))), u) [.slice lo1 l.length lc1, .int .u64 (a : Int), .int .u64 (t : Int), .int .u64 (k : Int), .bool ph, .int .u64 (pn : Int), .bool mh, .int .u64 (mn : Int), .bool gh, .int .u64 (gn : Int), .slice nco1 nc.length ncc1, .slice nbo1 nb.length nbc1, .slice eo1 es.length ec1, .int .u32 (f : Int), .string Xu] _ d w2 HRF.out (by rw [← HNu.out]; exact H7.out.is.2.1) HDX.out).mono ?_; rintro e w3 ⟨hb, hcase⟩
 rw [HMX.out, if_pos rfl] at hcase
 subst hcase
 have hq : IntKind.i64.wrap (d - c) = d - c := IntWalk.i64_in _ (by have := HDX.out; have := HCX.out; have := HC0.out; have := HC1.out; omega)
 have hdc : -9223372036854775808 ≤ d - c ∧ d - c ≤ 9223372036854775807 := by have := HDX.out; have := HCX.out; have := HC0.out; have := HC1.out; omega
 have HDC := Lib.hid hdc
 have hbk := hi_back HRF.out HMX.out
 obtain ⟨SS, hSS⟩ : ∃ S : ByteArray, (⟨(hi_out ((a, (t, (k, ((ph, pn), (nc, (nb, (es, (l, (f, ((mh, mn), (gh, gn))))))))))), u)).toArray⟩ : ByteArray) = S := ⟨_, rfl⟩
 have hSL : SS.data.toList = hi_out ((a, (t, (k, ((ph, pn), (nc, (nb, (es, (l, (f, ((mh, mn), (gh, gn))))))))))), u) := by rw [← hSS]
 have hsz : SS.size = (hi_out ((a, (t, (k, ((ph, pn), (nc, (nb, (es, (l, (f, ((mh, mn), (gh, gn))))))))))), u)).length := by rw [← hSS]; simp [ByteArray.size]
 have HLM := Lib.hid (hi_olen HRF.out)
 have HU := Lib.hid (fun w' => hi_un SS d w' (by have := HLM.out; omega) HDX.out)
 have HU2 := Lib.hid (fun w' => hi_un SS (d - c) w' (by have := HLM.out; omega) hdc)
 rw [hSL, hbk] at HU
 rw [hSS]
 rw [hSL, hi_back HRF.out HMY.out] at HU2
 clear hdc hbk hSS hSL hsz
 clear xa0 xa1 xa2 xa3 xa4 xa5 xa6 xa7 xa8 xa9 xa10 xa11 xa12 xa13 xa14
 have H8 := Lib.hid (H7.out.below hb)
 clear hb H7
 go_wp2_with fail
 refine (HU.out w3).mono ?_; rintro e w4 ⟨hb, cs, rfl, hrel⟩
 clear HU
 have hr2 := hrel
 obtain ⟨lo2, lc2, nco2, ncc2, nbo2, nbc2, eo2, ec2, rfl, _, _, _, _⟩ := hr2
 dsimp only [strV]
 rw [HNu.out]
 have H9 := Lib.hid (H8.out.below hb)
 clear hb H8
 have H10 := Lib.hid (H9.out.cel (hrel))
 clear H9
 clear hrel
 go_upto_region 9 with fail
 obtain ⟨blr2, hbl⟩ : ∃ b, w4.heap.size = b := ⟨_, rfl⟩
 obtain ⟨W5, hW⟩ : ∃ W, w4.alloc (.cells #[.slice lo2 l.length lc2, .int .u64 (a : Int), .int .u64 (t : Int), .int .u64 (k : Int), .bool ph, .int .u64 (pn : Int), .bool mh, .int .u64 (mn : Int), .bool gh, .int .u64 (gn : Int), .slice nco2 nc.length ncc2, .slice nbo2 nb.length nbc2, .slice eo2 es.length ec2, .int .u32 (f : Int), .string Xu] 30) = W := ⟨_, rfl⟩
 have hb : Below w4.heap.size w4 W5 := by rw [← hW]; exact below_new _ _
 have hr : W5.heap[blr2]? = some (.cells #[.slice lo2 l.length lc2, .int .u64 (a : Int), .int .u64 (t : Int), .int .u64 (k : Int), .bool ph, .int .u64 (pn : Int), .bool mh, .int .u64 (mn : Int), .bool gh, .int .u64 (gn : Int), .slice nco2 nc.length ncc2, .slice nbo2 nb.length nbc2, .slice eo2 es.length ec2, .int .u32 (f : Int), .string Xu] 30 (0, 0)) := by rw [← hW, ← hbl]; exact new_row _ _ _
 rw [hW, hbl]
 clear hW hbl
 have H11 := Lib.hid (H10.out.below hb)
 clear hb H10
 have H12 := Lib.hid (H11.out.row (hr))
 clear H11
 clear hr
 go_wp2_with fail
 refine (HU2.out W5).mono ?_; rintro e w6 ⟨hb, cs, rfl, hrel⟩
 clear HU2
 have hr2 := hrel
 obtain ⟨lo3, lc3, nco3, ncc3, nbo3, nbc3, eo3, ec3, rfl, _, _, _, _⟩ := hr2
 dsimp only [strV]
 rw [HNu.out]
 have H13 := Lib.hid (H12.out.below hb)
 clear hb H12
 have H14 := Lib.hid (H13.out.cel (hrel))
 clear H13
 clear hrel
 go_upto_region 10 with fail
 obtain ⟨blr3, hbl⟩ : ∃ b, w6.heap.size = b := ⟨_, rfl⟩
 obtain ⟨W7, hW⟩ : ∃ W, w6.alloc (.cells #[.slice lo3 l.length lc3, .int .u64 (a : Int), .int .u64 (t : Int), .int .u64 (k : Int), .bool ph, .int .u64 (pn : Int), .bool mh, .int .u64 (mn : Int), .bool gh, .int .u64 (gn : Int), .slice nco3 nc.length ncc3, .slice nbo3 nb.length nbc3, .slice eo3 es.length ec3, .int .u32 (f : Int), .string Xu] 30) = W := ⟨_, rfl⟩
 have hb : Below w6.heap.size w6 W7 := by rw [← hW]; exact below_new _ _
 have hr : W7.heap[blr3]? = some (.cells #[.slice lo3 l.length lc3, .int .u64 (a : Int), .int .u64 (t : Int), .int .u64 (k : Int), .bool ph, .int .u64 (pn : Int), .bool mh, .int .u64 (mn : Int), .bool gh, .int .u64 (gn : Int), .slice nco3 nc.length ncc3, .slice nbo3 nb.length nbc3, .slice eo3 es.length ec3, .int .u32 (f : Int), .string Xu] 30 (0, 0)) := by rw [← hW, ← hbl]; exact new_row _ _ _
 rw [hW, hbl]
 clear hW hbl
 have H15 := Lib.hid (H14.out.below hb)
 clear hb H14
 have H16 := Lib.hid (H15.out.row (hr))
 clear H15
 clear hr
 obtain ⟨D, hD⟩ : ∃ D, W7.drew = D := ⟨_, rfl⟩
 have hb : Below W7.heap.size W7 D := by rw [← hD]; exact (Below.refl _ _).drew
 have H17 := Lib.hid (H16.out.below hb)
 clear hb H16
 have hS : R3w 30 blr1 #[.slice lo1 l.length lc1, .int .u64 (a : Int), .int .u64 (t : Int), .int .u64 (k : Int), .bool ph, .int .u64 (pn : Int), .bool mh, .int .u64 (mn : Int), .bool gh, .int .u64 (gn : Int), .slice nco1 nc.length ncc1, .slice nbo1 nb.length nbc1, .slice eo1 es.length ec1, .int .u32 (f : Int), .string Xu] blr2 #[.slice lo2 l.length lc2, .int .u64 (a : Int), .int .u64 (t : Int), .int .u64 (k : Int), .bool ph, .int .u64 (pn : Int), .bool mh, .int .u64 (mn : Int), .bool gh, .int .u64 (gn : Int), .slice nco2 nc.length ncc2, .slice nbo2 nb.length nbc2, .slice eo2 es.length ec2, .int .u32 (f : Int), .string Xu] blr3 #[.slice lo3 l.length lc3, .int .u64 (a : Int), .int .u64 (t : Int), .int .u64 (k : Int), .bool ph, .int .u64 (pn : Int), .bool mh, .int .u64 (mn : Int), .bool gh, .int .u64 (gn : Int), .slice nco3 nc.length ncc3, .slice nbo3 nb.length nbc3, .slice eo3 es.length ec3, .int .u32 (f : Int), .string Xu] D := ⟨H17.out.is.2.2.2.2.1, H17.out.is.2.2.1, H17.out.is.1⟩
 have hne : Nonempty {w' : World // R3w 30 blr1 #[.slice lo1 l.length lc1, .int .u64 (a : Int), .int .u64 (t : Int), .int .u64 (k : Int), .bool ph, .int .u64 (pn : Int), .bool mh, .int .u64 (mn : Int), .bool gh, .int .u64 (gn : Int), .slice nco1 nc.length ncc1, .slice nbo1 nb.length nbc1, .slice eo1 es.length ec1, .int .u32 (f : Int), .string Xu] blr2 #[.slice lo2 l.length lc2, .int .u64 (a : Int), .int .u64 (t : Int), .int .u64 (k : Int), .bool ph, .int .u64 (pn : Int), .bool mh, .int .u64 (mn : Int), .bool gh, .int .u64 (gn : Int), .slice nco2 nc.length ncc2, .slice nbo2 nb.length nbc2, .slice eo2 es.length ec2, .int .u32 (f : Int), .string Xu] blr3 #[.slice lo3 l.length lc3, .int .u64 (a : Int), .int .u64 (t : Int), .int .u64 (k : Int), .bool ph, .int .u64 (pn : Int), .bool mh, .int .u64 (mn : Int), .bool gh, .int .u64 (gn : Int), .slice nco3 nc.length ncc3, .slice nbo3 nb.length nbc3, .slice eo3 es.length ec3, .int .u32 (f : Int), .string Xu] w'} := ⟨⟨_, hS⟩⟩
 refine wp_region_seq (S := R3w 30 blr1 #[.slice lo1 l.length lc1, .int .u64 (a : Int), .int .u64 (t : Int), .int .u64 (k : Int), .bool ph, .int .u64 (pn : Int), .bool mh, .int .u64 (mn : Int), .bool gh, .int .u64 (gn : Int), .slice nco1 nc.length ncc1, .slice nbo1 nb.length nbc1, .slice eo1 es.length ec1, .int .u32 (f : Int), .string Xu] blr2 #[.slice lo2 l.length lc2, .int .u64 (a : Int), .int .u64 (t : Int), .int .u64 (k : Int), .bool ph, .int .u64 (pn : Int), .bool mh, .int .u64 (mn : Int), .bool gh, .int .u64 (gn : Int), .slice nco2 nc.length ncc2, .slice nbo2 nb.length nbc2, .slice eo2 es.length ec2, .int .u32 (f : Int), .string Xu] blr3 #[.slice lo3 l.length lc3, .int .u64 (a : Int), .int .u64 (t : Int), .int .u64 (k : Int), .bool ph, .int .u64 (pn : Int), .bool mh, .int .u64 (mn : Int), .bool gh, .int .u64 (gn : Int), .slice nco3 nc.length ncc3, .slice nbo3 nb.length nbc3, .slice eo3 es.length ec3, .int .u32 (f : Int), .string Xu]) [(0, false), (1, true), (2, true), (3, true), (4, true), (5, true), (6, true), (7, true), (8, false), (9, true), (10, true), (11, true), (12, true), (13, true), (14, true), (15, true), (16, true), (17, false), (18, true), (19, true), (20, true), (21, true), (22, true), (23, true), (24, true), (25, true), (26, false), (27, true), (28, true), (29, true)] (by kernel_rfl) (by kernel_rfl) (by kernel_rfl) (by kernel_rfl) (by rw [hD]; exact hS) ?_
 rw [hD]
 clear hD
 refine seq_come _ rfl (fun KC hK => ?_); go_simp
 refine (first13 D).mono ?_; rintro e w8 ⟨rfl, hb⟩
 have hS8 := hS.below hb
 have H18 := Lib.hid (H17.out.below hb)
 clear hb H17
 go_simp; refine hK.out _ _ hS8 ?_; clear hK KC
 iterate 5 (refine seq_take _ rfl (fun KC hK => ?_); go_simp; (first | refine hK _ ?_ | refine ⟨_, fun _ _ => rfl, hK _ ?_⟩); clear hK KC)
 refine seq_take _ rfl (fun KC hK => ?_); go_simp
 refine ⟨.agg #[.slice lo1 l.length lc1, .int .u64 (a : Int), .int .u64 (t : Int), .int .u64 (k : Int), .bool ph, .int .u64 (pn : Int), .bool mh, .int .u64 (mn : Int), .bool gh, .int .u64 (gn : Int), .slice nco1 nc.length ncc1, .slice nbo1 nb.length nbc1, .slice eo1 es.length ec1, .int .u32 (f : Int), .string Xu], fun a ha => by obtain ⟨p0, p1, p2, p3, p4, p5, p6, p7, p8, p9, p10, p11, p12, p13, p14⟩ := row15 ha.1; simp only [p0, p1, p2, p3, p4, p5, p6, p7, p8, p9, p10, p11, p12, p13, p14, Result.andThen], hK _ ?_⟩
 clear hK KC
 refine seq_take _ rfl (fun KC hK => ?_); go_simp
 refine ⟨.agg #[.slice lo2 l.length lc2, .int .u64 (a : Int), .int .u64 (t : Int), .int .u64 (k : Int), .bool ph, .int .u64 (pn : Int), .bool mh, .int .u64 (mn : Int), .bool gh, .int .u64 (gn : Int), .slice nco2 nc.length ncc2, .slice nbo2 nb.length nbc2, .slice eo2 es.length ec2, .int .u32 (f : Int), .string Xu], fun a ha => by obtain ⟨p0, p1, p2, p3, p4, p5, p6, p7, p8, p9, p10, p11, p12, p13, p14⟩ := row15 ha.2.1; simp only [p0, p1, p2, p3, p4, p5, p6, p7, p8, p9, p10, p11, p12, p13, p14, Result.andThen], hK _ ?_⟩
 clear hK KC
 refine seq_come _ rfl (fun KC hK => ?_); go_simp
 refine (hi_same ((a, (t, (k, ((ph, pn), (nc, (nb, (es, (l, (f, ((mh, mn), (gh, gn))))))))))), u) ((a, (t, (k, ((ph, pn), (nc, (nb, (es, (l, (f, ((mh, mn), (gh, gn))))))))))), u) [.slice lo1 l.length lc1, .int .u64 (a : Int), .int .u64 (t : Int), .int .u64 (k : Int), .bool ph, .int .u64 (pn : Int), .bool mh, .int .u64 (mn : Int), .bool gh, .int .u64 (gn : Int), .slice nco1 nc.length ncc1, .slice nbo1 nb.length nbc1, .slice eo1 es.length ec1, .int .u32 (f : Int), .string Xu] [.slice lo2 l.length lc2, .int .u64 (a : Int), .int .u64 (t : Int), .int .u64 (k : Int), .bool ph, .int .u64 (pn : Int), .bool mh, .int .u64 (mn : Int), .bool gh, .int .u64 (gn : Int), .slice nco2 nc.length ncc2, .slice nbo2 nb.length nbc2, .slice eo2 es.length ec2, .int .u32 (f : Int), .string Xu] _ _ w8 HARG.out (by rw [← HNu.out]; exact H18.out.is.2.2.2.2.2.1) (by rw [← HNu.out]; exact H18.out.is.2.2.2.1)).mono ?_; rintro e w9 ⟨rfl, hb⟩
 rw [alike_yes rfl]
 have hS9 := hS8.below hb
 have H19 := Lib.hid (H18.out.below hb)
 clear hb H18
 go_simp; refine hK.out _ _ hS9 ?_; clear hK KC
 iterate 4 (refine seq_take _ rfl (fun KC hK => ?_); go_simp; (first | refine hK _ ?_ | refine ⟨_, fun _ _ => rfl, hK _ ?_⟩); clear hK KC)
 refine seq_take _ rfl (fun KC hK => ?_); go_simp
 refine ⟨.agg #[.slice lo1 l.length lc1, .int .u64 (a : Int), .int .u64 (t : Int), .int .u64 (k : Int), .bool ph, .int .u64 (pn : Int), .bool mh, .int .u64 (mn : Int), .bool gh, .int .u64 (gn : Int), .slice nco1 nc.length ncc1, .slice nbo1 nb.length nbc1, .slice eo1 es.length ec1, .int .u32 (f : Int), .string Xu], fun a ha => by obtain ⟨p0, p1, p2, p3, p4, p5, p6, p7, p8, p9, p10, p11, p12, p13, p14⟩ := row15 ha.1; simp only [p0, p1, p2, p3, p4, p5, p6, p7, p8, p9, p10, p11, p12, p13, p14, Result.andThen], hK _ ?_⟩
 clear hK KC
 iterate 3 (refine seq_take _ rfl (fun KC hK => ?_); go_simp; (first | refine hK _ ?_ | refine ⟨_, fun _ _ => rfl, hK _ ?_⟩); clear hK KC)
 refine seq_come _ rfl (fun KC hK => ?_); go_simp
 refine (hi_mayc ((a, (t, (k, ((ph, pn), (nc, (nb, (es, (l, (f, ((mh, mn), (gh, gn))))))))))), u) [.slice lo1 l.length lc1, .int .u64 (a : Int), .int .u64 (t : Int), .int .u64 (k : Int), .bool ph, .int .u64 (pn : Int), .bool mh, .int .u64 (mn : Int), .bool gh, .int .u64 (gn : Int), .slice nco1 nc.length ncc1, .slice nbo1 nb.length nbc1, .slice eo1 es.length ec1, .int .u32 (f : Int), .string Xu] _ (d - c) w9 HRF.out (by rw [← HNu.out]; exact H19.out.is.2.2.2.2.2.1) HDC.out).mono ?_; rintro e w10 ⟨rfl, hb⟩
 rw [HMY.out]
 have hS10 := hS9.below hb
 have H20 := Lib.hid (H19.out.below hb)
 clear hb H19
 go_simp; refine hK.out _ _ hS10 ?_; clear hK KC
 iterate 6 (refine seq_take _ rfl (fun KC hK => ?_); go_simp; (first | refine hK _ ?_ | refine ⟨_, fun _ _ => rfl, hK _ ?_⟩); clear hK KC)
 refine seq_take _ rfl (fun KC hK => ?_); go_simp
 refine ⟨.agg #[.slice lo1 l.length lc1, .int .u64 (a : Int), .int .u64 (t : Int), .int .u64 (k : Int), .bool ph, .int .u64 (pn : Int), .bool mh, .int .u64 (mn : Int), .bool gh, .int .u64 (gn : Int), .slice nco1 nc.length ncc1, .slice nbo1 nb.length nbc1, .slice eo1 es.length ec1, .int .u32 (f : Int), .string Xu], fun a ha => by obtain ⟨p0, p1, p2, p3, p4, p5, p6, p7, p8, p9, p10, p11, p12, p13, p14⟩ := row15 ha.1; simp only [p0, p1, p2, p3, p4, p5, p6, p7, p8, p9, p10, p11, p12, p13, p14, Result.andThen], hK _ ?_⟩
 clear hK KC
 refine seq_take _ rfl (fun KC hK => ?_); go_simp
 refine ⟨.agg #[.slice lo3 l.length lc3, .int .u64 (a : Int), .int .u64 (t : Int), .int .u64 (k : Int), .bool ph, .int .u64 (pn : Int), .bool mh, .int .u64 (mn : Int), .bool gh, .int .u64 (gn : Int), .slice nco3 nc.length ncc3, .slice nbo3 nb.length nbc3, .slice eo3 es.length ec3, .int .u32 (f : Int), .string Xu], fun a ha => by obtain ⟨p0, p1, p2, p3, p4, p5, p6, p7, p8, p9, p10, p11, p12, p13, p14⟩ := row15 ha.2.2; simp only [p0, p1, p2, p3, p4, p5, p6, p7, p8, p9, p10, p11, p12, p13, p14, Result.andThen], hK _ ?_⟩
 clear hK KC
 refine seq_come _ rfl (fun KC hK => ?_); go_simp
 refine (hi_same ((a, (t, (k, ((ph, pn), (nc, (nb, (es, (l, (f, ((mh, mn), (gh, gn))))))))))), u) ((a, (t, (k, ((ph, pn), (nc, (nb, (es, (l, (f, ((mh, mn), (gh, gn))))))))))), u) [.slice lo1 l.length lc1, .int .u64 (a : Int), .int .u64 (t : Int), .int .u64 (k : Int), .bool ph, .int .u64 (pn : Int), .bool mh, .int .u64 (mn : Int), .bool gh, .int .u64 (gn : Int), .slice nco1 nc.length ncc1, .slice nbo1 nb.length nbc1, .slice eo1 es.length ec1, .int .u32 (f : Int), .string Xu] [.slice lo3 l.length lc3, .int .u64 (a : Int), .int .u64 (t : Int), .int .u64 (k : Int), .bool ph, .int .u64 (pn : Int), .bool mh, .int .u64 (mn : Int), .bool gh, .int .u64 (gn : Int), .slice nco3 nc.length ncc3, .slice nbo3 nb.length nbc3, .slice eo3 es.length ec3, .int .u32 (f : Int), .string Xu] _ _ w10 HARG.out (by rw [← HNu.out]; exact H20.out.is.2.2.2.2.2.1) (by rw [← HNu.out]; exact H20.out.is.2.1)).mono ?_; rintro e w11 ⟨rfl, hb⟩
 rw [alike_yes rfl]
 have hS11 := hS10.below hb
 have H21 := Lib.hid (H20.out.below hb)
 clear hb H20
 go_simp; refine hK.out _ _ hS11 ?_; clear hK KC
 iterate 3 (refine seq_take _ rfl (fun KC hK => ?_); go_simp; (first | refine hK _ ?_ | refine ⟨_, fun _ _ => rfl, hK _ ?_⟩); clear hK KC)
 refine seq_done ?_
 clear hne hS hS8 hS9 hS10 hS11
 go_wp2_with fail
 go_ret
 exact ⟨rfl, H21.out.is.2.2.2.2.2.2.1⟩
theorem hibk_any (x : Hi) (cs : List Value) (P : Nat → Prop) (d c : Int) (w : World) (ha : hi_arg x) (hr : hiCel.R w P x cs) (hd : -9223372036854775808 ≤ d ∧ d ≤ 9223372036854775807) (hc : -9223372036854775808 ≤ c ∧ c ≤ 9223372036854775807) :
 Calls Tryz.prog 4 #[.agg cs.toArray, .int .i64 d, .int .i64 c] w fun e w' => e = .returned (.bool true) ∧ Below w.heap.size w w' := by
 cases hm : hi_may d x with
 | false => exact hibk_F x cs P d c w ha hr hd hc hm
 | true =>
  cases hm2 : hi_may (d - c) x with
  | false => exact hibk_TF x cs P d c w ha hr hd hc hm hm2
  | true => exact hibk_TT x cs P d c w ha hr hd hc hm hm2
end Go.Proofs.YtjbingoliffjiaaGreat
