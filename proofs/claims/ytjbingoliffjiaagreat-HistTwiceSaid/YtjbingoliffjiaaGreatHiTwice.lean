/-
  hyglaw13.HistTwice.
-/
import Derived.Test.YtjbingoliffjiaaGreatHiFirst
import Derived.Test.YtjbingoliffjiaaGreatHiKMar
import Derived.Test.YtjbingoliffjiaaGreatHiSame
set_option maxRecDepth 1000000
set_option maxHeartbeats 16000000
namespace Go.Proofs.YtjbingoliffjiaaGreat
open Go.RowKit
theorem hitw_L (s : ByteArray) (d : Int) (w : World) (h1 : 6000 < s.size) :
 Calls Tryz.prog 5 #[.string s, .int .i64 d] w fun e w' => e = .returned (.bool true) ∧ Below w.heap.size w w' := by
 have q0 : decide ((6000 : Int) < (s.size : Int)) = true := decide_eq_true (by omega)
 clear h1
 have hb : Below w.heap.size w w := Below.refl _ _
 have H1 := Lib.hid (Fx.nil w)
 have H2 := Lib.hid (H1.out.base (hb))
 clear H1
 clear hb
 go_enter Tryz.func5, Tryz.ntmps5
 go_wp2_with fail
 refine (first13 w).mono ?_; rintro e w1 ⟨rfl, hb⟩
 have H3 := Lib.hid (H2.out.below hb)
 clear hb H2
 go_wp2_with fail
 refine (first13 w1).mono ?_; rintro e w2 ⟨rfl, hb⟩
 have H4 := Lib.hid (H3.out.below hb)
 clear hb H3
 go_wp2_with fail
 go_ret
 exact ⟨rfl, H4.out.is.1⟩
theorem hitw_A (s : ByteArray) (d : Int) (w : World) (hd : -9223372036854775808 ≤ d ∧ d ≤ 9223372036854775807) (hs : s.size ≤ 6000) {c : Nat} (hx : hird s.data.toList d = .error c) :
 Calls Tryz.prog 5 #[.string s, .int .i64 d] w fun e w' => e = .returned (.bool true) ∧ Below w.heap.size w w' := by
 have HD := Lib.hid hd
 have hsl : s.data.toList.length = s.size := by simp
 have HU := Lib.hid (fun w' => hi_un s d w' (by omega) hd)
 rw [hx] at HU
 have q0 : decide ((6000 : Int) < (s.size : Int)) = false := decide_eq_false (by omega)
 clear hd hx hsl hs
 have hb : Below w.heap.size w w := Below.refl _ _
 have H1 := Lib.hid (Fx.nil w)
 have H2 := Lib.hid (H1.out.base (hb))
 clear H1
 clear hb
 go_enter Tryz.func5, Tryz.ntmps5
 go_wp2_with fail
 refine (first13 w).mono ?_; rintro e w1 ⟨rfl, hb⟩
 have H3 := Lib.hid (H2.out.below hb)
 clear hb H2
 go_wp2_with fail
 refine (HU.out w1).mono ?_; rintro e w2 ⟨hb, v2, q2, rfl, _, hew⟩
 obtain ⟨T2, y2, rfl⟩ := hew.iface
 clear HU
 unfold hizero
 have H4 := Lib.hid (H3.out.below hb)
 clear hb H3
 clear hew
 go_wp2_with fail
 obtain ⟨blr2, hbl⟩ : ∃ b, w2.heap.size = b := ⟨_, rfl⟩
 obtain ⟨W3, hW⟩ : ∃ W, w2.alloc (.cells #[.slice none 0 0, .int .u64 0, .int .u64 0, .int .u64 0, .bool false, .int .u64 0, .bool false, .int .u64 0, .bool false, .int .u64 0, .slice none 0 0, .slice none 0 0, .slice none 0 0, .int .u32 0, .string ⟨#[]⟩] 30) = W := ⟨_, rfl⟩
 have hb : Below w2.heap.size w2 W3 := by rw [← hW]; exact below_new _ _
 have hr : W3.heap[blr2]? = some (.cells #[.slice none 0 0, .int .u64 0, .int .u64 0, .int .u64 0, .bool false, .int .u64 0, .bool false, .int .u64 0, .bool false, .int .u64 0, .slice none 0 0, .slice none 0 0, .slice none 0 0, .int .u32 0, .string ⟨#[]⟩] 30 (0, 0)) := by rw [← hW, ← hbl]; exact new_row _ _ _
 rw [hW, hbl]
 clear hW hbl
 have H5 := Lib.hid (H4.out.below hb)
 clear hb H4
 have H6 := Lib.hid (H5.out.row (hr))
 clear H5
 clear hr
 refine (first13 W3).mono ?_; rintro e w4 ⟨rfl, hb⟩
 have H7 := Lib.hid (H6.out.below hb)
 clear hb H6
 obtain ⟨xa0, xa1, xa2, xa3, xa4, xa5, xa6, xa7, xa8, xa9, xa10, xa11, xa12, xa13, xa14⟩ := row15 (H7.out.is.1)
 go_wp2_with fail
 refine (hi_same ((0, (0, (0, ((false, 0), ([], ([], ([], ([], (0, ((false, 0), (false, 0))))))))))), []) ((0, (0, (0, ((false, 0), ([], ([], ([], ([], (0, ((false, 0), (false, 0))))))))))), []) [.slice none 0 0, .int .u64 0, .int .u64 0, .int .u64 0, .bool false, .int .u64 0, .bool false, .int .u64 0, .bool false, .int .u64 0, .slice none 0 0, .slice none 0 0, .slice none 0 0, .int .u32 0, .string ⟨#[]⟩] [.slice none 0 0, .int .u64 0, .int .u64 0, .int .u64 0, .bool false, .int .u64 0, .bool false, .int .u64 0, .bool false, .int .u64 0, .slice none 0 0, .slice none 0 0, .slice none 0 0, .int .u32 0, .string ⟨#[]⟩] (fun _ => True) (fun _ => True) w4 hi_zarg (hi_zrel _ _) (hi_zrel _ _)).mono ?_; rintro e w5 ⟨rfl, hb⟩
 rw [alike_yes rfl]
 clear xa0 xa1 xa2 xa3 xa4 xa5 xa6 xa7 xa8 xa9 xa10 xa11 xa12 xa13 xa14
 have H8 := Lib.hid (H7.out.below hb)
 clear hb H7
 go_wp2_with fail
 go_ret
 exact ⟨rfl, H8.out.is.2.1⟩
theorem hitw_C (s : ByteArray) (d : Int) (w : World) (hd : -9223372036854775808 ≤ d ∧ d ≤ 9223372036854775807) (hs : s.size ≤ 6000) {x : Hi} (hx : hird s.data.toList d = .ok x) :
 Calls Tryz.prog 5 #[.string s, .int .i64 d] w fun e w' => e = .returned (.bool true) ∧ Below w.heap.size w w' := by
 have HD := Lib.hid hd
 have hsl : s.data.toList.length = s.size := by simp
 have HU := Lib.hid (fun w' => hi_un s d w' (by omega) hd)
 rw [hx] at HU
 have q0 : decide ((6000 : Int) < (s.size : Int)) = false := decide_eq_false (by omega)
 obtain ⟨⟨a, ⟨t, ⟨k, ⟨⟨ph, pn⟩, ⟨nc, ⟨nb, ⟨es, ⟨l, ⟨f, ⟨⟨mh, mn⟩, ⟨gh, gn⟩⟩⟩⟩⟩⟩⟩⟩⟩⟩⟩, u⟩ := x
 obtain ⟨hmay, hfit⟩ := hi_twice (by omega) hx
 have hol := hi_olen hfit
 have hbk := hi_back hfit hmay
 obtain ⟨SS, hSS⟩ : ∃ S : ByteArray, (⟨(hi_out ((a, (t, (k, ((ph, pn), (nc, (nb, (es, (l, (f, ((mh, mn), (gh, gn))))))))))), u)).toArray⟩ : ByteArray) = S := ⟨_, rfl⟩
 have hSL : SS.data.toList = hi_out ((a, (t, (k, ((ph, pn), (nc, (nb, (es, (l, (f, ((mh, mn), (gh, gn))))))))))), u) := by rw [← hSS]
 have hsz : SS.size = (hi_out ((a, (t, (k, ((ph, pn), (nc, (nb, (es, (l, (f, ((mh, mn), (gh, gn))))))))))), u)).length := by rw [← hSS]; simp [ByteArray.size]
 have HU2 := Lib.hid (fun w' => hi_un SS d w' (by omega) hd)
 rw [hSL, hbk] at HU2
 have HFIT := Lib.hid hfit
 have HMAY := Lib.hid hmay
 have HARG := Lib.hid (hi_arg_of hfit)
 have HS := Lib.hid hSS
 clear hmay hfit hol hbk hSS hSL hsz
 obtain ⟨Xu, eu⟩ : ∃ X : ByteArray, (⟨u.toArray⟩ : ByteArray) = X := ⟨_, rfl⟩
 have HNu := Lib.hid eu
 clear eu
 clear hd hx hsl hs
 have hb : Below w.heap.size w w := Below.refl _ _
 have H1 := Lib.hid (Fx.nil w)
 have H2 := Lib.hid (H1.out.base (hb))
 clear H1
 clear hb
 go_enter Tryz.func5, Tryz.ntmps5
 go_wp2_with fail
 refine (first13 w).mono ?_; rintro e w1 ⟨rfl, hb⟩
 have H3 := Lib.hid (H2.out.below hb)
 clear hb H2
 go_wp2_with fail
 refine (HU.out w1).mono ?_; rintro e w2 ⟨hb, cs, rfl, hrel⟩
 clear HU
 have hr2 := hrel
 obtain ⟨lo1, lc1, nco1, ncc1, nbo1, nbc1, eo1, ec1, rfl, _, _, _, _⟩ := hr2
 dsimp only [strV]
 rw [HNu.out]
 have H4 := Lib.hid (H3.out.below hb)
 clear hb H3
 have H5 := Lib.hid (H4.out.cel (hrel))
 clear H4
 clear hrel
 go_upto_region 8 with fail
 obtain ⟨blr1, hbl⟩ : ∃ b, w2.heap.size = b := ⟨_, rfl⟩
 obtain ⟨W3, hW⟩ : ∃ W, w2.alloc (.cells #[.slice lo1 l.length lc1, .int .u64 (a : Int), .int .u64 (t : Int), .int .u64 (k : Int), .bool ph, .int .u64 (pn : Int), .bool mh, .int .u64 (mn : Int), .bool gh, .int .u64 (gn : Int), .slice nco1 nc.length ncc1, .slice nbo1 nb.length nbc1, .slice eo1 es.length ec1, .int .u32 (f : Int), .string Xu] 30) = W := ⟨_, rfl⟩
 have hb : Below w2.heap.size w2 W3 := by rw [← hW]; exact below_new _ _
 have hr : W3.heap[blr1]? = some (.cells #[.slice lo1 l.length lc1, .int .u64 (a : Int), .int .u64 (t : Int), .int .u64 (k : Int), .bool ph, .int .u64 (pn : Int), .bool mh, .int .u64 (mn : Int), .bool gh, .int .u64 (gn : Int), .slice nco1 nc.length ncc1, .slice nbo1 nb.length nbc1, .slice eo1 es.length ec1, .int .u32 (f : Int), .string Xu] 30 (0, 0)) := by rw [← hW, ← hbl]; exact new_row _ _ _
 rw [hW, hbl]
 clear hW hbl
 have H6 := Lib.hid (H5.out.below hb)
 clear hb H5
 have H7 := Lib.hid (H6.out.row (hr))
 clear H6
 clear hr
 obtain ⟨xa0, xa1, xa2, xa3, xa4, xa5, xa6, xa7, xa8, xa9, xa10, xa11, xa12, xa13, xa14⟩ := row15 (H7.out.is.1)
 go_wp2_with fail
 refine (hi_marshal ((a, (t, (k, ((ph, pn), (nc, (nb, (es, (l, (f, ((mh, mn), (gh, gn))))))))))), u) [.slice lo1 l.length lc1, .int .u64 (a : Int), .int .u64 (t : Int), .int .u64 (k : Int), .bool ph, .int .u64 (pn : Int), .bool mh, .int .u64 (mn : Int), .bool gh, .int .u64 (gn : Int), .slice nco1 nc.length ncc1, .slice nbo1 nb.length nbc1, .slice eo1 es.length ec1, .int .u32 (f : Int), .string Xu] _ d W3 HFIT.out (by rw [← HNu.out]; exact H7.out.is.2.1) HD.out).mono ?_; rintro e w4 ⟨hb, hcase⟩
 rw [HMAY.out, if_pos rfl] at hcase
 subst hcase
 rw [HS.out]
 clear xa0 xa1 xa2 xa3 xa4 xa5 xa6 xa7 xa8 xa9 xa10 xa11 xa12 xa13 xa14
 have H8 := Lib.hid (H7.out.below hb)
 clear hb H7
 go_wp2_with fail
 refine (HU2.out w4).mono ?_; rintro e w5 ⟨hb, cs, rfl, hrel⟩
 clear HU2
 have hr2 := hrel
 obtain ⟨lo2, lc2, nco2, ncc2, nbo2, nbc2, eo2, ec2, rfl, _, _, _, _⟩ := hr2
 dsimp only [strV]
 rw [HNu.out]
 have H9 := Lib.hid (H8.out.below hb)
 clear hb H8
 have H10 := Lib.hid (H9.out.cel (hrel))
 clear H9
 clear hrel
 go_upto_region 10 with fail
 obtain ⟨blr2, hbl⟩ : ∃ b, w5.heap.size = b := ⟨_, rfl⟩
 obtain ⟨W6, hW⟩ : ∃ W, w5.alloc (.cells #[.slice lo2 l.length lc2, .int .u64 (a : Int), .int .u64 (t : Int), .int .u64 (k : Int), .bool ph, .int .u64 (pn : Int), .bool mh, .int .u64 (mn : Int), .bool gh, .int .u64 (gn : Int), .slice nco2 nc.length ncc2, .slice nbo2 nb.length nbc2, .slice eo2 es.length ec2, .int .u32 (f : Int), .string Xu] 30) = W := ⟨_, rfl⟩
 have hb : Below w5.heap.size w5 W6 := by rw [← hW]; exact below_new _ _
 have hr : W6.heap[blr2]? = some (.cells #[.slice lo2 l.length lc2, .int .u64 (a : Int), .int .u64 (t : Int), .int .u64 (k : Int), .bool ph, .int .u64 (pn : Int), .bool mh, .int .u64 (mn : Int), .bool gh, .int .u64 (gn : Int), .slice nco2 nc.length ncc2, .slice nbo2 nb.length nbc2, .slice eo2 es.length ec2, .int .u32 (f : Int), .string Xu] 30 (0, 0)) := by rw [← hW, ← hbl]; exact new_row _ _ _
 rw [hW, hbl]
 clear hW hbl
 have H11 := Lib.hid (H10.out.below hb)
 clear hb H10
 have H12 := Lib.hid (H11.out.row (hr))
 clear H11
 clear hr
 obtain ⟨xb0, xb1, xb2, xb3, xb4, xb5, xb6, xb7, xb8, xb9, xb10, xb11, xb12, xb13, xb14⟩ := row15 (H12.out.is.1)
 go_wp2_with fail
 refine (hi_marshal ((a, (t, (k, ((ph, pn), (nc, (nb, (es, (l, (f, ((mh, mn), (gh, gn))))))))))), u) [.slice lo2 l.length lc2, .int .u64 (a : Int), .int .u64 (t : Int), .int .u64 (k : Int), .bool ph, .int .u64 (pn : Int), .bool mh, .int .u64 (mn : Int), .bool gh, .int .u64 (gn : Int), .slice nco2 nc.length ncc2, .slice nbo2 nb.length nbc2, .slice eo2 es.length ec2, .int .u32 (f : Int), .string Xu] _ d W6 HFIT.out (by rw [← HNu.out]; exact H12.out.is.2.1) HD.out).mono ?_; rintro e w7 ⟨hb, hcase⟩
 rw [HMAY.out, if_pos rfl] at hcase
 subst hcase
 rw [HS.out]
 clear xb0 xb1 xb2 xb3 xb4 xb5 xb6 xb7 xb8 xb9 xb10 xb11 xb12 xb13 xb14
 have H13 := Lib.hid (H12.out.below hb)
 clear hb H12
 go_wp2_with fail
 refine (first13 w7).mono ?_; rintro e w8 ⟨rfl, hb⟩
 have H14 := Lib.hid (H13.out.below hb)
 clear hb H13
 obtain ⟨xa0, xa1, xa2, xa3, xa4, xa5, xa6, xa7, xa8, xa9, xa10, xa11, xa12, xa13, xa14⟩ := row15 (H14.out.is.2.2.1)
 go_wp2_with fail
 refine (hi_mayc ((a, (t, (k, ((ph, pn), (nc, (nb, (es, (l, (f, ((mh, mn), (gh, gn))))))))))), u) [.slice lo1 l.length lc1, .int .u64 (a : Int), .int .u64 (t : Int), .int .u64 (k : Int), .bool ph, .int .u64 (pn : Int), .bool mh, .int .u64 (mn : Int), .bool gh, .int .u64 (gn : Int), .slice nco1 nc.length ncc1, .slice nbo1 nb.length nbc1, .slice eo1 es.length ec1, .int .u32 (f : Int), .string Xu] _ d w8 HFIT.out (by rw [← HNu.out]; exact H14.out.is.2.2.2.1) HD.out).mono ?_; rintro e w9 ⟨rfl, hb⟩
 rw [HMAY.out]
 clear xa0 xa1 xa2 xa3 xa4 xa5 xa6 xa7 xa8 xa9 xa10 xa11 xa12 xa13 xa14
 have H15 := Lib.hid (H14.out.below hb)
 clear hb H14
 obtain ⟨xa0, xa1, xa2, xa3, xa4, xa5, xa6, xa7, xa8, xa9, xa10, xa11, xa12, xa13, xa14⟩ := row15 (H15.out.is.2.2.1)
 obtain ⟨xb0, xb1, xb2, xb3, xb4, xb5, xb6, xb7, xb8, xb9, xb10, xb11, xb12, xb13, xb14⟩ := row15 (H15.out.is.1)
 go_wp2_with fail
 refine (hi_same ((a, (t, (k, ((ph, pn), (nc, (nb, (es, (l, (f, ((mh, mn), (gh, gn))))))))))), u) ((a, (t, (k, ((ph, pn), (nc, (nb, (es, (l, (f, ((mh, mn), (gh, gn))))))))))), u) [.slice lo1 l.length lc1, .int .u64 (a : Int), .int .u64 (t : Int), .int .u64 (k : Int), .bool ph, .int .u64 (pn : Int), .bool mh, .int .u64 (mn : Int), .bool gh, .int .u64 (gn : Int), .slice nco1 nc.length ncc1, .slice nbo1 nb.length nbc1, .slice eo1 es.length ec1, .int .u32 (f : Int), .string Xu] [.slice lo2 l.length lc2, .int .u64 (a : Int), .int .u64 (t : Int), .int .u64 (k : Int), .bool ph, .int .u64 (pn : Int), .bool mh, .int .u64 (mn : Int), .bool gh, .int .u64 (gn : Int), .slice nco2 nc.length ncc2, .slice nbo2 nb.length nbc2, .slice eo2 es.length ec2, .int .u32 (f : Int), .string Xu] _ _ w9 HARG.out (by rw [← HNu.out]; exact H15.out.is.2.2.2.1) (by rw [← HNu.out]; exact H15.out.is.2.1)).mono ?_; rintro e w10 ⟨rfl, hb⟩
 rw [alike_yes rfl]
 clear xa0 xa1 xa2 xa3 xa4 xa5 xa6 xa7 xa8 xa9 xa10 xa11 xa12 xa13 xa14 xb0 xb1 xb2 xb3 xb4 xb5 xb6 xb7 xb8 xb9 xb10 xb11 xb12 xb13 xb14
 have H16 := Lib.hid (H15.out.below hb)
 clear hb H15
 go_wp2_with fail
 go_ret
 exact ⟨rfl, H16.out.is.2.2.2.2.1⟩
theorem hitw_any (s : ByteArray) (d : Int) (w : World) (hd : -9223372036854775808 ≤ d ∧ d ≤ 9223372036854775807) :
 Calls Tryz.prog 5 #[.string s, .int .i64 d] w fun e w' => e = .returned (.bool true) ∧ Below w.heap.size w w' := by
 by_cases hs : 6000 < s.size
 · exact hitw_L s d w hs
 cases hx : hird s.data.toList d with
 | error c => exact hitw_A s d w hd (by omega) hx
 | ok x => exact hitw_C s d w hd (by omega) hx
end Go.Proofs.YtjbingoliffjiaaGreat
