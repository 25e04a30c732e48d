/-
  hyglaw13.HistSame.
-/
import Derived.Test.YtjbingoliffjiaaGreatHiMar
import Derived.Test.YtjbingoliffjiaaGreatHiSame
import Derived.Test.YtjbingoliffjiaaGreatHiRoom
import Derived.Test.YtjbingoliffjiaaGreatHiSameR
set_option maxRecDepth 1000000
set_option maxHeartbeats 16000000
namespace Go.Proofs.YtjbingoliffjiaaGreat
open Go.RowKit
theorem hism_false (x : Hi) (ca : List Value) (P : Nat → Prop) (y : Hi) (cb : List Value) (Q : Nat → Prop) (w : World) (ha1 : hi_arg x) (hr1 : hiCel.R w P x ca) (ha2 : hi_arg y) (hr2 : hiCel.R w Q y cb) (hal : alike x y = false) :
 Calls Tryz.prog 3 #[.agg ca.toArray, .agg cb.toArray] w fun e w' => e = .returned (.bool true) ∧ Below w.heap.size w w' := by
 obtain ⟨⟨a1, ⟨t1, ⟨k1, ⟨⟨ph1, pn1⟩, ⟨nc1, ⟨nb1, ⟨es1, ⟨l1, ⟨f1, ⟨⟨mh1, mn1⟩, ⟨gh1, gn1⟩⟩⟩⟩⟩⟩⟩⟩⟩⟩⟩, u1⟩ := x
 obtain ⟨⟨a2, ⟨t2, ⟨k2, ⟨⟨ph2, pn2⟩, ⟨nc2, ⟨nb2, ⟨es2, ⟨l2, ⟨f2, ⟨⟨mh2, mn2⟩, ⟨gh2, gn2⟩⟩⟩⟩⟩⟩⟩⟩⟩⟩⟩, u2⟩ := y
 have hs1 := hr1
 obtain ⟨lo1, lc1, nco1, ncc1, nbo1, nbc1, eo1, ec1, rfl, _, _, _, _⟩ := hs1
 have hs2 := hr2
 obtain ⟨lo2, lc2, nco2, ncc2, nbo2, nbc2, eo2, ec2, rfl, _, _, _, _⟩ := hs2
 dsimp only [strV]
 obtain ⟨Xu1, eu1⟩ : ∃ X : ByteArray, (⟨u1.toArray⟩ : ByteArray) = X := ⟨_, rfl⟩
 have HNu1 := Lib.hid eu1
 clear eu1
 obtain ⟨Xu2, eu2⟩ : ∃ X : ByteArray, (⟨u2.toArray⟩ : ByteArray) = X := ⟨_, rfl⟩
 have HNu2 := Lib.hid eu2
 clear eu2
 rw [HNu1.out, HNu2.out]
 have HAL := Lib.hid hal
 have HARG1 := Lib.hid ha1
 have HARG2 := Lib.hid ha2
 obtain ⟨W, hW⟩ : ∃ W, (w.alloc (.cells #[.slice lo1 l1.length lc1, .int .u64 (a1 : Int), .int .u64 (t1 : Int), .int .u64 (k1 : Int), .bool ph1, .int .u64 (pn1 : Int), .bool mh1, .int .u64 (mn1 : Int), .bool gh1, .int .u64 (gn1 : Int), .slice nco1 nc1.length ncc1, .slice nbo1 nb1.length nbc1, .slice eo1 es1.length ec1, .int .u32 (f1 : Int), .string Xu1] 30)).alloc (.cells #[.slice lo2 l2.length lc2, .int .u64 (a2 : Int), .int .u64 (t2 : Int), .int .u64 (k2 : Int), .bool ph2, .int .u64 (pn2 : Int), .bool mh2, .int .u64 (mn2 : Int), .bool gh2, .int .u64 (gn2 : Int), .slice nco2 nc2.length ncc2, .slice nbo2 nb2.length nbc2, .slice eo2 es2.length ec2, .int .u32 (f2 : Int), .string Xu2] 30) = W := ⟨_, rfl⟩
 have hbw : Below w.heap.size w W := by rw [← hW]; exact below_step (below_new _ _) (below_new _ _)
 have hra : W.heap[w.heap.size]? = some (.cells #[.slice lo1 l1.length lc1, .int .u64 (a1 : Int), .int .u64 (t1 : Int), .int .u64 (k1 : Int), .bool ph1, .int .u64 (pn1 : Int), .bool mh1, .int .u64 (mn1 : Int), .bool gh1, .int .u64 (gn1 : Int), .slice nco1 nc1.length ncc1, .slice nbo1 nb1.length nbc1, .slice eo1 es1.length ec1, .int .u32 (f1 : Int), .string Xu1] 30 (0, 0)) := by rw [← hW]; exact (Below.heap_alloc _ _ _ (by simp)).trans (heap_alloc_new w _)
 have hrk : W.heap[w.heap.size + 1]? = some (.cells #[.slice lo2 l2.length lc2, .int .u64 (a2 : Int), .int .u64 (t2 : Int), .int .u64 (k2 : Int), .bool ph2, .int .u64 (pn2 : Int), .bool mh2, .int .u64 (mn2 : Int), .bool gh2, .int .u64 (gn2 : Int), .slice nco2 nc2.length ncc2, .slice nbo2 nb2.length nbc2, .slice eo2 es2.length ec2, .int .u32 (f2 : Int), .string Xu2] 30 (0, 0)) := by rw [← hW]; have := heap_alloc_new (w.alloc (.cells #[.slice lo1 l1.length lc1, .int .u64 (a1 : Int), .int .u64 (t1 : Int), .int .u64 (k1 : Int), .bool ph1, .int .u64 (pn1 : Int), .bool mh1, .int .u64 (mn1 : Int), .bool gh1, .int .u64 (gn1 : Int), .slice nco1 nc1.length ncc1, .slice nbo1 nb1.length nbc1, .slice eo1 es1.length ec1, .int .u32 (f1 : Int), .string Xu1] 30)) (.cells #[.slice lo2 l2.length lc2, .int .u64 (a2 : Int), .int .u64 (t2 : Int), .int .u64 (k2 : Int), .bool ph2, .int .u64 (pn2 : Int), .bool mh2, .int .u64 (mn2 : Int), .bool gh2, .int .u64 (gn2 : Int), .slice nco2 nc2.length ncc2, .slice nbo2 nb2.length nbc2, .slice eo2 es2.length ec2, .int .u32 (f2 : Int), .string Xu2] 30); simpa using this
 have H1 := Lib.hid (Fx.nil w)
 have H2 := Lib.hid (H1.out.cel (hr1))
 clear H1
 have H3 := Lib.hid (H2.out.cel (hr2))
 clear H2
 have hb := hbw
 have H4 := Lib.hid (H3.out.below hb)
 clear hb H3
 have H5 := Lib.hid (H4.out.base (hbw))
 clear H4
 have H6 := Lib.hid (H5.out.row (hra))
 clear H5
 have H7 := Lib.hid (H6.out.row (hrk))
 clear H6
 have HW := Lib.hid hW
 clear hW hbw hra hrk hr1 hr2 hal ha1 ha2
 go_enter Tryz.func3, Tryz.ntmps3
 go_wp2_with fail
 rw [HW.out]
 refine (first13 W).mono ?_; rintro e w1 ⟨rfl, hb⟩
 have H8 := Lib.hid (H7.out.below hb)
 clear hb H7
 obtain ⟨xa0, xa1, xa2, xa3, xa4, xa5, xa6, xa7, xa8, xa9, xa10, xa11, xa12, xa13, xa14⟩ := row15 (H8.out.is.2.1)
 go_wp2_with fail
 refine (hi_room ((a1, (t1, (k1, ((ph1, pn1), (nc1, (nb1, (es1, (l1, (f1, ((mh1, mn1), (gh1, gn1))))))))))), u1) [.slice lo1 l1.length lc1, .int .u64 (a1 : Int), .int .u64 (t1 : Int), .int .u64 (k1 : Int), .bool ph1, .int .u64 (pn1 : Int), .bool mh1, .int .u64 (mn1 : Int), .bool gh1, .int .u64 (gn1 : Int), .slice nco1 nc1.length ncc1, .slice nbo1 nb1.length nbc1, .slice eo1 es1.length ec1, .int .u32 (f1 : Int), .string Xu1] _ w1 12000 HARG1.out (by rw [← HNu1.out]; exact H8.out.is.2.2.2.2.1) (by omega)).mono ?_; intro e w2 hpost
 obtain ⟨hb, s1, rfl, _⟩ := hpost
 clear xa0 xa1 xa2 xa3 xa4 xa5 xa6 xa7 xa8 xa9 xa10 xa11 xa12 xa13 xa14
 have H9 := Lib.hid (H8.out.below hb)
 clear hb H8
 by_cases hr1 : s1 < 0
 case pos =>
  have d1 : decide (s1 < 0) = true := decide_eq_true hr1
  clear hr1
  go_wp2_with fail
  refine (first13 w2).mono ?_; rintro e w9 ⟨rfl, hb⟩
  have H10 := Lib.hid (H9.out.below hb)
  clear hb H9
  go_wp2_with fail
  go_ret
  exact ⟨rfl, H10.out.is.2.2.1⟩
 have d1 : decide (s1 < 0) = false := decide_eq_false hr1
 clear hr1
 obtain ⟨xb0, xb1, xb2, xb3, xb4, xb5, xb6, xb7, xb8, xb9, xb10, xb11, xb12, xb13, xb14⟩ := row15 (H9.out.is.1)
 go_wp2_with fail
 refine (hi_room ((a2, (t2, (k2, ((ph2, pn2), (nc2, (nb2, (es2, (l2, (f2, ((mh2, mn2), (gh2, gn2))))))))))), u2) [.slice lo2 l2.length lc2, .int .u64 (a2 : Int), .int .u64 (t2 : Int), .int .u64 (k2 : Int), .bool ph2, .int .u64 (pn2 : Int), .bool mh2, .int .u64 (mn2 : Int), .bool gh2, .int .u64 (gn2 : Int), .slice nco2 nc2.length ncc2, .slice nbo2 nb2.length nbc2, .slice eo2 es2.length ec2, .int .u32 (f2 : Int), .string Xu2] _ w2 12000 HARG2.out (by rw [← HNu2.out]; exact H9.out.is.2.2.2.1) (by omega)).mono ?_; intro e w3 hpost
 obtain ⟨hb, s2, rfl, _⟩ := hpost
 clear xb0 xb1 xb2 xb3 xb4 xb5 xb6 xb7 xb8 xb9 xb10 xb11 xb12 xb13 xb14
 have H10 := Lib.hid (H9.out.below hb)
 clear hb H9
 by_cases hr2 : s2 < 0
 case pos =>
  have d2 : decide (s2 < 0) = true := decide_eq_true hr2
  clear hr2
  go_wp2_with fail
  refine (first13 w3).mono ?_; rintro e w9 ⟨rfl, hb⟩
  have H11 := Lib.hid (H10.out.below hb)
  clear hb H10
  go_wp2_with fail
  go_ret
  exact ⟨rfl, H11.out.is.2.2.1⟩
 have d2 : decide (s2 < 0) = false := decide_eq_false hr2
 clear hr2
 go_wp2_with fail
 obtain ⟨D, hD⟩ : ∃ D, w3.drew = D := ⟨_, rfl⟩
 have hb : Below w3.heap.size w3 D := by rw [← hD]; exact (Below.refl _ _).drew
 have H11 := Lib.hid (H10.out.below hb)
 clear hb H10
 have hS : R2 w.heap.size #[.slice lo1 l1.length lc1, .int .u64 (a1 : Int), .int .u64 (t1 : Int), .int .u64 (k1 : Int), .bool ph1, .int .u64 (pn1 : Int), .bool mh1, .int .u64 (mn1 : Int), .bool gh1, .int .u64 (gn1 : Int), .slice nco1 nc1.length ncc1, .slice nbo1 nb1.length nbc1, .slice eo1 es1.length ec1, .int .u32 (f1 : Int), .string Xu1] 30 (w.heap.size + 1) #[.slice lo2 l2.length lc2, .int .u64 (a2 : Int), .int .u64 (t2 : Int), .int .u64 (k2 : Int), .bool ph2, .int .u64 (pn2 : Int), .bool mh2, .int .u64 (mn2 : Int), .bool gh2, .int .u64 (gn2 : Int), .slice nco2 nc2.length ncc2, .slice nbo2 nb2.length nbc2, .slice eo2 es2.length ec2, .int .u32 (f2 : Int), .string Xu2] 30 D := ⟨H11.out.is.2.1, H11.out.is.1⟩
 have hne : Nonempty {w' : World // R2 w.heap.size #[.slice lo1 l1.length lc1, .int .u64 (a1 : Int), .int .u64 (t1 : Int), .int .u64 (k1 : Int), .bool ph1, .int .u64 (pn1 : Int), .bool mh1, .int .u64 (mn1 : Int), .bool gh1, .int .u64 (gn1 : Int), .slice nco1 nc1.length ncc1, .slice nbo1 nb1.length nbc1, .slice eo1 es1.length ec1, .int .u32 (f1 : Int), .string Xu1] 30 (w.heap.size + 1) #[.slice lo2 l2.length lc2, .int .u64 (a2 : Int), .int .u64 (t2 : Int), .int .u64 (k2 : Int), .bool ph2, .int .u64 (pn2 : Int), .bool mh2, .int .u64 (mn2 : Int), .bool gh2, .int .u64 (gn2 : Int), .slice nco2 nc2.length ncc2, .slice nbo2 nb2.length nbc2, .slice eo2 es2.length ec2, .int .u32 (f2 : Int), .string Xu2] 30 w'} := ⟨⟨_, hS⟩⟩
 refine wp_region_seq (S := R2 w.heap.size #[.slice lo1 l1.length lc1, .int .u64 (a1 : Int), .int .u64 (t1 : Int), .int .u64 (k1 : Int), .bool ph1, .int .u64 (pn1 : Int), .bool mh1, .int .u64 (mn1 : Int), .bool gh1, .int .u64 (gn1 : Int), .slice nco1 nc1.length ncc1, .slice nbo1 nb1.length nbc1, .slice eo1 es1.length ec1, .int .u32 (f1 : Int), .string Xu1] 30 (w.heap.size + 1) #[.slice lo2 l2.length lc2, .int .u64 (a2 : Int), .int .u64 (t2 : Int), .int .u64 (k2 : Int), .bool ph2, .int .u64 (pn2 : Int), .bool mh2, .int .u64 (mn2 : Int), .bool gh2, .int .u64 (gn2 : Int), .slice nco2 nc2.length ncc2, .slice nbo2 nb2.length nbc2, .slice eo2 es2.length ec2, .int .u32 (f2 : Int), .string Xu2] 30) [(0, false), (1, true), (2, true), (3, true), (5, true), (6, true), (4, false), (7, false), (8, true), (9, true), (10, true), (11, true), (12, true), (13, false), (14, true), (15, true)] (by kernel_rfl) (by kernel_rfl) (by kernel_rfl) (by kernel_rfl) (by rw [hD]; exact hS) ?_
 rw [hD]
 clear hD
 refine seq_come _ rfl (fun KC hK => ?_); go_simp
 refine (first13 D).mono ?_; rintro e w4 ⟨rfl, hb⟩
 have hS4 := hS.below hb
 have H12 := Lib.hid (H11.out.below hb)
 clear hb H11
 go_simp; refine hK.out _ _ hS4 ?_; clear hK KC
 iterate 1 (refine seq_take _ rfl (fun KC hK => ?_); go_simp; (first | refine hK _ ?_ | refine ⟨_, fun _ _ => rfl, hK _ ?_⟩); clear hK KC)
 refine seq_take _ rfl (fun KC hK => ?_); go_simp
 refine ⟨.agg #[.slice lo1 l1.length lc1, .int .u64 (a1 : Int), .int .u64 (t1 : Int), .int .u64 (k1 : Int), .bool ph1, .int .u64 (pn1 : Int), .bool mh1, .int .u64 (mn1 : Int), .bool gh1, .int .u64 (gn1 : Int), .slice nco1 nc1.length ncc1, .slice nbo1 nb1.length nbc1, .slice eo1 es1.length ec1, .int .u32 (f1 : Int), .string Xu1], fun a ha => by obtain ⟨p0, p1, p2, p3, p4, p5, p6, p7, p8, p9, p10, p11, p12, p13, p14⟩ := row15 ha.1; simp only [p0, p1, p2, p3, p4, p5, p6, p7, p8, p9, p10, p11, p12, p13, p14, Result.andThen], hK _ ?_⟩
 clear hK KC
 refine seq_take _ rfl (fun KC hK => ?_); go_simp
 refine ⟨.agg #[.slice lo2 l2.length lc2, .int .u64 (a2 : Int), .int .u64 (t2 : Int), .int .u64 (k2 : Int), .bool ph2, .int .u64 (pn2 : Int), .bool mh2, .int .u64 (mn2 : Int), .bool gh2, .int .u64 (gn2 : Int), .slice nco2 nc2.length ncc2, .slice nbo2 nb2.length nbc2, .slice eo2 es2.length ec2, .int .u32 (f2 : Int), .string Xu2], fun a ha => by obtain ⟨p0, p1, p2, p3, p4, p5, p6, p7, p8, p9, p10, p11, p12, p13, p14⟩ := row15 ha.2; simp only [p0, p1, p2, p3, p4, p5, p6, p7, p8, p9, p10, p11, p12, p13, p14, Result.andThen], hK _ ?_⟩
 clear hK KC
 refine seq_take _ rfl (fun KC hK => ?_); go_simp
 refine ⟨.agg #[.slice lo1 l1.length lc1, .int .u64 (a1 : Int), .int .u64 (t1 : Int), .int .u64 (k1 : Int), .bool ph1, .int .u64 (pn1 : Int), .bool mh1, .int .u64 (mn1 : Int), .bool gh1, .int .u64 (gn1 : Int), .slice nco1 nc1.length ncc1, .slice nbo1 nb1.length nbc1, .slice eo1 es1.length ec1, .int .u32 (f1 : Int), .string Xu1], fun a ha => by obtain ⟨p0, p1, p2, p3, p4, p5, p6, p7, p8, p9, p10, p11, p12, p13, p14⟩ := row15 ha.1; simp only [p0, p1, p2, p3, p4, p5, p6, p7, p8, p9, p10, p11, p12, p13, p14, Result.andThen], hK _ ?_⟩
 clear hK KC
 refine seq_take _ rfl (fun KC hK => ?_); go_simp
 refine ⟨.agg #[.slice lo2 l2.length lc2, .int .u64 (a2 : Int), .int .u64 (t2 : Int), .int .u64 (k2 : Int), .bool ph2, .int .u64 (pn2 : Int), .bool mh2, .int .u64 (mn2 : Int), .bool gh2, .int .u64 (gn2 : Int), .slice nco2 nc2.length ncc2, .slice nbo2 nb2.length nbc2, .slice eo2 es2.length ec2, .int .u32 (f2 : Int), .string Xu2], fun a ha => by obtain ⟨p0, p1, p2, p3, p4, p5, p6, p7, p8, p9, p10, p11, p12, p13, p14⟩ := row15 ha.2; simp only [p0, p1, p2, p3, p4, p5, p6, p7, p8, p9, p10, p11, p12, p13, p14, Result.andThen], hK _ ?_⟩
 clear hK KC
 refine seq_come _ rfl (fun KC hK => ?_); go_simp
 refine (hi_same ((a1, (t1, (k1, ((ph1, pn1), (nc1, (nb1, (es1, (l1, (f1, ((mh1, mn1), (gh1, gn1))))))))))), u1) ((a2, (t2, (k2, ((ph2, pn2), (nc2, (nb2, (es2, (l2, (f2, ((mh2, mn2), (gh2, gn2))))))))))), u2) [.slice lo1 l1.length lc1, .int .u64 (a1 : Int), .int .u64 (t1 : Int), .int .u64 (k1 : Int), .bool ph1, .int .u64 (pn1 : Int), .bool mh1, .int .u64 (mn1 : Int), .bool gh1, .int .u64 (gn1 : Int), .slice nco1 nc1.length ncc1, .slice nbo1 nb1.length nbc1, .slice eo1 es1.length ec1, .int .u32 (f1 : Int), .string Xu1] [.slice lo2 l2.length lc2, .int .u64 (a2 : Int), .int .u64 (t2 : Int), .int .u64 (k2 : Int), .bool ph2, .int .u64 (pn2 : Int), .bool mh2, .int .u64 (mn2 : Int), .bool gh2, .int .u64 (gn2 : Int), .slice nco2 nc2.length ncc2, .slice nbo2 nb2.length nbc2, .slice eo2 es2.length ec2, .int .u32 (f2 : Int), .string Xu2] _ _ w4 HARG1.out (by rw [← HNu1.out]; exact H12.out.is.2.2.2.2.1) (by rw [← HNu2.out]; exact H12.out.is.2.2.2.1)).mono ?_; rintro e w5 ⟨rfl, hb⟩
 rw [HAL.out]
 have hS5 := hS4.below hb
 have H13 := Lib.hid (H12.out.below hb)
 clear hb H12
 go_simp; refine hK.out _ _ hS5 ?_; clear hK KC
 refine seq_come _ rfl (fun KC hK => ?_); go_simp
 refine (hi_ref ((a1, (t1, (k1, ((ph1, pn1), (nc1, (nb1, (es1, (l1, (f1, ((mh1, mn1), (gh1, gn1))))))))))), u1) ((a2, (t2, (k2, ((ph2, pn2), (nc2, (nb2, (es2, (l2, (f2, ((mh2, mn2), (gh2, gn2))))))))))), u2) [.slice lo1 l1.length lc1, .int .u64 (a1 : Int), .int .u64 (t1 : Int), .int .u64 (k1 : Int), .bool ph1, .int .u64 (pn1 : Int), .bool mh1, .int .u64 (mn1 : Int), .bool gh1, .int .u64 (gn1 : Int), .slice nco1 nc1.length ncc1, .slice nbo1 nb1.length nbc1, .slice eo1 es1.length ec1, .int .u32 (f1 : Int), .string Xu1] [.slice lo2 l2.length lc2, .int .u64 (a2 : Int), .int .u64 (t2 : Int), .int .u64 (k2 : Int), .bool ph2, .int .u64 (pn2 : Int), .bool mh2, .int .u64 (mn2 : Int), .bool gh2, .int .u64 (gn2 : Int), .slice nco2 nc2.length ncc2, .slice nbo2 nb2.length nbc2, .slice eo2 es2.length ec2, .int .u32 (f2 : Int), .string Xu2] _ _ w5 HARG1.out (by rw [← HNu1.out]; exact H13.out.is.2.2.2.2.1) (by rw [← HNu2.out]; exact H13.out.is.2.2.2.1)).mono ?_; rintro e w6 ⟨rfl, hb⟩
 rw [HAL.out]
 have hS6 := hS5.below hb
 have H14 := Lib.hid (H13.out.below hb)
 clear hb H13
 go_simp; refine hK.out _ _ hS6 ?_; clear hK KC
 iterate 3 (refine seq_take _ rfl (fun KC hK => ?_); go_simp; (first | refine hK _ ?_ | refine ⟨_, fun _ _ => rfl, hK _ ?_⟩); clear hK KC)
 refine seq_take _ rfl (fun KC hK => ?_); go_simp
 refine ⟨.agg #[.slice lo1 l1.length lc1, .int .u64 (a1 : Int), .int .u64 (t1 : Int), .int .u64 (k1 : Int), .bool ph1, .int .u64 (pn1 : Int), .bool mh1, .int .u64 (mn1 : Int), .bool gh1, .int .u64 (gn1 : Int), .slice nco1 nc1.length ncc1, .slice nbo1 nb1.length nbc1, .slice eo1 es1.length ec1, .int .u32 (f1 : Int), .string Xu1], fun a ha => by obtain ⟨p0, p1, p2, p3, p4, p5, p6, p7, p8, p9, p10, p11, p12, p13, p14⟩ := row15 ha.1; simp only [p0, p1, p2, p3, p4, p5, p6, p7, p8, p9, p10, p11, p12, p13, p14, Result.andThen], hK _ ?_⟩
 clear hK KC
 refine seq_take _ rfl (fun KC hK => ?_); go_simp
 refine ⟨.agg #[.slice lo1 l1.length lc1, .int .u64 (a1 : Int), .int .u64 (t1 : Int), .int .u64 (k1 : Int), .bool ph1, .int .u64 (pn1 : Int), .bool mh1, .int .u64 (mn1 : Int), .bool gh1, .int .u64 (gn1 : Int), .slice nco1 nc1.length ncc1, .slice nbo1 nb1.length nbc1, .slice eo1 es1.length ec1, .int .u32 (f1 : Int), .string Xu1], fun a ha => by obtain ⟨p0, p1, p2, p3, p4, p5, p6, p7, p8, p9, p10, p11, p12, p13, p14⟩ := row15 ha.1; simp only [p0, p1, p2, p3, p4, p5, p6, p7, p8, p9, p10, p11, p12, p13, p14, Result.andThen], hK _ ?_⟩
 clear hK KC
 refine seq_come _ rfl (fun KC hK => ?_); go_simp
 refine (hi_same ((a1, (t1, (k1, ((ph1, pn1), (nc1, (nb1, (es1, (l1, (f1, ((mh1, mn1), (gh1, gn1))))))))))), u1) ((a1, (t1, (k1, ((ph1, pn1), (nc1, (nb1, (es1, (l1, (f1, ((mh1, mn1), (gh1, gn1))))))))))), u1) [.slice lo1 l1.length lc1, .int .u64 (a1 : Int), .int .u64 (t1 : Int), .int .u64 (k1 : Int), .bool ph1, .int .u64 (pn1 : Int), .bool mh1, .int .u64 (mn1 : Int), .bool gh1, .int .u64 (gn1 : Int), .slice nco1 nc1.length ncc1, .slice nbo1 nb1.length nbc1, .slice eo1 es1.length ec1, .int .u32 (f1 : Int), .string Xu1] [.slice lo1 l1.length lc1, .int .u64 (a1 : Int), .int .u64 (t1 : Int), .int .u64 (k1 : Int), .bool ph1, .int .u64 (pn1 : Int), .bool mh1, .int .u64 (mn1 : Int), .bool gh1, .int .u64 (gn1 : Int), .slice nco1 nc1.length ncc1, .slice nbo1 nb1.length nbc1, .slice eo1 es1.length ec1, .int .u32 (f1 : Int), .string Xu1] _ _ w6 HARG1.out (by rw [← HNu1.out]; exact H14.out.is.2.2.2.2.1) (by rw [← HNu1.out]; exact H14.out.is.2.2.2.2.1)).mono ?_; rintro e w7 ⟨rfl, hb⟩
 rw [alike_yes rfl]
 have hS7 := hS6.below hb
 have H15 := Lib.hid (H14.out.below hb)
 clear hb H14
 go_simp; refine hK.out _ _ hS7 ?_; clear hK KC
 iterate 2 (refine seq_take _ rfl (fun KC hK => ?_); go_simp; (first | refine hK _ ?_ | refine ⟨_, fun _ _ => rfl, hK _ ?_⟩); clear hK KC)
 refine seq_done ?_
 clear hne hS hS4 hS5 hS6 hS7
 go_wp2_with fail
 go_ret
 exact ⟨rfl, H15.out.is.2.2.1⟩
theorem hism_true (x : Hi) (ca : List Value) (P : Nat → Prop) (y : Hi) (cb : List Value) (Q : Nat → Prop) (w : World) (ha1 : hi_arg x) (hr1 : hiCel.R w P x ca) (ha2 : hi_arg y) (hr2 : hiCel.R w Q y cb) (hal : alike x y = true) :
 Calls Tryz.prog 3 #[.agg ca.toArray, .agg cb.toArray] w fun e w' => e = .returned (.bool true) ∧ Below w.heap.size w w' := by
 obtain ⟨⟨a1, ⟨t1, ⟨k1, ⟨⟨ph1, pn1⟩, ⟨nc1, ⟨nb1, ⟨es1, ⟨l1, ⟨f1, ⟨⟨mh1, mn1⟩, ⟨gh1, gn1⟩⟩⟩⟩⟩⟩⟩⟩⟩⟩⟩, u1⟩ := x
 obtain ⟨⟨a2, ⟨t2, ⟨k2, ⟨⟨ph2, pn2⟩, ⟨nc2, ⟨nb2, ⟨es2, ⟨l2, ⟨f2, ⟨⟨mh2, mn2⟩, ⟨gh2, gn2⟩⟩⟩⟩⟩⟩⟩⟩⟩⟩⟩, u2⟩ := y
 have hs1 := hr1
 obtain ⟨lo1, lc1, nco1, ncc1, nbo1, nbc1, eo1, ec1, rfl, _, _, _, _⟩ := hs1
 have hs2 := hr2
 obtain ⟨lo2, lc2, nco2, ncc2, nbo2, nbc2, eo2, ec2, rfl, _, _, _, _⟩ := hs2
 dsimp only [strV]
 obtain ⟨Xu1, eu1⟩ : ∃ X : ByteArray, (⟨u1.toArray⟩ : ByteArray) = X := ⟨_, rfl⟩
 have HNu1 := Lib.hid eu1
 clear eu1
 obtain ⟨Xu2, eu2⟩ : ∃ X : ByteArray, (⟨u2.toArray⟩ : ByteArray) = X := ⟨_, rfl⟩
 have HNu2 := Lib.hid eu2
 clear eu2
 rw [HNu1.out, HNu2.out]
 have HAL := Lib.hid hal
 have HARG1 := Lib.hid ha1
 have HARG2 := Lib.hid ha2
 obtain ⟨W, hW⟩ : ∃ W, (w.alloc (.cells #[.slice lo1 l1.length lc1, .int .u64 (a1 : Int), .int .u64 (t1 : Int), .int .u64 (k1 : Int), .bool ph1, .int .u64 (pn1 : Int), .bool mh1, .int .u64 (mn1 : Int), .bool gh1, .int .u64 (gn1 : Int), .slice nco1 nc1.length ncc1, .slice nbo1 nb1.length nbc1, .slice eo1 es1.length ec1, .int .u32 (f1 : Int), .string Xu1] 30)).alloc (.cells #[.slice lo2 l2.length lc2, .int .u64 (a2 : Int), .int .u64 (t2 : Int), .int .u64 (k2 : Int), .bool ph2, .int .u64 (pn2 : Int), .bool mh2, .int .u64 (mn2 : Int), .bool gh2, .int .u64 (gn2 : Int), .slice nco2 nc2.length ncc2, .slice nbo2 nb2.length nbc2, .slice eo2 es2.length ec2, .int .u32 (f2 : Int), .string Xu2] 30) = W := ⟨_, rfl⟩
 have hbw : Below w.heap.size w W := by rw [← hW]; exact below_step (below_new _ _) (below_new _ _)
 have hra : W.heap[w.heap.size]? = some (.cells #[.slice lo1 l1.length lc1, .int .u64 (a1 : Int), .int .u64 (t1 : Int), .int .u64 (k1 : Int), .bool ph1, .int .u64 (pn1 : Int), .bool mh1, .int .u64 (mn1 : Int), .bool gh1, .int .u64 (gn1 : Int), .slice nco1 nc1.length ncc1, .slice nbo1 nb1.length nbc1, .slice eo1 es1.length ec1, .int .u32 (f1 : Int), .string Xu1] 30 (0, 0)) := by rw [← hW]; exact (Below.heap_alloc _ _ _ (by simp)).trans (heap_alloc_new w _)
 have hrk : W.heap[w.heap.size + 1]? = some (.cells #[.slice lo2 l2.length lc2, .int .u64 (a2 : Int), .int .u64 (t2 : Int), .int .u64 (k2 : Int), .bool ph2, .int .u64 (pn2 : Int), .bool mh2, .int .u64 (mn2 : Int), .bool gh2, .int .u64 (gn2 : Int), .slice nco2 nc2.length ncc2, .slice nbo2 nb2.length nbc2, .slice eo2 es2.length ec2, .int .u32 (f2 : Int), .string Xu2] 30 (0, 0)) := by rw [← hW]; have := heap_alloc_new (w.alloc (.cells #[.slice lo1 l1.length lc1, .int .u64 (a1 : Int), .int .u64 (t1 : Int), .int .u64 (k1 : Int), .bool ph1, .int .u64 (pn1 : Int), .bool mh1, .int .u64 (mn1 : Int), .bool gh1, .int .u64 (gn1 : Int), .slice nco1 nc1.length ncc1, .slice nbo1 nb1.length nbc1, .slice eo1 es1.length ec1, .int .u32 (f1 : Int), .string Xu1] 30)) (.cells #[.slice lo2 l2.length lc2, .int .u64 (a2 : Int), .int .u64 (t2 : Int), .int .u64 (k2 : Int), .bool ph2, .int .u64 (pn2 : Int), .bool mh2, .int .u64 (mn2 : Int), .bool gh2, .int .u64 (gn2 : Int), .slice nco2 nc2.length ncc2, .slice nbo2 nb2.length nbc2, .slice eo2 es2.length ec2, .int .u32 (f2 : Int), .string Xu2] 30); simpa using this
 have H1 := Lib.hid (Fx.nil w)
 have H2 := Lib.hid (H1.out.cel (hr1))
 clear H1
 have H3 := Lib.hid (H2.out.cel (hr2))
 clear H2
 have hb := hbw
 have H4 := Lib.hid (H3.out.below hb)
 clear hb H3
 have H5 := Lib.hid (H4.out.base (hbw))
 clear H4
 have H6 := Lib.hid (H5.out.row (hra))
 clear H5
 have H7 := Lib.hid (H6.out.row (hrk))
 clear H6
 have HW := Lib.hid hW
 clear hW hbw hra hrk hr1 hr2 hal ha1 ha2
 go_enter Tryz.func3, Tryz.ntmps3
 go_wp2_with fail
 rw [HW.out]
 refine (first13 W).mono ?_; rintro e w1 ⟨rfl, hb⟩
 have H8 := Lib.hid (H7.out.below hb)
 clear hb H7
 obtain ⟨xa0, xa1, xa2, xa3, xa4, xa5, xa6, xa7, xa8, xa9, xa10, xa11, xa12, xa13, xa14⟩ := row15 (H8.out.is.2.1)
 go_wp2_with fail
 refine (hi_room ((a1, (t1, (k1, ((ph1, pn1), (nc1, (nb1, (es1, (l1, (f1, ((mh1, mn1), (gh1, gn1))))))))))), u1) [.slice lo1 l1.length lc1, .int .u64 (a1 : Int), .int .u64 (t1 : Int), .int .u64 (k1 : Int), .bool ph1, .int .u64 (pn1 : Int), .bool mh1, .int .u64 (mn1 : Int), .bool gh1, .int .u64 (gn1 : Int), .slice nco1 nc1.length ncc1, .slice nbo1 nb1.length nbc1, .slice eo1 es1.length ec1, .int .u32 (f1 : Int), .string Xu1] _ w1 12000 HARG1.out (by rw [← HNu1.out]; exact H8.out.is.2.2.2.2.1) (by omega)).mono ?_; intro e w2 hpost
 obtain ⟨hb, s1, rfl, _⟩ := hpost
 clear xa0 xa1 xa2 xa3 xa4 xa5 xa6 xa7 xa8 xa9 xa10 xa11 xa12 xa13 xa14
 have H9 := Lib.hid (H8.out.below hb)
 clear hb H8
 by_cases hr1 : s1 < 0
 case pos =>
  have d1 : decide (s1 < 0) = true := decide_eq_true hr1
  clear hr1
  go_wp2_with fail
  refine (first13 w2).mono ?_; rintro e w9 ⟨rfl, hb⟩
  have H10 := Lib.hid (H9.out.below hb)
  clear hb H9
  go_wp2_with fail
  go_ret
  exact ⟨rfl, H10.out.is.2.2.1⟩
 have d1 : decide (s1 < 0) = false := decide_eq_false hr1
 clear hr1
 obtain ⟨xb0, xb1, xb2, xb3, xb4, xb5, xb6, xb7, xb8, xb9, xb10, xb11, xb12, xb13, xb14⟩ := row15 (H9.out.is.1)
 go_wp2_with fail
 refine (hi_room ((a2, (t2, (k2, ((ph2, pn2), (nc2, (nb2, (es2, (l2, (f2, ((mh2, mn2), (gh2, gn2))))))))))), u2) [.slice lo2 l2.length lc2, .int .u64 (a2 : Int), .int .u64 (t2 : Int), .int .u64 (k2 : Int), .bool ph2, .int .u64 (pn2 : Int), .bool mh2, .int .u64 (mn2 : Int), .bool gh2, .int .u64 (gn2 : Int), .slice nco2 nc2.length ncc2, .slice nbo2 nb2.length nbc2, .slice eo2 es2.length ec2, .int .u32 (f2 : Int), .string Xu2] _ w2 12000 HARG2.out (by rw [← HNu2.out]; exact H9.out.is.2.2.2.1) (by omega)).mono ?_; intro e w3 hpost
 obtain ⟨hb, s2, rfl, _⟩ := hpost
 clear xb0 xb1 xb2 xb3 xb4 xb5 xb6 xb7 xb8 xb9 xb10 xb11 xb12 xb13 xb14
 have H10 := Lib.hid (H9.out.below hb)
 clear hb H9
 by_cases hr2 : s2 < 0
 case pos =>
  have d2 : decide (s2 < 0) = true := decide_eq_true hr2
  clear hr2
  go_wp2_with fail
  refine (first13 w3).mono ?_; rintro e w9 ⟨rfl, hb⟩
  have H11 := Lib.hid (H10.out.below hb)
  clear hb H10
  go_wp2_with fail
  go_ret
  exact ⟨rfl, H11.out.is.2.2.1⟩
 have d2 : decide (s2 < 0) = false := decide_eq_false hr2
 clear hr2
 go_wp2_with fail
 obtain ⟨D, hD⟩ : ∃ D, w3.drew = D := ⟨_, rfl⟩
 have hb : Below w3.heap.size w3 D := by rw [← hD]; exact (Below.refl _ _).drew
 have H11 := Lib.hid (H10.out.below hb)
 clear hb H10
 have hS : R2 w.heap.size #[.slice lo1 l1.length lc1, .int .u64 (a1 : Int), .int .u64 (t1 : Int), .int .u64 (k1 : Int), .bool ph1, .int .u64 (pn1 : Int), .bool mh1, .int .u64 (mn1 : Int), .bool gh1, .int .u64 (gn1 : Int), .slice nco1 nc1.length ncc1, .slice nbo1 nb1.length nbc1, .slice eo1 es1.length ec1, .int .u32 (f1 : Int), .string Xu1] 30 (w.heap.size + 1) #[.slice lo2 l2.length lc2, .int .u64 (a2 : Int), .int .u64 (t2 : Int), .int .u64 (k2 : Int), .bool ph2, .int .u64 (pn2 : Int), .bool mh2, .int .u64 (mn2 : Int), .bool gh2, .int .u64 (gn2 : Int), .slice nco2 nc2.length ncc2, .slice nbo2 nb2.length nbc2, .slice eo2 es2.length ec2, .int .u32 (f2 : Int), .string Xu2] 30 D := ⟨H11.out.is.2.1, H11.out.is.1⟩
 have hne : Nonempty {w' : World // R2 w.heap.size #[.slice lo1 l1.length lc1, .int .u64 (a1 : Int), .int .u64 (t1 : Int), .int .u64 (k1 : Int), .bool ph1, .int .u64 (pn1 : Int), .bool mh1, .int .u64 (mn1 : Int), .bool gh1, .int .u64 (gn1 : Int), .slice nco1 nc1.length ncc1, .slice nbo1 nb1.length nbc1, .slice eo1 es1.length ec1, .int .u32 (f1 : Int), .string Xu1] 30 (w.heap.size + 1) #[.slice lo2 l2.length lc2, .int .u64 (a2 : Int), .int .u64 (t2 : Int), .int .u64 (k2 : Int), .bool ph2, .int .u64 (pn2 : Int), .bool mh2, .int .u64 (mn2 : Int), .bool gh2, .int .u64 (gn2 : Int), .slice nco2 nc2.length ncc2, .slice nbo2 nb2.length nbc2, .slice eo2 es2.length ec2, .int .u32 (f2 : Int), .string Xu2] 30 w'} := ⟨⟨_, hS⟩⟩
 refine wp_region_seq (S := R2 w.heap.size #[.slice lo1 l1.length lc1, .int .u64 (a1 : Int), .int .u64 (t1 : Int), .int .u64 (k1 : Int), .bool ph1, .int .u64 (pn1 : Int), .bool mh1, .int .u64 (mn1 : Int), .bool gh1, .int .u64 (gn1 : Int), .slice nco1 nc1.length ncc1, .slice nbo1 nb1.length nbc1, .slice eo1 es1.length ec1, .int .u32 (f1 : Int), .string Xu1] 30 (w.heap.size + 1) #[.slice lo2 l2.length lc2, .int .u64 (a2 : Int), .int .u64 (t2 : Int), .int .u64 (k2 : Int), .bool ph2, .int .u64 (pn2 : Int), .bool mh2, .int .u64 (mn2 : Int), .bool gh2, .int .u64 (gn2 : Int), .slice nco2 nc2.length ncc2, .slice nbo2 nb2.length nbc2, .slice eo2 es2.length ec2, .int .u32 (f2 : Int), .string Xu2] 30) [(0, false), (1, true), (2, true), (3, true), (5, true), (6, true), (4, false), (7, false), (8, true), (9, true), (10, true), (11, true), (12, true), (13, false), (14, true), (15, true)] (by kernel_rfl) (by kernel_rfl) (by kernel_rfl) (by kernel_rfl) (by rw [hD]; exact hS) ?_
 rw [hD]
 clear hD
 refine seq_come _ rfl (fun KC hK => ?_); go_simp
 refine (first13 D).mono ?_; rintro e w4 ⟨rfl, hb⟩
 have hS4 := hS.below hb
 have H12 := Lib.hid (H11.out.below hb)
 clear hb H11
 go_simp; refine hK.out _ _ hS4 ?_; clear hK KC
 iterate 1 (refine seq_take _ rfl (fun KC hK => ?_); go_simp; (first | refine hK _ ?_ | refine ⟨_, fun _ _ => rfl, hK _ ?_⟩); clear hK KC)
 refine seq_take _ rfl (fun KC hK => ?_); go_simp
 refine ⟨.agg #[.slice lo1 l1.length lc1, .int .u64 (a1 : Int), .int .u64 (t1 : Int), .int .u64 (k1 : Int), .bool ph1, .int .u64 (pn1 : Int), .bool mh1, .int .u64 (mn1 : Int), .bool gh1, .int .u64 (gn1 : Int), .slice nco1 nc1.length ncc1, .slice nbo1 nb1.length nbc1, .slice eo1 es1.length ec1, .int .u32 (f1 : Int), .string Xu1], fun a ha => by obtain ⟨p0, p1, p2, p3, p4, p5, p6, p7, p8, p9, p10, p11, p12, p13, p14⟩ := row15 ha.1; simp only [p0, p1, p2, p3, p4, p5, p6, p7, p8, p9, p10, p11, p12, p13, p14, Result.andThen], hK _ ?_⟩
 clear hK KC
 refine seq_take _ rfl (fun KC hK => ?_); go_simp
 refine ⟨.agg #[.slice lo2 l2.length lc2, .int .u64 (a2 : Int), .int .u64 (t2 : Int), .int .u64 (k2 : Int), .bool ph2, .int .u64 (pn2 : Int), .bool mh2, .int .u64 (mn2 : Int), .bool gh2, .int .u64 (gn2 : Int), .slice nco2 nc2.length ncc2, .slice nbo2 nb2.length nbc2, .slice eo2 es2.length ec2, .int .u32 (f2 : Int), .string Xu2], fun a ha => by obtain ⟨p0, p1, p2, p3, p4, p5, p6, p7, p8, p9, p10, p11, p12, p13, p14⟩ := row15 ha.2; simp only [p0, p1, p2, p3, p4, p5, p6, p7, p8, p9, p10, p11, p12, p13, p14, Result.andThen], hK _ ?_⟩
 clear hK KC
 refine seq_take _ rfl (fun KC hK => ?_); go_simp
 refine ⟨.agg #[.slice lo1 l1.length lc1, .int .u64 (a1 : Int), .int .u64 (t1 : Int), .int .u64 (k1 : Int), .bool ph1, .int .u64 (pn1 : Int), .bool mh1, .int .u64 (mn1 : Int), .bool gh1, .int .u64 (gn1 : Int), .slice nco1 nc1.length ncc1, .slice nbo1 nb1.length nbc1, .slice eo1 es1.length ec1, .int .u32 (f1 : Int), .string Xu1], fun a ha => by obtain ⟨p0, p1, p2, p3, p4, p5, p6, p7, p8, p9, p10, p11, p12, p13, p14⟩ := row15 ha.1; simp only [p0, p1, p2, p3, p4, p5, p6, p7, p8, p9, p10, p11, p12, p13, p14, Result.andThen], hK _ ?_⟩
 clear hK KC
 refine seq_take _ rfl (fun KC hK => ?_); go_simp
 refine ⟨.agg #[.slice lo2 l2.length lc2, .int .u64 (a2 : Int), .int .u64 (t2 : Int), .int .u64 (k2 : Int), .bool ph2, .int .u64 (pn2 : Int), .bool mh2, .int .u64 (mn2 : Int), .bool gh2, .int .u64 (gn2 : Int), .slice nco2 nc2.length ncc2, .slice nbo2 nb2.length nbc2, .slice eo2 es2.length ec2, .int .u32 (f2 : Int), .string Xu2], fun a ha => by obtain ⟨p0, p1, p2, p3, p4, p5, p6, p7, p8, p9, p10, p11, p12, p13, p14⟩ := row15 ha.2; simp only [p0, p1, p2, p3, p4, p5, p6, p7, p8, p9, p10, p11, p12, p13, p14, Result.andThen], hK _ ?_⟩
 clear hK KC
 refine seq_come _ rfl (fun KC hK => ?_); go_simp
 refine (hi_same ((a1, (t1, (k1, ((ph1, pn1), (nc1, (nb1, (es1, (l1, (f1, ((mh1, mn1), (gh1, gn1))))))))))), u1) ((a2, (t2, (k2, ((ph2, pn2), (nc2, (nb2, (es2, (l2, (f2, ((mh2, mn2), (gh2, gn2))))))))))), u2) [.slice lo1 l1.length lc1, .int .u64 (a1 : Int), .int .u64 (t1 : Int), .int .u64 (k1 : Int), .bool ph1, .int .u64 (pn1 : Int), .bool mh1, .int .u64 (mn1 : Int), .bool gh1, .int .u64 (gn1 : Int), .slice nco1 nc1.length ncc1, .slice nbo1 nb1.length nbc1, .slice eo1 es1.length ec1, .int .u32 (f1 : Int), .string Xu1] [.slice lo2 l2.length lc2, .int .u64 (a2 : Int), .int .u64 (t2 : Int), .int .u64 (k2 : Int), .bool ph2, .int .u64 (pn2 : Int), .bool mh2, .int .u64 (mn2 : Int), .bool gh2, .int .u64 (gn2 : Int), .slice nco2 nc2.length ncc2, .slice nbo2 nb2.length nbc2, .slice eo2 es2.length ec2, .int .u32 (f2 : Int), .string Xu2] _ _ w4 HARG1.out (by rw [← HNu1.out]; exact H12.out.is.2.2.2.2.1) (by rw [← HNu2.out]; exact H12.out.is.2.2.2.1)).mono ?_; rintro e w5 ⟨rfl, hb⟩
 rw [HAL.out]
 have hS5 := hS4.below hb
 have H13 := Lib.hid (H12.out.below hb)
 clear hb H12
 go_simp; refine hK.out _ _ hS5 ?_; clear hK KC
 refine seq_come _ rfl (fun KC hK => ?_); go_simp
 refine (hi_ref ((a1, (t1, (k1, ((ph1, pn1), (nc1, (nb1, (es1, (l1, (f1, ((mh1, mn1), (gh1, gn1))))))))))), u1) ((a2, (t2, (k2, ((ph2, pn2), (nc2, (nb2, (es2, (l2, (f2, ((mh2, mn2), (gh2, gn2))))))))))), u2) [.slice lo1 l1.length lc1, .int .u64 (a1 : Int), .int .u64 (t1 : Int), .int .u64 (k1 : Int), .bool ph1, .int .u64 (pn1 : Int), .bool mh1, .int .u64 (mn1 : Int), .bool gh1, .int .u64 (gn1 : Int), .slice nco1 nc1.length ncc1, .slice nbo1 nb1.length nbc1, .slice eo1 es1.length ec1, .int .u32 (f1 : Int), .string Xu1] [.slice lo2 l2.length lc2, .int .u64 (a2 : Int), .int .u64 (t2 : Int), .int .u64 (k2 : Int), .bool ph2, .int .u64 (pn2 : Int), .bool mh2, .int .u64 (mn2 : Int), .bool gh2, .int .u64 (gn2 : Int), .slice nco2 nc2.length ncc2, .slice nbo2 nb2.length nbc2, .slice eo2 es2.length ec2, .int .u32 (f2 : Int), .string Xu2] _ _ w5 HARG1.out (by rw [← HNu1.out]; exact H13.out.is.2.2.2.2.1) (by rw [← HNu2.out]; exact H13.out.is.2.2.2.1)).mono ?_; rintro e w6 ⟨rfl, hb⟩
 rw [HAL.out]
 have hS6 := hS5.below hb
 have H14 := Lib.hid (H13.out.below hb)
 clear hb H13
 go_simp; refine hK.out _ _ hS6 ?_; clear hK KC
 iterate 3 (refine seq_take _ rfl (fun KC hK => ?_); go_simp; (first | refine hK _ ?_ | refine ⟨_, fun _ _ => rfl, hK _ ?_⟩); clear hK KC)
 refine seq_take _ rfl (fun KC hK => ?_); go_simp
 refine ⟨.agg #[.slice lo1 l1.length lc1, .int .u64 (a1 : Int), .int .u64 (t1 : Int), .int .u64 (k1 : Int), .bool ph1, .int .u64 (pn1 : Int), .bool mh1, .int .u64 (mn1 : Int), .bool gh1, .int .u64 (gn1 : Int), .slice nco1 nc1.length ncc1, .slice nbo1 nb1.length nbc1, .slice eo1 es1.length ec1, .int .u32 (f1 : Int), .string Xu1], fun a ha => by obtain ⟨p0, p1, p2, p3, p4, p5, p6, p7, p8, p9, p10, p11, p12, p13, p14⟩ := row15 ha.1; simp only [p0, p1, p2, p3, p4, p5, p6, p7, p8, p9, p10, p11, p12, p13, p14, Result.andThen], hK _ ?_⟩
 clear hK KC
 refine seq_take _ rfl (fun KC hK => ?_); go_simp
 refine ⟨.agg #[.slice lo1 l1.length lc1, .int .u64 (a1 : Int), .int .u64 (t1 : Int), .int .u64 (k1 : Int), .bool ph1, .int .u64 (pn1 : Int), .bool mh1, .int .u64 (mn1 : Int), .bool gh1, .int .u64 (gn1 : Int), .slice nco1 nc1.length ncc1, .slice nbo1 nb1.length nbc1, .slice eo1 es1.length ec1, .int .u32 (f1 : Int), .string Xu1], fun a ha => by obtain ⟨p0, p1, p2, p3, p4, p5, p6, p7, p8, p9, p10, p11, p12, p13, p14⟩ := row15 ha.1; simp only [p0, p1, p2, p3, p4, p5, p6, p7, p8, p9, p10, p11, p12, p13, p14, Result.andThen], hK _ ?_⟩
 clear hK KC
 refine seq_come _ rfl (fun KC hK => ?_); go_simp
 refine (hi_same ((a1, (t1, (k1, ((ph1, pn1), (nc1, (nb1, (es1, (l1, (f1, ((mh1, mn1), (gh1, gn1))))))))))), u1) ((a1, (t1, (k1, ((ph1, pn1), (nc1, (nb1, (es1, (l1, (f1, ((mh1, mn1), (gh1, gn1))))))))))), u1) [.slice lo1 l1.length lc1, .int .u64 (a1 : Int), .int .u64 (t1 : Int), .int .u64 (k1 : Int), .bool ph1, .int .u64 (pn1 : Int), .bool mh1, .int .u64 (mn1 : Int), .bool gh1, .int .u64 (gn1 : Int), .slice nco1 nc1.length ncc1, .slice nbo1 nb1.length nbc1, .slice eo1 es1.length ec1, .int .u32 (f1 : Int), .string Xu1] [.slice lo1 l1.length lc1, .int .u64 (a1 : Int), .int .u64 (t1 : Int), .int .u64 (k1 : Int), .bool ph1, .int .u64 (pn1 : Int), .bool mh1, .int .u64 (mn1 : Int), .bool gh1, .int .u64 (gn1 : Int), .slice nco1 nc1.length ncc1, .slice nbo1 nb1.length nbc1, .slice eo1 es1.length ec1, .int .u32 (f1 : Int), .string Xu1] _ _ w6 HARG1.out (by rw [← HNu1.out]; exact H14.out.is.2.2.2.2.1) (by rw [← HNu1.out]; exact H14.out.is.2.2.2.2.1)).mono ?_; rintro e w7 ⟨rfl, hb⟩
 rw [alike_yes rfl]
 have hS7 := hS6.below hb
 have H15 := Lib.hid (H14.out.below hb)
 clear hb H14
 go_simp; refine hK.out _ _ hS7 ?_; clear hK KC
 iterate 2 (refine seq_take _ rfl (fun KC hK => ?_); go_simp; (first | refine hK _ ?_ | refine ⟨_, fun _ _ => rfl, hK _ ?_⟩); clear hK KC)
 refine seq_done ?_
 clear hne hS hS4 hS5 hS6 hS7
 go_wp2_with fail
 go_ret
 exact ⟨rfl, H15.out.is.2.2.1⟩
theorem hism_any (x : Hi) (ca : List Value) (P : Nat → Prop) (y : Hi) (cb : List Value) (Q : Nat → Prop) (w : World) (ha1 : hi_arg x) (hr1 : hiCel.R w P x ca) (ha2 : hi_arg y) (hr2 : hiCel.R w Q y cb) :
 Calls Tryz.prog 3 #[.agg ca.toArray, .agg cb.toArray] w fun e w' => e = .returned (.bool true) ∧ Below w.heap.size w w' := by
 cases hal : alike x y with
 | false => exact hism_false x ca P y cb Q w ha1 hr1 ha2 hr2 hal
 | true => exact hism_true x ca P y cb Q w ha1 hr1 ha2 hr2 hal
end Go.Proofs.YtjbingoliffjiaaGreat
