/-
  hyglaw10.ResourceSame, ScopeSame.
-/
import Derived.Test.YtbdbmkmebeemoaaScSame
namespace Go.Proofs.Ytbdbmkmebeemoaa
open Go.RowKit
set_option maxRecDepth 1000000 in
set_option maxHeartbeats 16000000 in
theorem rssm_false (x y : (List KV × Nat) × List UInt8) (ca cb : List Value) (P Q : Nat → Prop) (w : World) (hl1 : kslim x.1.1) (hf1 : ksfit x.1.1) (hn1 : x.1.1.length ≤ 9223372036854775807) (hxu1 : x.2.length ≤ 9223372036854775807) (hr1 : RsRel w P x ca) (hl2 : kslim y.1.1) (hf2 : ksfit y.1.1) (hn2 : y.1.1.length ≤ 9223372036854775807) (hxu2 : y.2.length ≤ 9223372036854775807) (hr2 : RsRel w Q y cb) (hal : alike x y = false) :
 Calls Try.prog 7 #[.agg ca.toArray, .agg cb.toArray] w fun e w' => e = .returned (.bool true) ∧ Below w.heap.size w w' := by
 obtain ⟨lo1, lc1, rfl, hk1⟩ := hr1
 obtain ⟨lo2, lc2, rfl, hk2⟩ := hr2
 obtain ⟨⟨l1, n1⟩, u1⟩ := x
 obtain ⟨⟨l2, n2⟩, u2⟩ := y
 dsimp only [strV]
 obtain ⟨U1, eU1⟩ : ∃ X : ByteArray, (⟨u1.toArray⟩ : ByteArray) = X := ⟨_, rfl⟩
 have HU1N := Lib.hid eU1
 obtain ⟨U2, eU2⟩ : ∃ X : ByteArray, (⟨u2.toArray⟩ : ByteArray) = X := ⟨_, rfl⟩
 have HU2N := Lib.hid eU2
 rw [eU1, eU2]
 clear eU1 eU2
 have HAL := Lib.hid hal
 have HLIM1 := Lib.hid hl1
 have HFIT1 := Lib.hid hf1
 have HLEN1 := Lib.hid hn1
 have HXU1 := Lib.hid hxu1
 have HLIM2 := Lib.hid hl2
 have HFIT2 := Lib.hid hf2
 have HLEN2 := Lib.hid hn2
 have HXU2 := Lib.hid hxu2
 obtain ⟨W, hW⟩ : ∃ W, (w.alloc (.cells #[.slice lo1 l1.length lc1, .int .u32 (n1 : Int), .string U1] 40)).alloc (.cells #[.slice lo2 l2.length lc2, .int .u32 (n2 : Int), .string U2] 40) = W := ⟨_, rfl⟩
 have hbw : Below w.heap.size w W := by rw [← hW]; exact below_step (below_new _ _) (below_new _ _)
 have hra : W.heap[w.heap.size]? = some (.cells #[.slice lo1 l1.length lc1, .int .u32 (n1 : Int), .string U1] 40 (0, 0)) := by rw [← hW]; exact (Below.heap_alloc _ _ _ (by simp)).trans (heap_alloc_new w _)
 have hrk : W.heap[w.heap.size + 1]? = some (.cells #[.slice lo2 l2.length lc2, .int .u32 (n2 : Int), .string U2] 40 (0, 0)) := by rw [← hW]; have := heap_alloc_new (w.alloc (.cells #[.slice lo1 l1.length lc1, .int .u32 (n1 : Int), .string U1] 40)) (.cells #[.slice lo2 l2.length lc2, .int .u32 (n2 : Int), .string U2] 40); simpa using this
 have H1 := Lib.hid (Fx.nil W)
 have H2 := Lib.hid (H1.out.base (hbw))
 clear H1
 have H3 := Lib.hid (H2.out.row (hra))
 clear H2
 have H4 := Lib.hid (H3.out.row (hrk))
 clear H3
 have H5 := Lib.hid (H4.out.krels (hk1.below hbw))
 clear H4
 have H6 := Lib.hid (H5.out.krels (hk2.below hbw))
 clear H5
 have HW := Lib.hid hW
 clear hW hbw hra hrk hk1 hk2 hal hl1 hf1 hn1 hxu1 hl2 hf2 hn2 hxu2
 go_enter Try.func7, Try.ntmps7
 go_wp2_with fail
 rw [HW.out]
 refine (first10 W).mono ?_; rintro e w1 ⟨rfl, hb⟩
 have H7 := Lib.hid (H6.out.below hb)
 clear hb H6
 obtain ⟨xa0, xa1, xa2⟩ := row3 (H7.out.is.2.2.2.1)
 go_wp2_with fail
 refine (rs_room ((l1, n1), u1) [.slice lo1 l1.length lc1, .int .u32 (n1 : Int), .string U1] _ w1 12000 HLIM1.out HFIT1.out HLEN1.out HXU1.out ⟨lo1, lc1, by rw [← HU1N.out]; rfl, H7.out.is.2.1⟩ (by omega)).mono ?_; intro e w2 hpost
 obtain ⟨hb, s1, rfl, _⟩ := hpost
 clear xa0 xa1 xa2
 have H8 := Lib.hid (H7.out.below hb)
 clear hb H7
 by_cases hr1 : s1 < 0
 case pos =>
  have d1 : decide (s1 < 0) = true := decide_eq_true hr1
  clear hr1
  go_wp2_with fail
  refine (first10 w2).mono ?_; rintro e w9 ⟨rfl, hb⟩
  have H9 := Lib.hid (H8.out.below hb)
  clear hb H8
  go_wp2_with fail
  go_ret
  exact ⟨rfl, H9.out.is.2.2.2.2.1⟩
 have d1 : decide (s1 < 0) = false := decide_eq_false hr1
 clear hr1
 obtain ⟨xb0, xb1, xb2⟩ := row3 (H8.out.is.2.2.1)
 go_wp2_with fail
 refine (rs_room ((l2, n2), u2) [.slice lo2 l2.length lc2, .int .u32 (n2 : Int), .string U2] _ w2 12000 HLIM2.out HFIT2.out HLEN2.out HXU2.out ⟨lo2, lc2, by rw [← HU2N.out]; rfl, H8.out.is.1⟩ (by omega)).mono ?_; intro e w3 hpost
 obtain ⟨hb, s2, rfl, _⟩ := hpost
 clear xb0 xb1 xb2
 have H9 := Lib.hid (H8.out.below hb)
 clear hb H8
 by_cases hr2 : s2 < 0
 case pos =>
  have d2 : decide (s2 < 0) = true := decide_eq_true hr2
  clear hr2
  go_wp2_with fail
  refine (first10 w3).mono ?_; rintro e w9 ⟨rfl, hb⟩
  have H10 := Lib.hid (H9.out.below hb)
  clear hb H9
  go_wp2_with fail
  go_ret
  exact ⟨rfl, H10.out.is.2.2.2.2.1⟩
 have d2 : decide (s2 < 0) = false := decide_eq_false hr2
 clear hr2
 go_wp2_with fail
 obtain ⟨D, hD⟩ : ∃ D, w3.drew = D := ⟨_, rfl⟩
 have hb : Below w3.heap.size w3 D := by rw [← hD]; exact (Below.refl _ _).drew
 have H10 := Lib.hid (H9.out.below hb)
 clear hb H9
 have hS : R2 w.heap.size #[.slice lo1 l1.length lc1, .int .u32 (n1 : Int), .string U1] 40 (w.heap.size + 1) #[.slice lo2 l2.length lc2, .int .u32 (n2 : Int), .string U2] 40 D := ⟨H10.out.is.2.2.2.1, H10.out.is.2.2.1⟩
 have hne : Nonempty {w' : World // R2 w.heap.size #[.slice lo1 l1.length lc1, .int .u32 (n1 : Int), .string U1] 40 (w.heap.size + 1) #[.slice lo2 l2.length lc2, .int .u32 (n2 : Int), .string U2] 40 w'} := ⟨⟨_, hS⟩⟩
 refine wp_region_seq (S := R2 w.heap.size #[.slice lo1 l1.length lc1, .int .u32 (n1 : Int), .string U1] 40 (w.heap.size + 1) #[.slice lo2 l2.length lc2, .int .u32 (n2 : Int), .string U2] 40) [(0, false), (1, true), (2, true), (3, true), (5, true), (6, true), (4, false), (7, false), (8, true), (9, true), (10, true), (11, true), (12, true), (13, false), (14, true), (15, true)] (by kernel_rfl) (by kernel_rfl) (by kernel_rfl) (by kernel_rfl) (by rw [hD]; exact hS) ?_
 rw [hD]
 clear hD
 refine seq_come _ rfl (fun KC hK => ?_); go_simp
 refine (first10 D).mono ?_; rintro e w4 ⟨rfl, hb⟩
 have hS4 := hS.below hb
 have H11 := Lib.hid (H10.out.below hb)
 clear hb H10
 go_simp; refine hK.out _ _ hS4 ?_; clear hK KC
 iterate 1 (refine seq_take _ rfl (fun KC hK => ?_); go_simp; (first | refine hK _ ?_ | refine ⟨_, fun _ _ => rfl, hK _ ?_⟩); clear hK KC)
 refine seq_take _ rfl (fun KC hK => ?_); go_simp
 refine ⟨.agg #[.slice lo1 l1.length lc1, .int .u32 (n1 : Int), .string U1], fun a ha => by obtain ⟨p0, p1, p2⟩ := row3 ha.1; simp only [p0, p1, p2, Result.andThen], hK _ ?_⟩
 clear hK KC
 refine seq_take _ rfl (fun KC hK => ?_); go_simp
 refine ⟨.agg #[.slice lo2 l2.length lc2, .int .u32 (n2 : Int), .string U2], fun a ha => by obtain ⟨p0, p1, p2⟩ := row3 ha.2; simp only [p0, p1, p2, Result.andThen], hK _ ?_⟩
 clear hK KC
 refine seq_take _ rfl (fun KC hK => ?_); go_simp
 refine ⟨.agg #[.slice lo1 l1.length lc1, .int .u32 (n1 : Int), .string U1], fun a ha => by obtain ⟨p0, p1, p2⟩ := row3 ha.1; simp only [p0, p1, p2, Result.andThen], hK _ ?_⟩
 clear hK KC
 refine seq_take _ rfl (fun KC hK => ?_); go_simp
 refine ⟨.agg #[.slice lo2 l2.length lc2, .int .u32 (n2 : Int), .string U2], fun a ha => by obtain ⟨p0, p1, p2⟩ := row3 ha.2; simp only [p0, p1, p2, Result.andThen], hK _ ?_⟩
 clear hK KC
 refine seq_come _ rfl (fun KC hK => ?_); go_simp
 refine (rs_same ((l1, n1), u1) ((l2, n2), u2) [.slice lo1 l1.length lc1, .int .u32 (n1 : Int), .string U1] [.slice lo2 l2.length lc2, .int .u32 (n2 : Int), .string U2] _ _ w4 HLIM1.out HLEN1.out ⟨lo1, lc1, by rw [← HU1N.out]; rfl, H11.out.is.2.1⟩ ⟨lo2, lc2, by rw [← HU2N.out]; rfl, H11.out.is.1⟩).mono ?_; rintro e w5 ⟨rfl, hb⟩
 rw [HAL.out]
 have hS5 := hS4.below hb
 have H12 := Lib.hid (H11.out.below hb)
 clear hb H11
 go_simp; refine hK.out _ _ hS5 ?_; clear hK KC
 refine seq_come _ rfl (fun KC hK => ?_); go_simp
 refine (rs_ref ((l1, n1), u1) ((l2, n2), u2) [.slice lo1 l1.length lc1, .int .u32 (n1 : Int), .string U1] [.slice lo2 l2.length lc2, .int .u32 (n2 : Int), .string U2] _ _ w5 HLIM1.out HLEN1.out ⟨lo1, lc1, by rw [← HU1N.out]; rfl, H12.out.is.2.1⟩ ⟨lo2, lc2, by rw [← HU2N.out]; rfl, H12.out.is.1⟩).mono ?_; rintro e w6 ⟨rfl, hb⟩
 rw [HAL.out]
 have hS6 := hS5.below hb
 have H13 := Lib.hid (H12.out.below hb)
 clear hb H12
 go_simp; refine hK.out _ _ hS6 ?_; clear hK KC
 iterate 3 (refine seq_take _ rfl (fun KC hK => ?_); go_simp; (first | refine hK _ ?_ | refine ⟨_, fun _ _ => rfl, hK _ ?_⟩); clear hK KC)
 refine seq_take _ rfl (fun KC hK => ?_); go_simp
 refine ⟨.agg #[.slice lo1 l1.length lc1, .int .u32 (n1 : Int), .string U1], fun a ha => by obtain ⟨p0, p1, p2⟩ := row3 ha.1; simp only [p0, p1, p2, Result.andThen], hK _ ?_⟩
 clear hK KC
 refine seq_take _ rfl (fun KC hK => ?_); go_simp
 refine ⟨.agg #[.slice lo1 l1.length lc1, .int .u32 (n1 : Int), .string U1], fun a ha => by obtain ⟨p0, p1, p2⟩ := row3 ha.1; simp only [p0, p1, p2, Result.andThen], hK _ ?_⟩
 clear hK KC
 refine seq_come _ rfl (fun KC hK => ?_); go_simp
 refine (rs_same ((l1, n1), u1) ((l1, n1), u1) [.slice lo1 l1.length lc1, .int .u32 (n1 : Int), .string U1] [.slice lo1 l1.length lc1, .int .u32 (n1 : Int), .string U1] _ _ w6 HLIM1.out HLEN1.out ⟨lo1, lc1, by rw [← HU1N.out]; rfl, H13.out.is.2.1⟩ ⟨lo1, lc1, by rw [← HU1N.out]; rfl, H13.out.is.2.1⟩).mono ?_; rintro e w7 ⟨rfl, hb⟩
 rw [alike_yes rfl]
 have hS7 := hS6.below hb
 have H14 := Lib.hid (H13.out.below hb)
 clear hb H13
 go_simp; refine hK.out _ _ hS7 ?_; clear hK KC
 iterate 2 (refine seq_take _ rfl (fun KC hK => ?_); go_simp; (first | refine hK _ ?_ | refine ⟨_, fun _ _ => rfl, hK _ ?_⟩); clear hK KC)
 refine seq_done ?_
 clear hne hS hS4 hS5 hS6 hS7
 go_wp2_with fail
 go_ret
 exact ⟨rfl, H14.out.is.2.2.2.2.1⟩
set_option maxRecDepth 1000000 in
set_option maxHeartbeats 16000000 in
theorem rssm_true (x y : (List KV × Nat) × List UInt8) (ca cb : List Value) (P Q : Nat → Prop) (w : World) (hl1 : kslim x.1.1) (hf1 : ksfit x.1.1) (hn1 : x.1.1.length ≤ 9223372036854775807) (hxu1 : x.2.length ≤ 9223372036854775807) (hr1 : RsRel w P x ca) (hl2 : kslim y.1.1) (hf2 : ksfit y.1.1) (hn2 : y.1.1.length ≤ 9223372036854775807) (hxu2 : y.2.length ≤ 9223372036854775807) (hr2 : RsRel w Q y cb) (hal : alike x y = true) :
 Calls Try.prog 7 #[.agg ca.toArray, .agg cb.toArray] w fun e w' => e = .returned (.bool true) ∧ Below w.heap.size w w' := by
 obtain ⟨lo1, lc1, rfl, hk1⟩ := hr1
 obtain ⟨lo2, lc2, rfl, hk2⟩ := hr2
 obtain ⟨⟨l1, n1⟩, u1⟩ := x
 obtain ⟨⟨l2, n2⟩, u2⟩ := y
 dsimp only [strV]
 obtain ⟨U1, eU1⟩ : ∃ X : ByteArray, (⟨u1.toArray⟩ : ByteArray) = X := ⟨_, rfl⟩
 have HU1N := Lib.hid eU1
 obtain ⟨U2, eU2⟩ : ∃ X : ByteArray, (⟨u2.toArray⟩ : ByteArray) = X := ⟨_, rfl⟩
 have HU2N := Lib.hid eU2
 rw [eU1, eU2]
 clear eU1 eU2
 have HAL := Lib.hid hal
 have HLIM1 := Lib.hid hl1
 have HFIT1 := Lib.hid hf1
 have HLEN1 := Lib.hid hn1
 have HXU1 := Lib.hid hxu1
 have HLIM2 := Lib.hid hl2
 have HFIT2 := Lib.hid hf2
 have HLEN2 := Lib.hid hn2
 have HXU2 := Lib.hid hxu2
 obtain ⟨W, hW⟩ : ∃ W, (w.alloc (.cells #[.slice lo1 l1.length lc1, .int .u32 (n1 : Int), .string U1] 40)).alloc (.cells #[.slice lo2 l2.length lc2, .int .u32 (n2 : Int), .string U2] 40) = W := ⟨_, rfl⟩
 have hbw : Below w.heap.size w W := by rw [← hW]; exact below_step (below_new _ _) (below_new _ _)
 have hra : W.heap[w.heap.size]? = some (.cells #[.slice lo1 l1.length lc1, .int .u32 (n1 : Int), .string U1] 40 (0, 0)) := by rw [← hW]; exact (Below.heap_alloc _ _ _ (by simp)).trans (heap_alloc_new w _)
 have hrk : W.heap[w.heap.size + 1]? = some (.cells #[.slice lo2 l2.length lc2, .int .u32 (n2 : Int), .string U2] 40 (0, 0)) := by rw [← hW]; have := heap_alloc_new (w.alloc (.cells #[.slice lo1 l1.length lc1, .int .u32 (n1 : Int), .string U1] 40)) (.cells #[.slice lo2 l2.length lc2, .int .u32 (n2 : Int), .string U2] 40); simpa using this
 have H1 := Lib.hid (Fx.nil W)
 have H2 := Lib.hid (H1.out.base (hbw))
 clear H1
 have H3 := Lib.hid (H2.out.row (hra))
 clear H2
 have H4 := Lib.hid (H3.out.row (hrk))
 clear H3
 have H5 := Lib.hid (H4.out.krels (hk1.below hbw))
 clear H4
 have H6 := Lib.hid (H5.out.krels (hk2.below hbw))
 clear H5
 have HW := Lib.hid hW
 clear hW hbw hra hrk hk1 hk2 hal hl1 hf1 hn1 hxu1 hl2 hf2 hn2 hxu2
 go_enter Try.func7, Try.ntmps7
 go_wp2_with fail
 rw [HW.out]
 refine (first10 W).mono ?_; rintro e w1 ⟨rfl, hb⟩
 have H7 := Lib.hid (H6.out.below hb)
 clear hb H6
 obtain ⟨xa0, xa1, xa2⟩ := row3 (H7.out.is.2.2.2.1)
 go_wp2_with fail
 refine (rs_room ((l1, n1), u1) [.slice lo1 l1.length lc1, .int .u32 (n1 : Int), .string U1] _ w1 12000 HLIM1.out HFIT1.out HLEN1.out HXU1.out ⟨lo1, lc1, by rw [← HU1N.out]; rfl, H7.out.is.2.1⟩ (by omega)).mono ?_; intro e w2 hpost
 obtain ⟨hb, s1, rfl, _⟩ := hpost
 clear xa0 xa1 xa2
 have H8 := Lib.hid (H7.out.below hb)
 clear hb H7
 by_cases hr1 : s1 < 0
 case pos =>
  have d1 : decide (s1 < 0) = true := decide_eq_true hr1
  clear hr1
  go_wp2_with fail
  refine (first10 w2).mono ?_; rintro e w9 ⟨rfl, hb⟩
  have H9 := Lib.hid (H8.out.below hb)
  clear hb H8
  go_wp2_with fail
  go_ret
  exact ⟨rfl, H9.out.is.2.2.2.2.1⟩
 have d1 : decide (s1 < 0) = false := decide_eq_false hr1
 clear hr1
 obtain ⟨xb0, xb1, xb2⟩ := row3 (H8.out.is.2.2.1)
 go_wp2_with fail
 refine (rs_room ((l2, n2), u2) [.slice lo2 l2.length lc2, .int .u32 (n2 : Int), .string U2] _ w2 12000 HLIM2.out HFIT2.out HLEN2.out HXU2.out ⟨lo2, lc2, by rw [← HU2N.out]; rfl, H8.out.is.1⟩ (by omega)).mono ?_; intro e w3 hpost
 obtain ⟨hb, s2, rfl, _⟩ := hpost
 clear xb0 xb1 xb2
 have H9 := Lib.hid (H8.out.below hb)
 clear hb H8
 by_cases hr2 : s2 < 0
 case pos =>
  have d2 : decide (s2 < 0) = true := decide_eq_true hr2
  clear hr2
  go_wp2_with fail
  refine (first10 w3).mono ?_; rintro e w9 ⟨rfl, hb⟩
  have H10 := Lib.hid (H9.out.below hb)
  clear hb H9
  go_wp2_with fail
  go_ret
  exact ⟨rfl, H10.out.is.2.2.2.2.1⟩
 have d2 : decide (s2 < 0) = false := decide_eq_false hr2
 clear hr2
 go_wp2_with fail
 obtain ⟨D, hD⟩ : ∃ D, w3.drew = D := ⟨_, rfl⟩
 have hb : Below w3.heap.size w3 D := by rw [← hD]; exact (Below.refl _ _).drew
 have H10 := Lib.hid (H9.out.below hb)
 clear hb H9
 have hS : R2 w.heap.size #[.slice lo1 l1.length lc1, .int .u32 (n1 : Int), .string U1] 40 (w.heap.size + 1) #[.slice lo2 l2.length lc2, .int .u32 (n2 : Int), .string U2] 40 D := ⟨H10.out.is.2.2.2.1, H10.out.is.2.2.1⟩
 have hne : Nonempty {w' : World // R2 w.heap.size #[.slice lo1 l1.length lc1, .int .u32 (n1 : Int), .string U1] 40 (w.heap.size + 1) #[.slice lo2 l2.length lc2, .int .u32 (n2 : Int), .string U2] 40 w'} := ⟨⟨_, hS⟩⟩
 refine wp_region_seq (S := R2 w.heap.size #[.slice lo1 l1.length lc1, .int .u32 (n1 : Int), .string U1] 40 (w.heap.size + 1) #[.slice lo2 l2.length lc2, .int .u32 (n2 : Int), .string U2] 40) [(0, false), (1, true), (2, true), (3, true), (5, true), (6, true), (4, false), (7, false), (8, true), (9, true), (10, true), (11, true), (12, true), (13, false), (14, true), (15, true)] (by kernel_rfl) (by kernel_rfl) (by kernel_rfl) (by kernel_rfl) (by rw [hD]; exact hS) ?_
 rw [hD]
 clear hD
 refine seq_come _ rfl (fun KC hK => ?_); go_simp
 refine (first10 D).mono ?_; rintro e w4 ⟨rfl, hb⟩
 have hS4 := hS.below hb
 have H11 := Lib.hid (H10.out.below hb)
 clear hb H10
 go_simp; refine hK.out _ _ hS4 ?_; clear hK KC
 iterate 1 (refine seq_take _ rfl (fun KC hK => ?_); go_simp; (first | refine hK _ ?_ | refine ⟨_, fun _ _ => rfl, hK _ ?_⟩); clear hK KC)
 refine seq_take _ rfl (fun KC hK => ?_); go_simp
 refine ⟨.agg #[.slice lo1 l1.length lc1, .int .u32 (n1 : Int), .string U1], fun a ha => by obtain ⟨p0, p1, p2⟩ := row3 ha.1; simp only [p0, p1, p2, Result.andThen], hK _ ?_⟩
 clear hK KC
 refine seq_take _ rfl (fun KC hK => ?_); go_simp
 refine ⟨.agg #[.slice lo2 l2.length lc2, .int .u32 (n2 : Int), .string U2], fun a ha => by obtain ⟨p0, p1, p2⟩ := row3 ha.2; simp only [p0, p1, p2, Result.andThen], hK _ ?_⟩
 clear hK KC
 refine seq_take _ rfl (fun KC hK => ?_); go_simp
 refine ⟨.agg #[.slice lo1 l1.length lc1, .int .u32 (n1 : Int), .string U1], fun a ha => by obtain ⟨p0, p1, p2⟩ := row3 ha.1; simp only [p0, p1, p2, Result.andThen], hK _ ?_⟩
 clear hK KC
 refine seq_take _ rfl (fun KC hK => ?_); go_simp
 refine ⟨.agg #[.slice lo2 l2.length lc2, .int .u32 (n2 : Int), .string U2], fun a ha => by obtain ⟨p0, p1, p2⟩ := row3 ha.2; simp only [p0, p1, p2, Result.andThen], hK _ ?_⟩
 clear hK KC
 refine seq_come _ rfl (fun KC hK => ?_); go_simp
 refine (rs_same ((l1, n1), u1) ((l2, n2), u2) [.slice lo1 l1.length lc1, .int .u32 (n1 : Int), .string U1] [.slice lo2 l2.length lc2, .int .u32 (n2 : Int), .string U2] _ _ w4 HLIM1.out HLEN1.out ⟨lo1, lc1, by rw [← HU1N.out]; rfl, H11.out.is.2.1⟩ ⟨lo2, lc2, by rw [← HU2N.out]; rfl, H11.out.is.1⟩).mono ?_; rintro e w5 ⟨rfl, hb⟩
 rw [HAL.out]
 have hS5 := hS4.below hb
 have H12 := Lib.hid (H11.out.below hb)
 clear hb H11
 go_simp; refine hK.out _ _ hS5 ?_; clear hK KC
 refine seq_come _ rfl (fun KC hK => ?_); go_simp
 refine (rs_ref ((l1, n1), u1) ((l2, n2), u2) [.slice lo1 l1.length lc1, .int .u32 (n1 : Int), .string U1] [.slice lo2 l2.length lc2, .int .u32 (n2 : Int), .string U2] _ _ w5 HLIM1.out HLEN1.out ⟨lo1, lc1, by rw [← HU1N.out]; rfl, H12.out.is.2.1⟩ ⟨lo2, lc2, by rw [← HU2N.out]; rfl, H12.out.is.1⟩).mono ?_; rintro e w6 ⟨rfl, hb⟩
 rw [HAL.out]
 have hS6 := hS5.below hb
 have H13 := Lib.hid (H12.out.below hb)
 clear hb H12
 go_simp; refine hK.out _ _ hS6 ?_; clear hK KC
 iterate 3 (refine seq_take _ rfl (fun KC hK => ?_); go_simp; (first | refine hK _ ?_ | refine ⟨_, fun _ _ => rfl, hK _ ?_⟩); clear hK KC)
 refine seq_take _ rfl (fun KC hK => ?_); go_simp
 refine ⟨.agg #[.slice lo1 l1.length lc1, .int .u32 (n1 : Int), .string U1], fun a ha => by obtain ⟨p0, p1, p2⟩ := row3 ha.1; simp only [p0, p1, p2, Result.andThen], hK _ ?_⟩
 clear hK KC
 refine seq_take _ rfl (fun KC hK => ?_); go_simp
 refine ⟨.agg #[.slice lo1 l1.length lc1, .int .u32 (n1 : Int), .string U1], fun a ha => by obtain ⟨p0, p1, p2⟩ := row3 ha.1; simp only [p0, p1, p2, Result.andThen], hK _ ?_⟩
 clear hK KC
 refine seq_come _ rfl (fun KC hK => ?_); go_simp
 refine (rs_same ((l1, n1), u1) ((l1, n1), u1) [.slice lo1 l1.length lc1, .int .u32 (n1 : Int), .string U1] [.slice lo1 l1.length lc1, .int .u32 (n1 : Int), .string U1] _ _ w6 HLIM1.out HLEN1.out ⟨lo1, lc1, by rw [← HU1N.out]; rfl, H13.out.is.2.1⟩ ⟨lo1, lc1, by rw [← HU1N.out]; rfl, H13.out.is.2.1⟩).mono ?_; rintro e w7 ⟨rfl, hb⟩
 rw [alike_yes rfl]
 have hS7 := hS6.below hb
 have H14 := Lib.hid (H13.out.below hb)
 clear hb H13
 go_simp; refine hK.out _ _ hS7 ?_; clear hK KC
 iterate 2 (refine seq_take _ rfl (fun KC hK => ?_); go_simp; (first | refine hK _ ?_ | refine ⟨_, fun _ _ => rfl, hK _ ?_⟩); clear hK KC)
 refine seq_done ?_
 clear hne hS hS4 hS5 hS6 hS7
 go_wp2_with fail
 go_ret
 exact ⟨rfl, H14.out.is.2.2.2.2.1⟩
set_option maxRecDepth 1000000 in
set_option maxHeartbeats 16000000 in
theorem rssm_any (x y : (List KV × Nat) × List UInt8) (ca cb : List Value) (P Q : Nat → Prop) (w : World) (hl1 : kslim x.1.1) (hf1 : ksfit x.1.1) (hn1 : x.1.1.length ≤ 9223372036854775807) (hxu1 : x.2.length ≤ 9223372036854775807) (hr1 : RsRel w P x ca) (hl2 : kslim y.1.1) (hf2 : ksfit y.1.1) (hn2 : y.1.1.length ≤ 9223372036854775807) (hxu2 : y.2.length ≤ 9223372036854775807) (hr2 : RsRel w Q y cb) :
 Calls Try.prog 7 #[.agg ca.toArray, .agg cb.toArray] w fun e w' => e = .returned (.bool true) ∧ Below w.heap.size w w' := by
 cases hal : alike x y with
 | false => exact rssm_false x y ca cb P Q w hl1 hf1 hn1 hxu1 hr1 hl2 hf2 hn2 hxu2 hr2 hal
 | true => exact rssm_true x y ca cb P Q w hl1 hf1 hn1 hxu1 hr1 hl2 hf2 hn2 hxu2 hr2 hal
set_option maxRecDepth 1000000 in
set_option maxHeartbeats 16000000 in
theorem scsm_false (x y : (List UInt8 × List UInt8 × List KV × Nat) × List UInt8) (ca cb : List Value) (P Q : Nat → Prop) (w : World) (hl1 : kslim x.1.2.2.1) (hf1 : ksfit x.1.2.2.1) (hn1 : x.1.2.2.1.length ≤ 9223372036854775807) (hxa1 : x.1.1.length ≤ 9223372036854775807) (hxb1 : x.1.2.1.length ≤ 9223372036854775807) (hxu1 : x.2.length ≤ 9223372036854775807) (hr1 : ScRel w P x ca) (hl2 : kslim y.1.2.2.1) (hf2 : ksfit y.1.2.2.1) (hn2 : y.1.2.2.1.length ≤ 9223372036854775807) (hxa2 : y.1.1.length ≤ 9223372036854775807) (hxb2 : y.1.2.1.length ≤ 9223372036854775807) (hxu2 : y.2.length ≤ 9223372036854775807) (hr2 : ScRel w Q y cb) (hal : alike x y = false) :
 Calls Try.prog 3 #[.agg ca.toArray, .agg cb.toArray] w fun e w' => e = .returned (.bool true) ∧ Below w.heap.size w w' := by
 obtain ⟨lo1, lc1, rfl, hk1⟩ := hr1
 obtain ⟨lo2, lc2, rfl, hk2⟩ := hr2
 obtain ⟨⟨a1, b1, l1, n1⟩, u1⟩ := x
 obtain ⟨⟨a2, b2, l2, n2⟩, u2⟩ := y
 dsimp only [strV]
 obtain ⟨A1, eA1⟩ : ∃ X : ByteArray, (⟨a1.toArray⟩ : ByteArray) = X := ⟨_, rfl⟩
 have HA1N := Lib.hid eA1
 obtain ⟨B1, eB1⟩ : ∃ X : ByteArray, (⟨b1.toArray⟩ : ByteArray) = X := ⟨_, rfl⟩
 have HB1N := Lib.hid eB1
 obtain ⟨U1, eU1⟩ : ∃ X : ByteArray, (⟨u1.toArray⟩ : ByteArray) = X := ⟨_, rfl⟩
 have HU1N := Lib.hid eU1
 obtain ⟨A2, eA2⟩ : ∃ X : ByteArray, (⟨a2.toArray⟩ : ByteArray) = X := ⟨_, rfl⟩
 have HA2N := Lib.hid eA2
 obtain ⟨B2, eB2⟩ : ∃ X : ByteArray, (⟨b2.toArray⟩ : ByteArray) = X := ⟨_, rfl⟩
 have HB2N := Lib.hid eB2
 obtain ⟨U2, eU2⟩ : ∃ X : ByteArray, (⟨u2.toArray⟩ : ByteArray) = X := ⟨_, rfl⟩
 have HU2N := Lib.hid eU2
 rw [eA1, eB1, eU1, eA2, eB2, eU2]
 clear eA1 eB1 eU1 eA2 eB2 eU2
 have HAL := Lib.hid hal
 have HLIM1 := Lib.hid hl1
 have HFIT1 := Lib.hid hf1
 have HLEN1 := Lib.hid hn1
 have HXA1 := Lib.hid hxa1
 have HXB1 := Lib.hid hxb1
 have HXU1 := Lib.hid hxu1
 have HLIM2 := Lib.hid hl2
 have HFIT2 := Lib.hid hf2
 have HLEN2 := Lib.hid hn2
 have HXA2 := Lib.hid hxa2
 have HXB2 := Lib.hid hxb2
 have HXU2 := Lib.hid hxu2
 obtain ⟨W, hW⟩ : ∃ W, (w.alloc (.cells #[.string A1, .string B1, .slice lo1 l1.length lc1, .int .u32 (n1 : Int), .string U1] 25)).alloc (.cells #[.string A2, .string B2, .slice lo2 l2.length lc2, .int .u32 (n2 : Int), .string U2] 25) = W := ⟨_, rfl⟩
 have hbw : Below w.heap.size w W := by rw [← hW]; exact below_step (below_new _ _) (below_new _ _)
 have hra : W.heap[w.heap.size]? = some (.cells #[.string A1, .string B1, .slice lo1 l1.length lc1, .int .u32 (n1 : Int), .string U1] 25 (0, 0)) := by rw [← hW]; exact (Below.heap_alloc _ _ _ (by simp)).trans (heap_alloc_new w _)
 have hrk : W.heap[w.heap.size + 1]? = some (.cells #[.string A2, .string B2, .slice lo2 l2.length lc2, .int .u32 (n2 : Int), .string U2] 25 (0, 0)) := by rw [← hW]; have := heap_alloc_new (w.alloc (.cells #[.string A1, .string B1, .slice lo1 l1.length lc1, .int .u32 (n1 : Int), .string U1] 25)) (.cells #[.string A2, .string B2, .slice lo2 l2.length lc2, .int .u32 (n2 : Int), .string U2] 25); simpa using this
 have H1 := Lib.hid (Fx.nil W)
 have H2 := Lib.hid (H1.out.base (hbw))
 clear H1
 have H3 := Lib.hid (H2.out.row (hra))
 clear H2
 have H4 := Lib.hid (H3.out.row (hrk))
 clear H3
 have H5 := Lib.hid (H4.out.krels (hk1.below hbw))
 clear H4
 have H6 := Lib.hid (H5.out.krels (hk2.below hbw))
 clear H5
 have HW := Lib.hid hW
 clear hW hbw hra hrk hk1 hk2 hal hl1 hf1 hn1 hxa1 hxb1 hxu1 hl2 hf2 hn2 hxa2 hxb2 hxu2
 go_enter Try.func3, Try.ntmps3
 go_wp2_with fail
 rw [HW.out]
 refine (first10 W).mono ?_; rintro e w1 ⟨rfl, hb⟩
 have H7 := Lib.hid (H6.out.below hb)
 clear hb H6
 obtain ⟨xa0, xa1, xa2, xa3, xa4⟩ := row5 (H7.out.is.2.2.2.1)
 go_wp2_with fail
 refine (sc_room ((a1, b1, l1, n1), u1) [.string A1, .string B1, .slice lo1 l1.length lc1, .int .u32 (n1 : Int), .string U1] _ w1 12000 HLIM1.out HFIT1.out HLEN1.out HXA1.out HXB1.out HXU1.out ⟨lo1, lc1, by rw [← HA1N.out, ← HB1N.out, ← HU1N.out]; rfl, H7.out.is.2.1⟩ (by omega)).mono ?_; intro e w2 hpost
 obtain ⟨hb, s1, rfl, _⟩ := hpost
 clear xa0 xa1 xa2 xa3 xa4
 have H8 := Lib.hid (H7.out.below hb)
 clear hb H7
 by_cases hr1 : s1 < 0
 case pos =>
  have d1 : decide (s1 < 0) = true := decide_eq_true hr1
  clear hr1
  go_wp2_with fail
  refine (first10 w2).mono ?_; rintro e w9 ⟨rfl, hb⟩
  have H9 := Lib.hid (H8.out.below hb)
  clear hb H8
  go_wp2_with fail
  go_ret
  exact ⟨rfl, H9.out.is.2.2.2.2.1⟩
 have d1 : decide (s1 < 0) = false := decide_eq_false hr1
 clear hr1
 obtain ⟨xb0, xb1, xb2, xb3, xb4⟩ := row5 (H8.out.is.2.2.1)
 go_wp2_with fail
 refine (sc_room ((a2, b2, l2, n2), u2) [.string A2, .string B2, .slice lo2 l2.length lc2, .int .u32 (n2 : Int), .string U2] _ w2 12000 HLIM2.out HFIT2.out HLEN2.out HXA2.out HXB2.out HXU2.out ⟨lo2, lc2, by rw [← HA2N.out, ← HB2N.out, ← HU2N.out]; rfl, H8.out.is.1⟩ (by omega)).mono ?_; intro e w3 hpost
 obtain ⟨hb, s2, rfl, _⟩ := hpost
 clear xb0 xb1 xb2 xb3 xb4
 have H9 := Lib.hid (H8.out.below hb)
 clear hb H8
 by_cases hr2 : s2 < 0
 case pos =>
  have d2 : decide (s2 < 0) = true := decide_eq_true hr2
  clear hr2
  go_wp2_with fail
  refine (first10 w3).mono ?_; rintro e w9 ⟨rfl, hb⟩
  have H10 := Lib.hid (H9.out.below hb)
  clear hb H9
  go_wp2_with fail
  go_ret
  exact ⟨rfl, H10.out.is.2.2.2.2.1⟩
 have d2 : decide (s2 < 0) = false := decide_eq_false hr2
 clear hr2
 go_wp2_with fail
 obtain ⟨D, hD⟩ : ∃ D, w3.drew = D := ⟨_, rfl⟩
 have hb : Below w3.heap.size w3 D := by rw [← hD]; exact (Below.refl _ _).drew
 have H10 := Lib.hid (H9.out.below hb)
 clear hb H9
 have hS : R2 w.heap.size #[.string A1, .string B1, .slice lo1 l1.length lc1, .int .u32 (n1 : Int), .string U1] 25 (w.heap.size + 1) #[.string A2, .string B2, .slice lo2 l2.length lc2, .int .u32 (n2 : Int), .string U2] 25 D := ⟨H10.out.is.2.2.2.1, H10.out.is.2.2.1⟩
 have hne : Nonempty {w' : World // R2 w.heap.size #[.string A1, .string B1, .slice lo1 l1.length lc1, .int .u32 (n1 : Int), .string U1] 25 (w.heap.size + 1) #[.string A2, .string B2, .slice lo2 l2.length lc2, .int .u32 (n2 : Int), .string U2] 25 w'} := ⟨⟨_, hS⟩⟩
 refine wp_region_seq (S := R2 w.heap.size #[.string A1, .string B1, .slice lo1 l1.length lc1, .int .u32 (n1 : Int), .string U1] 25 (w.heap.size + 1) #[.string A2, .string B2, .slice lo2 l2.length lc2, .int .u32 (n2 : Int), .string U2] 25) [(0, false), (1, true), (2, true), (3, true), (5, true), (6, true), (4, false), (7, false), (8, true), (9, true), (10, true), (11, true), (12, true), (13, false), (14, true), (15, true)] (by kernel_rfl) (by kernel_rfl) (by kernel_rfl) (by kernel_rfl) (by rw [hD]; exact hS) ?_
 rw [hD]
 clear hD
 refine seq_come _ rfl (fun KC hK => ?_); go_simp
 refine (first10 D).mono ?_; rintro e w4 ⟨rfl, hb⟩
 have hS4 := hS.below hb
 have H11 := Lib.hid (H10.out.below hb)
 clear hb H10
 go_simp; refine hK.out _ _ hS4 ?_; clear hK KC
 iterate 1 (refine seq_take _ rfl (fun KC hK => ?_); go_simp; (first | refine hK _ ?_ | refine ⟨_, fun _ _ => rfl, hK _ ?_⟩); clear hK KC)
 refine seq_take _ rfl (fun KC hK => ?_); go_simp
 refine ⟨.agg #[.string A1, .string B1, .slice lo1 l1.length lc1, .int .u32 (n1 : Int), .string U1], fun a ha => by obtain ⟨p0, p1, p2, p3, p4⟩ := row5 ha.1; simp only [p0, p1, p2, p3, p4, Result.andThen], hK _ ?_⟩
 clear hK KC
 refine seq_take _ rfl (fun KC hK => ?_); go_simp
 refine ⟨.agg #[.string A2, .string B2, .slice lo2 l2.length lc2, .int .u32 (n2 : Int), .string U2], fun a ha => by obtain ⟨p0, p1, p2, p3, p4⟩ := row5 ha.2; simp only [p0, p1, p2, p3, p4, Result.andThen], hK _ ?_⟩
 clear hK KC
 refine seq_take _ rfl (fun KC hK => ?_); go_simp
 refine ⟨.agg #[.string A1, .string B1, .slice lo1 l1.length lc1, .int .u32 (n1 : Int), .string U1], fun a ha => by obtain ⟨p0, p1, p2, p3, p4⟩ := row5 ha.1; simp only [p0, p1, p2, p3, p4, Result.andThen], hK _ ?_⟩
 clear hK KC
 refine seq_take _ rfl (fun KC hK => ?_); go_simp
 refine ⟨.agg #[.string A2, .string B2, .slice lo2 l2.length lc2, .int .u32 (n2 : Int), .string U2], fun a ha => by obtain ⟨p0, p1, p2, p3, p4⟩ := row5 ha.2; simp only [p0, p1, p2, p3, p4, Result.andThen], hK _ ?_⟩
 clear hK KC
 refine seq_come _ rfl (fun KC hK => ?_); go_simp
 refine (sc_same ((a1, b1, l1, n1), u1) ((a2, b2, l2, n2), u2) [.string A1, .string B1, .slice lo1 l1.length lc1, .int .u32 (n1 : Int), .string U1] [.string A2, .string B2, .slice lo2 l2.length lc2, .int .u32 (n2 : Int), .string U2] _ _ w4 HLIM1.out HLEN1.out ⟨lo1, lc1, by rw [← HA1N.out, ← HB1N.out, ← HU1N.out]; rfl, H11.out.is.2.1⟩ ⟨lo2, lc2, by rw [← HA2N.out, ← HB2N.out, ← HU2N.out]; rfl, H11.out.is.1⟩).mono ?_; rintro e w5 ⟨rfl, hb⟩
 rw [HAL.out]
 have hS5 := hS4.below hb
 have H12 := Lib.hid (H11.out.below hb)
 clear hb H11
 go_simp; refine hK.out _ _ hS5 ?_; clear hK KC
 refine seq_come _ rfl (fun KC hK => ?_); go_simp
 refine (sc_ref ((a1, b1, l1, n1), u1) ((a2, b2, l2, n2), u2) [.string A1, .string B1, .slice lo1 l1.length lc1, .int .u32 (n1 : Int), .string U1] [.string A2, .string B2, .slice lo2 l2.length lc2, .int .u32 (n2 : Int), .string U2] _ _ w5 HLIM1.out HLEN1.out ⟨lo1, lc1, by rw [← HA1N.out, ← HB1N.out, ← HU1N.out]; rfl, H12.out.is.2.1⟩ ⟨lo2, lc2, by rw [← HA2N.out, ← HB2N.out, ← HU2N.out]; rfl, H12.out.is.1⟩).mono ?_; rintro e w6 ⟨rfl, hb⟩
 rw [HAL.out]
 have hS6 := hS5.below hb
 have H13 := Lib.hid (H12.out.below hb)
 clear hb H12
 go_simp; refine hK.out _ _ hS6 ?_; clear hK KC
 iterate 3 (refine seq_take _ rfl (fun KC hK => ?_); go_simp; (first | refine hK _ ?_ | refine ⟨_, fun _ _ => rfl, hK _ ?_⟩); clear hK KC)
 refine seq_take _ rfl (fun KC hK => ?_); go_simp
 refine ⟨.agg #[.string A1, .string B1, .slice lo1 l1.length lc1, .int .u32 (n1 : Int), .string U1], fun a ha => by obtain ⟨p0, p1, p2, p3, p4⟩ := row5 ha.1; simp only [p0, p1, p2, p3, p4, Result.andThen], hK _ ?_⟩
 clear hK KC
 refine seq_take _ rfl (fun KC hK => ?_); go_simp
 refine ⟨.agg #[.string A1, .string B1, .slice lo1 l1.length lc1, .int .u32 (n1 : Int), .string U1], fun a ha => by obtain ⟨p0, p1, p2, p3, p4⟩ := row5 ha.1; simp only [p0, p1, p2, p3, p4, Result.andThen], hK _ ?_⟩
 clear hK KC
 refine seq_come _ rfl (fun KC hK => ?_); go_simp
 refine (sc_same ((a1, b1, l1, n1), u1) ((a1, b1, l1, n1), u1) [.string A1, .string B1, .slice lo1 l1.length lc1, .int .u32 (n1 : Int), .string U1] [.string A1, .string B1, .slice lo1 l1.length lc1, .int .u32 (n1 : Int), .string U1] _ _ w6 HLIM1.out HLEN1.out ⟨lo1, lc1, by rw [← HA1N.out, ← HB1N.out, ← HU1N.out]; rfl, H13.out.is.2.1⟩ ⟨lo1, lc1, by rw [← HA1N.out, ← HB1N.out, ← HU1N.out]; rfl, H13.out.is.2.1⟩).mono ?_; rintro e w7 ⟨rfl, hb⟩
 rw [alike_yes rfl]
 have hS7 := hS6.below hb
 have H14 := Lib.hid (H13.out.below hb)
 clear hb H13
 go_simp; refine hK.out _ _ hS7 ?_; clear hK KC
 iterate 2 (refine seq_take _ rfl (fun KC hK => ?_); go_simp; (first | refine hK _ ?_ | refine ⟨_, fun _ _ => rfl, hK _ ?_⟩); clear hK KC)
 refine seq_done ?_
 clear hne hS hS4 hS5 hS6 hS7
 go_wp2_with fail
 go_ret
 exact ⟨rfl, H14.out.is.2.2.2.2.1⟩
set_option maxRecDepth 1000000 in
set_option maxHeartbeats 16000000 in
theorem scsm_true (x y : (List UInt8 × List UInt8 × List KV × Nat) × List UInt8) (ca cb : List Value) (P Q : Nat → Prop) (w : World) (hl1 : kslim x.1.2.2.1) (hf1 : ksfit x.1.2.2.1) (hn1 : x.1.2.2.1.length ≤ 9223372036854775807) (hxa1 : x.1.1.length ≤ 9223372036854775807) (hxb1 : x.1.2.1.length ≤ 9223372036854775807) (hxu1 : x.2.length ≤ 9223372036854775807) (hr1 : ScRel w P x ca) (hl2 : kslim y.1.2.2.1) (hf2 : ksfit y.1.2.2.1) (hn2 : y.1.2.2.1.length ≤ 9223372036854775807) (hxa2 : y.1.1.length ≤ 9223372036854775807) (hxb2 : y.1.2.1.length ≤ 9223372036854775807) (hxu2 : y.2.length ≤ 9223372036854775807) (hr2 : ScRel w Q y cb) (hal : alike x y = true) :
 Calls Try.prog 3 #[.agg ca.toArray, .agg cb.toArray] w fun e w' => e = .returned (.bool true) ∧ Below w.heap.size w w' := by
 obtain ⟨lo1, lc1, rfl, hk1⟩ := hr1
 obtain ⟨lo2, lc2, rfl, hk2⟩ := hr2
 obtain ⟨⟨a1, b1, l1, n1⟩, u1⟩ := x
 obtain ⟨⟨a2, b2, l2, n2⟩, u2⟩ := y
 dsimp only [strV]
 obtain ⟨A1, eA1⟩ : ∃ X : ByteArray, (⟨a1.toArray⟩ : ByteArray) = X := ⟨_, rfl⟩
 have HA1N := Lib.hid eA1
 obtain ⟨B1, eB1⟩ : ∃ X : ByteArray, (⟨b1.toArray⟩ : ByteArray) = X := ⟨_, rfl⟩
 have HB1N := Lib.hid eB1
 obtain ⟨U1, eU1⟩ : ∃ X : ByteArray, (⟨u1.toArray⟩ : ByteArray) = X := ⟨_, rfl⟩
 have HU1N := Lib.hid eU1
 obtain ⟨A2, eA2⟩ : ∃ X : ByteArray, (⟨a2.toArray⟩ : ByteArray) = X := ⟨_, rfl⟩
 have HA2N := Lib.hid eA2
 obtain ⟨B2, eB2⟩ : ∃ X : ByteArray, (⟨b2.toArray⟩ : ByteArray) = X := ⟨_, rfl⟩
 have HB2N := Lib.hid eB2
 obtain ⟨U2, eU2⟩ : ∃ X : ByteArray, (⟨u2.toArray⟩ : ByteArray) = X := ⟨_, rfl⟩
 have HU2N := Lib.hid eU2
 rw [eA1, eB1, eU1, eA2, eB2, eU2]
 clear eA1 eB1 eU1 eA2 eB2 eU2
 have HAL := Lib.hid hal
 have HLIM1 := Lib.hid hl1
 have HFIT1 := Lib.hid hf1
 have HLEN1 := Lib.hid hn1
 have HXA1 := Lib.hid hxa1
 have HXB1 := Lib.hid hxb1
 have HXU1 := Lib.hid hxu1
 have HLIM2 := Lib.hid hl2
 have HFIT2 := Lib.hid hf2
 have HLEN2 := Lib.hid hn2
 have HXA2 := Lib.hid hxa2
 have HXB2 := Lib.hid hxb2
 have HXU2 := Lib.hid hxu2
 obtain ⟨W, hW⟩ : ∃ W, (w.alloc (.cells #[.string A1, .string B1, .slice lo1 l1.length lc1, .int .u32 (n1 : Int), .string U1] 25)).alloc (.cells #[.string A2, .string B2, .slice lo2 l2.length lc2, .int .u32 (n2 : Int), .string U2] 25) = W := ⟨_, rfl⟩
 have hbw : Below w.heap.size w W := by rw [← hW]; exact below_step (below_new _ _) (below_new _ _)
 have hra : W.heap[w.heap.size]? = some (.cells #[.string A1, .string B1, .slice lo1 l1.length lc1, .int .u32 (n1 : Int), .string U1] 25 (0, 0)) := by rw [← hW]; exact (Below.heap_alloc _ _ _ (by simp)).trans (heap_alloc_new w _)
 have hrk : W.heap[w.heap.size + 1]? = some (.cells #[.string A2, .string B2, .slice lo2 l2.length lc2, .int .u32 (n2 : Int), .string U2] 25 (0, 0)) := by rw [← hW]; have := heap_alloc_new (w.alloc (.cells #[.string A1, .string B1, .slice lo1 l1.length lc1, .int .u32 (n1 : Int), .string U1] 25)) (.cells #[.string A2, .string B2, .slice lo2 l2.length lc2, .int .u32 (n2 : Int), .string U2] 25); simpa using this
 have H1 := Lib.hid (Fx.nil W)
 have H2 := Lib.hid (H1.out.base (hbw))
 clear H1
 have H3 := Lib.hid (H2.out.row (hra))
 clear H2
 have H4 := Lib.hid (H3.out.row (hrk))
 clear H3
 have H5 := Lib.hid (H4.out.krels (hk1.below hbw))
 clear H4
 have H6 := Lib.hid (H5.out.krels (hk2.below hbw))
 clear H5
 have HW := Lib.hid hW
 clear hW hbw hra hrk hk1 hk2 hal hl1 hf1 hn1 hxa1 hxb1 hxu1 hl2 hf2 hn2 hxa2 hxb2 hxu2
 go_enter Try.func3, Try.ntmps3
 go_wp2_with fail
 rw [HW.out]
 refine (first10 W).mono ?_; rintro e w1 ⟨rfl, hb⟩
 have H7 := Lib.hid (H6.out.below hb)
 clear hb H6
 obtain ⟨xa0, xa1, xa2, xa3, xa4⟩ := row5 (H7.out.is.2.2.2.1)
 go_wp2_with fail
 refine (sc_room ((a1, b1, l1, n1), u1) [.string A1, .string B1, .slice lo1 l1.length lc1, .int .u32 (n1 : Int), .string U1] _ w1 12000 HLIM1.out HFIT1.out HLEN1.out HXA1.out HXB1.out HXU1.out ⟨lo1, lc1, by rw [← HA1N.out, ← HB1N.out, ← HU1N.out]; rfl, H7.out.is.2.1⟩ (by omega)).mono ?_; intro e w2 hpost
 obtain ⟨hb, s1, rfl, _⟩ := hpost
 clear xa0 xa1 xa2 xa3 xa4
 have H8 := Lib.hid (H7.out.below hb)
 clear hb H7
 by_cases hr1 : s1 < 0
 case pos =>
  have d1 : decide (s1 < 0) = true := decide_eq_true hr1
  clear hr1
  go_wp2_with fail
  refine (first10 w2).mono ?_; rintro e w9 ⟨rfl, hb⟩
  have H9 := Lib.hid (H8.out.below hb)
  clear hb H8
  go_wp2_with fail
  go_ret
  exact ⟨rfl, H9.out.is.2.2.2.2.1⟩
 have d1 : decide (s1 < 0) = false := decide_eq_false hr1
 clear hr1
 obtain ⟨xb0, xb1, xb2, xb3, xb4⟩ := row5 (H8.out.is.2.2.1)
 go_wp2_with fail
 refine (sc_room ((a2, b2, l2, n2), u2) [.string A2, .string B2, .slice lo2 l2.length lc2, .int .u32 (n2 : Int), .string U2] _ w2 12000 HLIM2.out HFIT2.out HLEN2.out HXA2.out HXB2.out HXU2.out ⟨lo2, lc2, by rw [← HA2N.out, ← HB2N.out, ← HU2N.out]; rfl, H8.out.is.1⟩ (by omega)).mono ?_; intro e w3 hpost
 obtain ⟨hb, s2, rfl, _⟩ := hpost
 clear xb0 xb1 xb2 xb3 xb4
 have H9 := Lib.hid (H8.out.below hb)
 clear hb H8
 by_cases hr2 : s2 < 0
 case pos =>
  have d2 : decide (s2 < 0) = true := decide_eq_true hr2
  clear hr2
  go_wp2_with fail
  refine (first10 w3).mono ?_; rintro e w9 ⟨rfl, hb⟩
  have H10 := Lib.hid (H9.out.below hb)
  clear hb H9
  go_wp2_with fail
  go_ret
  exact ⟨rfl, H10.out.is.2.2.2.2.1⟩
 have d2 : decide (s2 < 0) = false := decide_eq_false hr2
 clear hr2
 go_wp2_with fail
 obtain ⟨D, hD⟩ : ∃ D, w3.drew = D := ⟨_, rfl⟩
 have hb : Below w3.heap.size w3 D := by rw [← hD]; exact (Below.refl _ _).drew
 have H10 := Lib.hid (H9.out.below hb)
 clear hb H9
 have hS : R2 w.heap.size #[.string A1, .string B1, .slice lo1 l1.length lc1, .int .u32 (n1 : Int), .string U1] 25 (w.heap.size + 1) #[.string A2, .string B2, .slice lo2 l2.length lc2, .int .u32 (n2 : Int), .string U2] 25 D := ⟨H10.out.is.2.2.2.1, H10.out.is.2.2.1⟩
 have hne : Nonempty {w' : World // R2 w.heap.size #[.string A1, .string B1, .slice lo1 l1.length lc1, .int .u32 (n1 : Int), .string U1] 25 (w.heap.size + 1) #[.string A2, .string B2, .slice lo2 l2.length lc2, .int .u32 (n2 : Int), .string U2] 25 w'} := ⟨⟨_, hS⟩⟩
 refine wp_region_seq (S := R2 w.heap.size #[.string A1, .string B1, .slice lo1 l1.length lc1, .int .u32 (n1 : Int), .string U1] 25 (w.heap.size + 1) #[.string A2, .string B2, .slice lo2 l2.length lc2, .int .u32 (n2 : Int), .string U2] 25) [(0, false), (1, true), (2, true), (3, true), (5, true), (6, true), (4, false), (7, false), (8, true), (9, true), (10, true), (11, true), (12, true), (13, false), (14, true), (15, true)] (by kernel_rfl) (by kernel_rfl) (by kernel_rfl) (by kernel_rfl) (by rw [hD]; exact hS) ?_
 rw [hD]
 clear hD
 refine seq_come _ rfl (fun KC hK => ?_); go_simp
 refine (first10 D).mono ?_; rintro e w4 ⟨rfl, hb⟩
 have hS4 := hS.below hb
 have H11 := Lib.hid (H10.out.below hb)
 clear hb H10
 go_simp; refine hK.out _ _ hS4 ?_; clear hK KC
 iterate 1 (refine seq_take _ rfl (fun KC hK => ?_); go_simp; (first | refine hK _ ?_ | refine ⟨_, fun _ _ => rfl, hK _ ?_⟩); clear hK KC)
 refine seq_take _ rfl (fun KC hK => ?_); go_simp
 refine ⟨.agg #[.string A1, .string B1, .slice lo1 l1.length lc1, .int .u32 (n1 : Int), .string U1], fun a ha => by obtain ⟨p0, p1, p2, p3, p4⟩ := row5 ha.1; simp only [p0, p1, p2, p3, p4, Result.andThen], hK _ ?_⟩
 clear hK KC
 refine seq_take _ rfl (fun KC hK => ?_); go_simp
 refine ⟨.agg #[.string A2, .string B2, .slice lo2 l2.length lc2, .int .u32 (n2 : Int), .string U2], fun a ha => by obtain ⟨p0, p1, p2, p3, p4⟩ := row5 ha.2; simp only [p0, p1, p2, p3, p4, Result.andThen], hK _ ?_⟩
 clear hK KC
 refine seq_take _ rfl (fun KC hK => ?_); go_simp
 refine ⟨.agg #[.string A1, .string B1, .slice lo1 l1.length lc1, .int .u32 (n1 : Int), .string U1], fun a ha => by obtain ⟨p0, p1, p2, p3, p4⟩ := row5 ha.1; simp only [p0, p1, p2, p3, p4, Result.andThen], hK _ ?_⟩
 clear hK KC
 refine seq_take _ rfl (fun KC hK => ?_); go_simp
 refine ⟨.agg #[.string A2, .string B2, .slice lo2 l2.length lc2, .int .u32 (n2 : Int), .string U2], fun a ha => by obtain ⟨p0, p1, p2, p3, p4⟩ := row5 ha.2; simp only [p0, p1, p2, p3, p4, Result.andThen], hK _ ?_⟩
 clear hK KC
 refine seq_come _ rfl (fun KC hK => ?_); go_simp
 refine (sc_same ((a1, b1, l1, n1), u1) ((a2, b2, l2, n2), u2) [.string A1, .string B1, .slice lo1 l1.length lc1, .int .u32 (n1 : Int), .string U1] [.string A2, .string B2, .slice lo2 l2.length lc2, .int .u32 (n2 : Int), .string U2] _ _ w4 HLIM1.out HLEN1.out ⟨lo1, lc1, by rw [← HA1N.out, ← HB1N.out, ← HU1N.out]; rfl, H11.out.is.2.1⟩ ⟨lo2, lc2, by rw [← HA2N.out, ← HB2N.out, ← HU2N.out]; rfl, H11.out.is.1⟩).mono ?_; rintro e w5 ⟨rfl, hb⟩
 rw [HAL.out]
 have hS5 := hS4.below hb
 have H12 := Lib.hid (H11.out.below hb)
 clear hb H11
 go_simp; refine hK.out _ _ hS5 ?_; clear hK KC
 refine seq_come _ rfl (fun KC hK => ?_); go_simp
 refine (sc_ref ((a1, b1, l1, n1), u1) ((a2, b2, l2, n2), u2) [.string A1, .string B1, .slice lo1 l1.length lc1, .int .u32 (n1 : Int), .string U1] [.string A2, .string B2, .slice lo2 l2.length lc2, .int .u32 (n2 : Int), .string U2] _ _ w5 HLIM1.out HLEN1.out ⟨lo1, lc1, by rw [← HA1N.out, ← HB1N.out, ← HU1N.out]; rfl, H12.out.is.2.1⟩ ⟨lo2, lc2, by rw [← HA2N.out, ← HB2N.out, ← HU2N.out]; rfl, H12.out.is.1⟩).mono ?_; rintro e w6 ⟨rfl, hb⟩
 rw [HAL.out]
 have hS6 := hS5.below hb
 have H13 := Lib.hid (H12.out.below hb)
 clear hb H12
 go_simp; refine hK.out _ _ hS6 ?_; clear hK KC
 iterate 3 (refine seq_take _ rfl (fun KC hK => ?_); go_simp; (first | refine hK _ ?_ | refine ⟨_, fun _ _ => rfl, hK _ ?_⟩); clear hK KC)
 refine seq_take _ rfl (fun KC hK => ?_); go_simp
 refine ⟨.agg #[.string A1, .string B1, .slice lo1 l1.length lc1, .int .u32 (n1 : Int), .string U1], fun a ha => by obtain ⟨p0, p1, p2, p3, p4⟩ := row5 ha.1; simp only [p0, p1, p2, p3, p4, Result.andThen], hK _ ?_⟩
 clear hK KC
 refine seq_take _ rfl (fun KC hK => ?_); go_simp
 refine ⟨.agg #[.string A1, .string B1, .slice lo1 l1.length lc1, .int .u32 (n1 : Int), .string U1], fun a ha => by obtain ⟨p0, p1, p2, p3, p4⟩ := row5 ha.1; simp only [p0, p1, p2, p3, p4, Result.andThen], hK _ ?_⟩
 clear hK KC
 refine seq_come _ rfl (fun KC hK => ?_); go_simp
 refine (sc_same ((a1, b1, l1, n1), u1) ((a1, b1, l1, n1), u1) [.string A1, .string B1, .slice lo1 l1.length lc1, .int .u32 (n1 : Int), .string U1] [.string A1, .string B1, .slice lo1 l1.length lc1, .int .u32 (n1 : Int), .string U1] _ _ w6 HLIM1.out HLEN1.out ⟨lo1, lc1, by rw [← HA1N.out, ← HB1N.out, ← HU1N.out]; rfl, H13.out.is.2.1⟩ ⟨lo1, lc1, by rw [← HA1N.out, ← HB1N.out, ← HU1N.out]; rfl, H13.out.is.2.1⟩).mono ?_; rintro e w7 ⟨rfl, hb⟩
 rw [alike_yes rfl]
 have hS7 := hS6.below hb
 have H14 := Lib.hid (H13.out.below hb)
 clear hb H13
 go_simp; refine hK.out _ _ hS7 ?_; clear hK KC
 iterate 2 (refine seq_take _ rfl (fun KC hK => ?_); go_simp; (first | refine hK _ ?_ | refine ⟨_, fun _ _ => rfl, hK _ ?_⟩); clear hK KC)
 refine seq_done ?_
 clear hne hS hS4 hS5 hS6 hS7
 go_wp2_with fail
 go_ret
 exact ⟨rfl, H14.out.is.2.2.2.2.1⟩
set_option maxRecDepth 1000000 in
set_option maxHeartbeats 16000000 in
theorem scsm_any (x y : (List UInt8 × List UInt8 × List KV × Nat) × List UInt8) (ca cb : List Value) (P Q : Nat → Prop) (w : World) (hl1 : kslim x.1.2.2.1) (hf1 : ksfit x.1.2.2.1) (hn1 : x.1.2.2.1.length ≤ 9223372036854775807) (hxa1 : x.1.1.length ≤ 9223372036854775807) (hxb1 : x.1.2.1.length ≤ 9223372036854775807) (hxu1 : x.2.length ≤ 9223372036854775807) (hr1 : ScRel w P x ca) (hl2 : kslim y.1.2.2.1) (hf2 : ksfit y.1.2.2.1) (hn2 : y.1.2.2.1.length ≤ 9223372036854775807) (hxa2 : y.1.1.length ≤ 9223372036854775807) (hxb2 : y.1.2.1.length ≤ 9223372036854775807) (hxu2 : y.2.length ≤ 9223372036854775807) (hr2 : ScRel w Q y cb) :
 Calls Try.prog 3 #[.agg ca.toArray, .agg cb.toArray] w fun e w' => e = .returned (.bool true) ∧ Below w.heap.size w w' := by
 cases hal : alike x y with
 | false => exact scsm_false x y ca cb P Q w hl1 hf1 hn1 hxa1 hxb1 hxu1 hr1 hl2 hf2 hn2 hxa2 hxb2 hxu2 hr2 hal
 | true => exact scsm_true x y ca cb P Q w hl1 hf1 hn1 hxa1 hxb1 hxu1 hr1 hl2 hf2 hn2 hxa2 hxb2 hxu2 hr2 hal
end Go.Proofs.Ytbdbmkmebeemoaa
