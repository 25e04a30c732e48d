/-
  scope.SameRes, Same; hygref.Resource, Scope.
-/
import Derived.Test.YtbdbmkmebeemoaaScBack
import Derived.Test.YtbdbmkmebeemoaaValSame
import Derived.Test.YtbdbmkmebeemoaaAlike
namespace Go.Proofs.Ytbdbmkmebeemoaa
open Go.RowKit

set_option maxRecDepth 1000000 in
set_option maxHeartbeats 8000000 in
theorem rs_same (x y : (List KV × Nat) × List UInt8) (ca cb : List Value) (P Q : Nat → Prop) (w : World) (hlim : kslim x.1.1) (hlen : x.1.1.length ≤ 9223372036854775807) (ha : RsRel w P x ca) (hb : RsRel w Q y cb) :
 Calls Try.prog 21 #[.agg ca.toArray, .agg cb.toArray] w fun e w' => e = .returned (.bool (alike x y)) ∧ Below w.heap.size w w' := by
 obtain ⟨lo1, lc1, rfl, hra⟩ := ha
 obtain ⟨lo2, lc2, rfl, hrb⟩ := hb
 obtain ⟨⟨l1, n1⟩, u1⟩ := x
 obtain ⟨⟨l2, n2⟩, u2⟩ := y
 have HRA := Lib.hid hra
 have HRB := Lib.hid hrb
 have HLIM := Lib.hid hlim
 have HLEN := Lib.hid hlen
 clear hra hrb hlim hlen
 dsimp only [strV]
 obtain ⟨U1, hU1⟩ : ∃ X : ByteArray, (⟨u1.toArray⟩ : ByteArray) = X := ⟨_, rfl⟩
 have gU1 : U1.data.toList = u1 := by rw [← hU1]
 obtain ⟨U2, hU2⟩ : ∃ X : ByteArray, (⟨u2.toArray⟩ : ByteArray) = X := ⟨_, rfl⟩
 have gU2 : U2.data.toList = u2 := by rw [← hU2]
 rw [hU1, hU2]
 clear hU1 hU2
 obtain ⟨W, hW⟩ : ∃ W, (w.alloc (.cells #[.slice lo1 l1.length lc1, .int .u32 (n1 : Int), .string U1] 40)).alloc (.cells #[.slice lo2 l2.length lc2, .int .u32 (n2 : Int), .string U2] 40) = W := ⟨_, rfl⟩
 have HBW : Hid (Below w.heap.size w W) := Lib.hid (by rw [← hW]; exact below_step (below_new _ _) (below_new _ _))
 have HXA : Hid (W.heap[w.heap.size]? = some (.cells #[.slice lo1 l1.length lc1, .int .u32 (n1 : Int), .string U1] 40 (0, 0))) := Lib.hid (by rw [← hW]; exact (Below.heap_alloc _ _ _ (by simp)).trans (heap_alloc_new w _))
 have HXB : Hid (W.heap[w.heap.size + 1]? = some (.cells #[.slice lo2 l2.length lc2, .int .u32 (n2 : Int), .string U2] 40 (0, 0))) := Lib.hid (by rw [← hW]; have := heap_alloc_new (w.alloc (.cells #[.slice lo1 l1.length lc1, .int .u32 (n1 : Int), .string U1] 40)) (.cells #[.slice lo2 l2.length lc2, .int .u32 (n2 : Int), .string U2] 40); simpa using this)
 have HK := Lib.hid (keys_same l1 l2 lo1 lo2 lc1 lc2 P Q W HLEN.out HLIM.out (HRA.out.below HBW.out) (HRB.out.below HBW.out))
 have HW := Lib.hid hW
 clear hW
 by_cases eN : n1 = n2
 case neg =>
  have dN : ((n1 : Int) == (n2 : Int)) = false := by rw [beq_eq_false_iff_ne]; omega
  rw [alike_no (x := ((l1, n1), u1)) (y := ((l2, n2), u2)) (fun h => eN (by simp only [Prod.mk.injEq] at h; exact h.1.2))]
  clear  eN gU1 gU2
  go_enter Try.func21, Try.ntmps21
  go_wp2_with fail
  rw [HW.out]
  go_ret
  exact ⟨rfl, HBW.out⟩
 case pos =>
 have dN : ((n1 : Int) == (n2 : Int)) = true := by rw [beq_iff_eq]; omega
 by_cases eU : u1 = u2
 case neg =>
  have dU := (text_ne gU1 gU2 eU).2
  rw [alike_no (x := ((l1, n1), u1)) (y := ((l2, n2), u2)) (fun h => eU (by simp only [Prod.mk.injEq] at h; exact h.2))]
  clear eN eU gU1 gU2
  go_enter Try.func21, Try.ntmps21
  go_wp2_with fail
  rw [HW.out]
  go_ret
  exact ⟨rfl, HBW.out⟩
 case pos =>
 obtain rfl := ba_same gU1 gU2 eU
 have hr : alike ((l1, n1), u1) ((l2, n2), u2) = alike l1 l2 := by
  by_cases h : l1 = l2
  ·rw [alike_yes h, alike_yes (by rw [h, eN, eU])]
  ·rw [alike_no h, alike_no (fun e => h (by simp only [Prod.mk.injEq] at e; exact e.1.1))]
 rw [hr]
 clear hr eN eU gU1 gU2
 go_enter Try.func21, Try.ntmps21
 go_wp2_with fail
 rw [HW.out]
 refine HK.out.mono ?_; rintro e w4 ⟨rfl, hb4⟩
 have HB4 := Lib.hid (below_step HBW.out hb4)
 clear hb4
 go_wp2_with fail
 go_ret
 exact ⟨rfl, HB4.out⟩
set_option maxRecDepth 1000000 in
set_option maxHeartbeats 8000000 in
theorem sc_same (x y : (List UInt8 × List UInt8 × List KV × Nat) × List UInt8) (ca cb : List Value) (P Q : Nat → Prop) (w : World) (hlim : kslim x.1.2.2.1) (hlen : x.1.2.2.1.length ≤ 9223372036854775807) (ha : ScRel w P x ca) (hb : ScRel w Q y cb) :
 Calls Try.prog 15 #[.agg ca.toArray, .agg cb.toArray] w fun e w' => e = .returned (.bool (alike x y)) ∧ Below w.heap.size w w' := by
 obtain ⟨lo1, lc1, rfl, hra⟩ := ha
 obtain ⟨lo2, lc2, rfl, hrb⟩ := hb
 obtain ⟨⟨a1, b1, l1, n1⟩, u1⟩ := x
 obtain ⟨⟨a2, b2, l2, n2⟩, u2⟩ := y
 have HRA := Lib.hid hra
 have HRB := Lib.hid hrb
 have HLIM := Lib.hid hlim
 have HLEN := Lib.hid hlen
 clear hra hrb hlim hlen
 dsimp only [strV]
 obtain ⟨A1, hA1⟩ : ∃ X : ByteArray, (⟨a1.toArray⟩ : ByteArray) = X := ⟨_, rfl⟩
 have gA1 : A1.data.toList = a1 := by rw [← hA1]
 obtain ⟨A2, hA2⟩ : ∃ X : ByteArray, (⟨a2.toArray⟩ : ByteArray) = X := ⟨_, rfl⟩
 have gA2 : A2.data.toList = a2 := by rw [← hA2]
 obtain ⟨B1, hB1⟩ : ∃ X : ByteArray, (⟨b1.toArray⟩ : ByteArray) = X := ⟨_, rfl⟩
 have gB1 : B1.data.toList = b1 := by rw [← hB1]
 obtain ⟨B2, hB2⟩ : ∃ X : ByteArray, (⟨b2.toArray⟩ : ByteArray) = X := ⟨_, rfl⟩
 have gB2 : B2.data.toList = b2 := by rw [← hB2]
 obtain ⟨U1, hU1⟩ : ∃ X : ByteArray, (⟨u1.toArray⟩ : ByteArray) = X := ⟨_, rfl⟩
 have gU1 : U1.data.toList = u1 := by rw [← hU1]
 obtain ⟨U2, hU2⟩ : ∃ X : ByteArray, (⟨u2.toArray⟩ : ByteArray) = X := ⟨_, rfl⟩
 have gU2 : U2.data.toList = u2 := by rw [← hU2]
 rw [hA1, hB1, hU1, hA2, hB2, hU2]
 clear hA1 hB1 hU1 hA2 hB2 hU2
 obtain ⟨W, hW⟩ : ∃ W, (w.alloc (.cells #[.string A1, .string B1, .slice lo1 l1.length lc1, .int .u32 (n1 : Int), .string U1] 25)).alloc (.cells #[.string A2, .string B2, .slice lo2 l2.length lc2, .int .u32 (n2 : Int), .string U2] 25) = W := ⟨_, rfl⟩
 have HBW : Hid (Below w.heap.size w W) := Lib.hid (by rw [← hW]; exact below_step (below_new _ _) (below_new _ _))
 have HXA : Hid (W.heap[w.heap.size]? = some (.cells #[.string A1, .string B1, .slice lo1 l1.length lc1, .int .u32 (n1 : Int), .string U1] 25 (0, 0))) := Lib.hid (by rw [← hW]; exact (Below.heap_alloc _ _ _ (by simp)).trans (heap_alloc_new w _))
 have HXB : Hid (W.heap[w.heap.size + 1]? = some (.cells #[.string A2, .string B2, .slice lo2 l2.length lc2, .int .u32 (n2 : Int), .string U2] 25 (0, 0))) := Lib.hid (by rw [← hW]; have := heap_alloc_new (w.alloc (.cells #[.string A1, .string B1, .slice lo1 l1.length lc1, .int .u32 (n1 : Int), .string U1] 25)) (.cells #[.string A2, .string B2, .slice lo2 l2.length lc2, .int .u32 (n2 : Int), .string U2] 25); simpa using this)
 have HK := Lib.hid (keys_same l1 l2 lo1 lo2 lc1 lc2 P Q W HLEN.out HLIM.out (HRA.out.below HBW.out) (HRB.out.below HBW.out))
 have HW := Lib.hid hW
 clear hW
 by_cases eA : a1 = a2
 case neg =>
  have dA := (text_ne gA1 gA2 eA).2
  rw [alike_no (x := ((a1, b1, l1, n1), u1)) (y := ((a2, b2, l2, n2), u2)) (fun h => eA (by simp only [Prod.mk.injEq] at h; exact h.1.1))]
  clear  eA gA1 gA2 gB1 gB2 gU1 gU2
  go_enter Try.func15, Try.ntmps15
  go_wp2_with fail
  rw [HW.out]
  go_ret
  exact ⟨rfl, HBW.out⟩
 case pos =>
 obtain rfl := ba_same gA1 gA2 eA
 by_cases eB : b1 = b2
 case neg =>
  have dB := (text_ne gB1 gB2 eB).2
  rw [alike_no (x := ((a1, b1, l1, n1), u1)) (y := ((a2, b2, l2, n2), u2)) (fun h => eB (by simp only [Prod.mk.injEq] at h; exact h.1.2.1))]
  clear eA eB gA1 gA2 gB1 gB2 gU1 gU2
  go_enter Try.func15, Try.ntmps15
  go_wp2_with fail
  rw [HW.out]
  go_ret
  exact ⟨rfl, HBW.out⟩
 case pos =>
 obtain rfl := ba_same gB1 gB2 eB
 by_cases eN : n1 = n2
 case neg =>
  have dN : ((n1 : Int) == (n2 : Int)) = false := by rw [beq_eq_false_iff_ne]; omega
  rw [alike_no (x := ((a1, b1, l1, n1), u1)) (y := ((a2, b2, l2, n2), u2)) (fun h => eN (by simp only [Prod.mk.injEq] at h; exact h.1.2.2.2))]
  clear eA eB eN gA1 gA2 gB1 gB2 gU1 gU2
  go_enter Try.func15, Try.ntmps15
  go_wp2_with fail
  rw [HW.out]
  go_ret
  exact ⟨rfl, HBW.out⟩
 case pos =>
 have dN : ((n1 : Int) == (n2 : Int)) = true := by rw [beq_iff_eq]; omega
 by_cases eU : u1 = u2
 case neg =>
  have dU := (text_ne gU1 gU2 eU).2
  rw [alike_no (x := ((a1, b1, l1, n1), u1)) (y := ((a2, b2, l2, n2), u2)) (fun h => eU (by simp only [Prod.mk.injEq] at h; exact h.2))]
  clear eA eB eN eU gA1 gA2 gB1 gB2 gU1 gU2
  go_enter Try.func15, Try.ntmps15
  go_wp2_with fail
  rw [HW.out]
  go_ret
  exact ⟨rfl, HBW.out⟩
 case pos =>
 obtain rfl := ba_same gU1 gU2 eU
 have hr : alike ((a1, b1, l1, n1), u1) ((a2, b2, l2, n2), u2) = alike l1 l2 := by
  by_cases h : l1 = l2
  ·rw [alike_yes h, alike_yes (by rw [h, eA, eB, eN, eU])]
  ·rw [alike_no h, alike_no (fun e => h (by simp only [Prod.mk.injEq] at e; exact e.1.2.2.1))]
 rw [hr]
 clear hr eA eB eN eU gA1 gA2 gB1 gB2 gU1 gU2
 go_enter Try.func15, Try.ntmps15
 go_wp2_with fail
 rw [HW.out]
 refine HK.out.mono ?_; rintro e w4 ⟨rfl, hb4⟩
 have HB4 := Lib.hid (below_step HBW.out hb4)
 clear hb4
 go_wp2_with fail
 go_ret
 exact ⟨rfl, HB4.out⟩
set_option maxRecDepth 1000000 in
set_option maxHeartbeats 8000000 in
theorem rs_ref (x y : (List KV × Nat) × List UInt8) (ca cb : List Value) (P Q : Nat → Prop) (w : World) (hlim : kslim x.1.1) (hlen : x.1.1.length ≤ 9223372036854775807) (ha : RsRel w P x ca) (hb : RsRel w Q y cb) :
 Calls Try.prog 22 #[.agg ca.toArray, .agg cb.toArray] w fun e w' => e = .returned (.bool (alike x y)) ∧ Below w.heap.size w w' := by
 obtain ⟨lo1, lc1, rfl, hra⟩ := ha
 obtain ⟨lo2, lc2, rfl, hrb⟩ := hb
 obtain ⟨⟨l1, n1⟩, u1⟩ := x
 obtain ⟨⟨l2, n2⟩, u2⟩ := y
 have HRA := Lib.hid hra
 have HRB := Lib.hid hrb
 have HLIM := Lib.hid hlim
 have HLEN := Lib.hid hlen
 clear hra hrb hlim hlen
 dsimp only [strV]
 obtain ⟨U1, hU1⟩ : ∃ X : ByteArray, (⟨u1.toArray⟩ : ByteArray) = X := ⟨_, rfl⟩
 have gU1 : U1.data.toList = u1 := by rw [← hU1]
 obtain ⟨U2, hU2⟩ : ∃ X : ByteArray, (⟨u2.toArray⟩ : ByteArray) = X := ⟨_, rfl⟩
 have gU2 : U2.data.toList = u2 := by rw [← hU2]
 rw [hU1, hU2]
 clear hU1 hU2
 obtain ⟨W, hW⟩ : ∃ W, (w.alloc (.cells #[.slice lo1 l1.length lc1, .int .u32 (n1 : Int), .string U1] 40)).alloc (.cells #[.slice lo2 l2.length lc2, .int .u32 (n2 : Int), .string U2] 40) = W := ⟨_, rfl⟩
 have HBW : Hid (Below w.heap.size w W) := Lib.hid (by rw [← hW]; exact below_step (below_new _ _) (below_new _ _))
 have HXA : Hid (W.heap[w.heap.size]? = some (.cells #[.slice lo1 l1.length lc1, .int .u32 (n1 : Int), .string U1] 40 (0, 0))) := Lib.hid (by rw [← hW]; exact (Below.heap_alloc _ _ _ (by simp)).trans (heap_alloc_new w _))
 have HXB : Hid (W.heap[w.heap.size + 1]? = some (.cells #[.slice lo2 l2.length lc2, .int .u32 (n2 : Int), .string U2] 40 (0, 0))) := Lib.hid (by rw [← hW]; have := heap_alloc_new (w.alloc (.cells #[.slice lo1 l1.length lc1, .int .u32 (n1 : Int), .string U1] 40)) (.cells #[.slice lo2 l2.length lc2, .int .u32 (n2 : Int), .string U2] 40); simpa using this)
 have HK := Lib.hid (hkeys_same l1 l2 lo1 lo2 lc1 lc2 P Q W HLEN.out HLIM.out (HRA.out.below HBW.out) (HRB.out.below HBW.out))
 have HW := Lib.hid hW
 clear hW
 cases hk : alike l1 l2 with
 | false =>
  have hl : ¬ l1 = l2 := fun h => by rw [alike_yes h] at hk; cases hk
  rw [alike_no (x := ((l1, n1), u1)) (y := ((l2, n2), u2)) (fun h => hl (by simp only [Prod.mk.injEq] at h; exact h.1.1))]
  clear hl  gU1 gU2
  go_enter Try.func22, Try.ntmps22
  go_wp2_with fail
  rw [HW.out]
  refine HK.out.mono ?_; rintro e w4 ⟨rfl, hb4⟩
  rw [hk]
  obtain ⟨xa0, xa1, xa2⟩ := row3 ((hb4.block _ (row_lt HXA.out)).trans HXA.out)
  obtain ⟨xb0, xb1, xb2⟩ := row3 ((hb4.block _ (row_lt HXB.out)).trans HXB.out)
  have HB4 := Lib.hid (below_step HBW.out hb4)
  clear hb4 hk
  go_wp2_with fail
  go_ret
  exact ⟨rfl, HB4.out⟩
 | true =>
 have hl : l1 = l2 := alike_iff.1 hk
 by_cases eN : n1 = n2
 case neg =>
  have dN : ((n1 : Int) == (n2 : Int)) = false := by rw [beq_eq_false_iff_ne]; omega
  rw [alike_no (x := ((l1, n1), u1)) (y := ((l2, n2), u2)) (fun h => eN (by simp only [Prod.mk.injEq] at h; exact h.1.2))]
  clear  eN gU1 gU2 hl
  go_enter Try.func22, Try.ntmps22
  go_wp2_with fail
  rw [HW.out]
  refine HK.out.mono ?_; rintro e w4 ⟨rfl, hb4⟩
  rw [hk]
  obtain ⟨xa0, xa1, xa2⟩ := row3 ((hb4.block _ (row_lt HXA.out)).trans HXA.out)
  obtain ⟨xb0, xb1, xb2⟩ := row3 ((hb4.block _ (row_lt HXB.out)).trans HXB.out)
  have HB4 := Lib.hid (below_step HBW.out hb4)
  clear hb4 hk
  go_wp2_with fail
  go_ret
  exact ⟨rfl, HB4.out⟩
 case pos =>
 have dN : ((n1 : Int) == (n2 : Int)) = true := by rw [beq_iff_eq]; omega
 by_cases eU : u1 = u2
 case neg =>
  have dU := (text_ne gU1 gU2 eU).2
  rw [alike_no (x := ((l1, n1), u1)) (y := ((l2, n2), u2)) (fun h => eU (by simp only [Prod.mk.injEq] at h; exact h.2))]
  clear eN eU gU1 gU2 hl
  go_enter Try.func22, Try.ntmps22
  go_wp2_with fail
  rw [HW.out]
  refine HK.out.mono ?_; rintro e w4 ⟨rfl, hb4⟩
  rw [hk]
  obtain ⟨xa0, xa1, xa2⟩ := row3 ((hb4.block _ (row_lt HXA.out)).trans HXA.out)
  obtain ⟨xb0, xb1, xb2⟩ := row3 ((hb4.block _ (row_lt HXB.out)).trans HXB.out)
  have HB4 := Lib.hid (below_step HBW.out hb4)
  clear hb4 hk
  go_wp2_with fail
  go_ret
  exact ⟨rfl, HB4.out⟩
 case pos =>
 obtain rfl := ba_same gU1 gU2 eU
 rw [alike_yes (x := ((l1, n1), u1)) (y := ((l2, n2), u2)) (by rw [hl, eN, eU])]
 clear hl eN eU gU1 gU2
 go_enter Try.func22, Try.ntmps22
 go_wp2_with fail
 rw [HW.out]
 refine HK.out.mono ?_; rintro e w4 ⟨rfl, hb4⟩
 rw [hk]
 obtain ⟨xa0, xa1, xa2⟩ := row3 ((hb4.block _ (row_lt HXA.out)).trans HXA.out)
 obtain ⟨xb0, xb1, xb2⟩ := row3 ((hb4.block _ (row_lt HXB.out)).trans HXB.out)
 have HB4 := Lib.hid (below_step HBW.out hb4)
 clear hb4 hk
 go_wp2_with fail
 go_ret
 exact ⟨rfl, HB4.out⟩
set_option maxRecDepth 1000000 in
set_option maxHeartbeats 8000000 in
theorem sc_ref (x y : (List UInt8 × List UInt8 × List KV × Nat) × List UInt8) (ca cb : List Value) (P Q : Nat → Prop) (w : World) (hlim : kslim x.1.2.2.1) (hlen : x.1.2.2.1.length ≤ 9223372036854775807) (ha : ScRel w P x ca) (hb : ScRel w Q y cb) :
 Calls Try.prog 16 #[.agg ca.toArray, .agg cb.toArray] w fun e w' => e = .returned (.bool (alike x y)) ∧ Below w.heap.size w w' := by
 obtain ⟨lo1, lc1, rfl, hra⟩ := ha
 obtain ⟨lo2, lc2, rfl, hrb⟩ := hb
 obtain ⟨⟨a1, b1, l1, n1⟩, u1⟩ := x
 obtain ⟨⟨a2, b2, l2, n2⟩, u2⟩ := y
 have HRA := Lib.hid hra
 have HRB := Lib.hid hrb
 have HLIM := Lib.hid hlim
 have HLEN := Lib.hid hlen
 clear hra hrb hlim hlen
 dsimp only [strV]
 obtain ⟨A1, hA1⟩ : ∃ X : ByteArray, (⟨a1.toArray⟩ : ByteArray) = X := ⟨_, rfl⟩
 have gA1 : A1.data.toList = a1 := by rw [← hA1]
 obtain ⟨A2, hA2⟩ : ∃ X : ByteArray, (⟨a2.toArray⟩ : ByteArray) = X := ⟨_, rfl⟩
 have gA2 : A2.data.toList = a2 := by rw [← hA2]
 obtain ⟨B1, hB1⟩ : ∃ X : ByteArray, (⟨b1.toArray⟩ : ByteArray) = X := ⟨_, rfl⟩
 have gB1 : B1.data.toList = b1 := by rw [← hB1]
 obtain ⟨B2, hB2⟩ : ∃ X : ByteArray, (⟨b2.toArray⟩ : ByteArray) = X := ⟨_, rfl⟩
 have gB2 : B2.data.toList = b2 := by rw [← hB2]
 obtain ⟨U1, hU1⟩ : ∃ X : ByteArray, (⟨u1.toArray⟩ : ByteArray) = X := ⟨_, rfl⟩
 have gU1 : U1.data.toList = u1 := by rw [← hU1]
 obtain ⟨U2, hU2⟩ : ∃ X : ByteArray, (⟨u2.toArray⟩ : ByteArray) = X := ⟨_, rfl⟩
 have gU2 : U2.data.toList = u2 := by rw [← hU2]
 rw [hA1, hB1, hU1, hA2, hB2, hU2]
 clear hA1 hB1 hU1 hA2 hB2 hU2
 obtain ⟨W, hW⟩ : ∃ W, (w.alloc (.cells #[.string A1, .string B1, .slice lo1 l1.length lc1, .int .u32 (n1 : Int), .string U1] 25)).alloc (.cells #[.string A2, .string B2, .slice lo2 l2.length lc2, .int .u32 (n2 : Int), .string U2] 25) = W := ⟨_, rfl⟩
 have HBW : Hid (Below w.heap.size w W) := Lib.hid (by rw [← hW]; exact below_step (below_new _ _) (below_new _ _))
 have HXA : Hid (W.heap[w.heap.size]? = some (.cells #[.string A1, .string B1, .slice lo1 l1.length lc1, .int .u32 (n1 : Int), .string U1] 25 (0, 0))) := Lib.hid (by rw [← hW]; exact (Below.heap_alloc _ _ _ (by simp)).trans (heap_alloc_new w _))
 have HXB : Hid (W.heap[w.heap.size + 1]? = some (.cells #[.string A2, .string B2, .slice lo2 l2.length lc2, .int .u32 (n2 : Int), .string U2] 25 (0, 0))) := Lib.hid (by rw [← hW]; have := heap_alloc_new (w.alloc (.cells #[.string A1, .string B1, .slice lo1 l1.length lc1, .int .u32 (n1 : Int), .string U1] 25)) (.cells #[.string A2, .string B2, .slice lo2 l2.length lc2, .int .u32 (n2 : Int), .string U2] 25); simpa using this)
 have HK := Lib.hid (hkeys_same l1 l2 lo1 lo2 lc1 lc2 P Q W HLEN.out HLIM.out (HRA.out.below HBW.out) (HRB.out.below HBW.out))
 have HW := Lib.hid hW
 clear hW
 by_cases eA : a1 = a2
 case neg =>
  have dA := (text_ne gA1 gA2 eA).2
  rw [alike_no (x := ((a1, b1, l1, n1), u1)) (y := ((a2, b2, l2, n2), u2)) (fun h => eA (by simp only [Prod.mk.injEq] at h; exact h.1.1))]
  clear  eA gA1 gA2 gB1 gB2 gU1 gU2
  go_enter Try.func16, Try.ntmps16
  go_wp2_with fail
  rw [HW.out]
  go_ret
  exact ⟨rfl, HBW.out⟩
 case pos =>
 obtain rfl := ba_same gA1 gA2 eA
 by_cases eB : b1 = b2
 case neg =>
  have dB := (text_ne gB1 gB2 eB).2
  rw [alike_no (x := ((a1, b1, l1, n1), u1)) (y := ((a2, b2, l2, n2), u2)) (fun h => eB (by simp only [Prod.mk.injEq] at h; exact h.1.2.1))]
  clear eA eB gA1 gA2 gB1 gB2 gU1 gU2
  go_enter Try.func16, Try.ntmps16
  go_wp2_with fail
  rw [HW.out]
  go_ret
  exact ⟨rfl, HBW.out⟩
 case pos =>
 obtain rfl := ba_same gB1 gB2 eB
 cases hk : alike l1 l2 with
 | false =>
  have hl : ¬ l1 = l2 := fun h => by rw [alike_yes h] at hk; cases hk
  rw [alike_no (x := ((a1, b1, l1, n1), u1)) (y := ((a2, b2, l2, n2), u2)) (fun h => hl (by simp only [Prod.mk.injEq] at h; exact h.1.2.2.1))]
  clear hl eA eB gA1 gA2 gB1 gB2 gU1 gU2
  go_enter Try.func16, Try.ntmps16
  go_wp2_with fail
  rw [HW.out]
  refine HK.out.mono ?_; rintro e w4 ⟨rfl, hb4⟩
  rw [hk]
  obtain ⟨xa0, xa1, xa2, xa3, xa4⟩ := row5 ((hb4.block _ (row_lt HXA.out)).trans HXA.out)
  obtain ⟨xb0, xb1, xb2, xb3, xb4⟩ := row5 ((hb4.block _ (row_lt HXB.out)).trans HXB.out)
  have HB4 := Lib.hid (below_step HBW.out hb4)
  clear hb4 hk
  go_wp2_with fail
  go_ret
  exact ⟨rfl, HB4.out⟩
 | true =>
 have hl : l1 = l2 := alike_iff.1 hk
 by_cases eN : n1 = n2
 case neg =>
  have dN : ((n1 : Int) == (n2 : Int)) = false := by rw [beq_eq_false_iff_ne]; omega
  rw [alike_no (x := ((a1, b1, l1, n1), u1)) (y := ((a2, b2, l2, n2), u2)) (fun h => eN (by simp only [Prod.mk.injEq] at h; exact h.1.2.2.2))]
  clear eA eB eN gA1 gA2 gB1 gB2 gU1 gU2 hl
  go_enter Try.func16, Try.ntmps16
  go_wp2_with fail
  rw [HW.out]
  refine HK.out.mono ?_; rintro e w4 ⟨rfl, hb4⟩
  rw [hk]
  obtain ⟨xa0, xa1, xa2, xa3, xa4⟩ := row5 ((hb4.block _ (row_lt HXA.out)).trans HXA.out)
  obtain ⟨xb0, xb1, xb2, xb3, xb4⟩ := row5 ((hb4.block _ (row_lt HXB.out)).trans HXB.out)
  have HB4 := Lib.hid (below_step HBW.out hb4)
  clear hb4 hk
  go_wp2_with fail
  go_ret
  exact ⟨rfl, HB4.out⟩
 case pos =>
 have dN : ((n1 : Int) == (n2 : Int)) = true := by rw [beq_iff_eq]; omega
 by_cases eU : u1 = u2
 case neg =>
  have dU := (text_ne gU1 gU2 eU).2
  rw [alike_no (x := ((a1, b1, l1, n1), u1)) (y := ((a2, b2, l2, n2), u2)) (fun h => eU (by simp only [Prod.mk.injEq] at h; exact h.2))]
  clear eA eB eN eU gA1 gA2 gB1 gB2 gU1 gU2 hl
  go_enter Try.func16, Try.ntmps16
  go_wp2_with fail
  rw [HW.out]
  refine HK.out.mono ?_; rintro e w4 ⟨rfl, hb4⟩
  rw [hk]
  obtain ⟨xa0, xa1, xa2, xa3, xa4⟩ := row5 ((hb4.block _ (row_lt HXA.out)).trans HXA.out)
  obtain ⟨xb0, xb1, xb2, xb3, xb4⟩ := row5 ((hb4.block _ (row_lt HXB.out)).trans HXB.out)
  have HB4 := Lib.hid (below_step HBW.out hb4)
  clear hb4 hk
  go_wp2_with fail
  go_ret
  exact ⟨rfl, HB4.out⟩
 case pos =>
 obtain rfl := ba_same gU1 gU2 eU
 rw [alike_yes (x := ((a1, b1, l1, n1), u1)) (y := ((a2, b2, l2, n2), u2)) (by rw [hl, eA, eB, eN, eU])]
 clear hl eA eB eN eU gA1 gA2 gB1 gB2 gU1 gU2
 go_enter Try.func16, Try.ntmps16
 go_wp2_with fail
 rw [HW.out]
 refine HK.out.mono ?_; rintro e w4 ⟨rfl, hb4⟩
 rw [hk]
 obtain ⟨xa0, xa1, xa2, xa3, xa4⟩ := row5 ((hb4.block _ (row_lt HXA.out)).trans HXA.out)
 obtain ⟨xb0, xb1, xb2, xb3, xb4⟩ := row5 ((hb4.block _ (row_lt HXB.out)).trans HXB.out)
 have HB4 := Lib.hid (below_step HBW.out hb4)
 clear hb4 hk
 go_wp2_with fail
 go_ret
 exact ⟨rfl, HB4.out⟩
end Go.Proofs.Ytbdbmkmebeemoaa
