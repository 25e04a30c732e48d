/-
  scope.SameRes, Same; hygref.Resource, Scope.
-/
/-
  hygref.RoomResource, RoomScope: what they leave of the room.
-/
/-
  Arguments that are a Resource or a Scope: opened.
-/
import Derived.Test.YtbdbmkmebeemoaaScBack
import Derived.Test.YtbdbmkmebeemoaaValSame
import Derived.Test.YtbdbmkmebeemoaaAlike
import Derived.Test.YtbdbmkmebeemoaaOpenV
import Derived.Test.YtbdbmkmebeemoaaScRead
namespace Go.Proofs.Ytbdbmkmebeemoaa
open Go.RowKit

set_option maxRecDepth 1000000 in
set_option maxHeartbeats 8000000 in
theorem rs_same (x y : (List KV × Nat) × List UInt8) (ca cb : List Value) (P Q : Nat → Prop) (w : World) (hlim : kslim x.1.1) (hlen : x.1.1.length ≤ 9223372036854775807) (ha : RsRel w P x ca) (hb : RsRel w Q y cb) :
 Calls Try.prog 21 #[.agg ca.toArray, .agg cb.toArray] w fun e w' => e = .returned (.bool (alike x y)) ∧ Below w.heap.size w w' := by
 obtain ⟨lo1, lc1, rfl, hra⟩ := ha
 obtain ⟨lo2, lc2, rfl, hrb⟩ := hb
 obtain ⟨⟨l1, n1⟩, u1⟩ := x
 obtain ⟨⟨l2, n2⟩, u2⟩ := y
 have HRA := Lib.hid hra
 have HRB := Lib.hid hrb
 have HLIM := Lib.hid hlim
 have HLEN := Lib.hid hlen
 clear hra hrb hlim hlen
 dsimp only [strV]
 obtain ⟨U1, hU1⟩ : ∃ X : ByteArray, (⟨u1.toArray⟩ : ByteArray) = X := ⟨_, rfl⟩
 have gU1 : U1.data.toList = u1 := by rw [← hU1]
 obtain ⟨U2, hU2⟩ : ∃ X : ByteArray, (⟨u2.toArray⟩ : ByteArray) = X := ⟨_, rfl⟩
 have gU2 : U2.data.toList = u2 := by rw [← hU2]
 rw [hU1, hU2]
 clear hU1 hU2
 obtain ⟨W, hW⟩ : ∃ W, (w.alloc (.cells #[.slice lo1 l1.length lc1, .int .u32 (n1 : Int), .string U1] 40)).alloc (.cells #[.slice lo2 l2.length lc2, .int .u32 (n2 : Int), .string U2] 40) = W := ⟨_, rfl⟩
 have HBW : Hid (Below w.heap.size w W) := Lib.hid (by rw [← hW]; exact below_step (below_new _ _) (below_new _ _))
 have HXA : Hid (W.heap[w.heap.size]? = some (.cells #[.slice lo1 l1.length lc1, .int .u32 (n1 : Int), .string U1] 40 (0, 0))) := Lib.hid (by rw [← hW]; exact (Below.heap_alloc _ _ _ (by simp)).trans (heap_alloc_new w _))
 have HXB : Hid (W.heap[w.heap.size + 1]? = some (.cells #[.slice lo2 l2.length lc2, .int .u32 (n2 : Int), .string U2] 40 (0, 0))) := Lib.hid (by rw [← hW]; have := heap_alloc_new (w.alloc (.cells #[.slice lo1 l1.length lc1, .int .u32 (n1 : Int), .string U1] 40)) (.cells #[.slice lo2 l2.length lc2, .int .u32 (n2 : Int), .string U2] 40); simpa using this)
 have HK := Lib.hid (keys_same l1 l2 lo1 lo2 lc1 lc2 P Q W HLEN.out HLIM.out (HRA.out.below HBW.out) (HRB.out.below HBW.out))
 have HW := Lib.hid hW
 clear hW
 by_cases eN : n1 = n2
 case neg =>
  have dN : ((n1 : Int) == (n2 : Int)) = false := by rw [beq_eq_false_iff_ne]; omega
  rw [alike_no (x := ((l1, n1), u1)) (y := ((l2, n2), u2)) (fun h => eN (by simp only [Prod.mk.injEq] at h; exact h.1.2))]
  clear  eN gU1 gU2
  go_enter Try.func21, Try.ntmps21
  go_wp2_with fail
  rw [HW.out]
  go_ret
  exact ⟨rfl, HBW.out⟩
 case pos =>
 have dN : ((n1 : Int) == (n2 : Int)) = true := by rw [beq_iff_eq]; omega
 by_cases eU : u1 = u2
 case neg =>
  have dU := (text_ne gU1 gU2 eU).2
  rw [alike_no (x := ((l1, n1), u1)) (y := ((l2, n2), u2)) (fun h => eU (by simp only [Prod.mk.injEq] at h; exact h.2))]
  clear eN eU gU1 gU2
  go_enter Try.func21, Try.ntmps21
  go_wp2_with fail
  rw [HW.out]
  go_ret
  exact ⟨rfl, HBW.out⟩
 case pos =>
 obtain rfl := ba_same gU1 gU2 eU
 have hr : alike ((l1, n1), u1) ((l2, n2), u2) = alike l1 l2 := by
  by_cases h : l1 = l2
  ·rw [alike_yes h, alike_yes (by rw [h, eN, eU])]
  ·rw [alike_no h, alike_no (fun e => h (by simp only [Prod.mk.injEq] at e; exact e.1.1))]
 rw [hr]
 clear hr eN eU gU1 gU2
 go_enter Try.func21, Try.ntmps21
 go_wp2_with fail
 rw [HW.out]
 refine HK.out.mono ?_; rintro e w4 ⟨rfl, hb4⟩
 have HB4 := Lib.hid (below_step HBW.out hb4)
 clear hb4
 go_wp2_with fail
 go_ret
 exact ⟨rfl, HB4.out⟩
set_option maxRecDepth 1000000 in
set_option maxHeartbeats 8000000 in
theorem sc_same (x y : (List UInt8 × List UInt8 × List KV × Nat) × List UInt8) (ca cb : List Value) (P Q : Nat → Prop) (w : World) (hlim : kslim x.1.2.2.1) (hlen : x.1.2.2.1.length ≤ 9223372036854775807) (ha : ScRel w P x ca) (hb : ScRel w Q y cb) :
 Calls Try.prog 15 #[.agg ca.toArray, .agg cb.toArray] w fun e w' => e = .returned (.bool (alike x y)) ∧ Below w.heap.size w w' := by
 obtain ⟨lo1, lc1, rfl, hra⟩ := ha
 obtain ⟨lo2, lc2, rfl, hrb⟩ := hb
 obtain ⟨⟨a1, b1, l1, n1⟩, u1⟩ := x
 obtain ⟨⟨a2, b2, l2, n2⟩, u2⟩ := y
 have HRA := Lib.hid hra
 have HRB := Lib.hid hrb
 have HLIM := Lib.hid hlim
 have HLEN := Lib.hid hlen
 clear hra hrb hlim hlen
 dsimp only [strV]
 obtain ⟨A1, hA1⟩ : ∃ X : ByteArray, (⟨a1.toArray⟩ : ByteArray) = X := ⟨_, rfl⟩
 have gA1 : A1.data.toList = a1 := by rw [← hA1]
 obtain ⟨A2, hA2⟩ : ∃ X : ByteArray, (⟨a2.toArray⟩ : ByteArray) = X := ⟨_, rfl⟩
 have gA2 : A2.data.toList = a2 := by rw [← hA2]
 obtain ⟨B1, hB1⟩ : ∃ X : ByteArray, (⟨b1.toArray⟩ : ByteArray) = X := ⟨_, rfl⟩
 have gB1 : B1.data.toList = b1 := by rw [← hB1]
 obtain ⟨B2, hB2⟩ : ∃ X : ByteArray, (⟨b2.toArray⟩ : ByteArray) = X := ⟨_, rfl⟩
 have gB2 : B2.data.toList = b2 := by rw [← hB2]
 obtain ⟨U1, hU1⟩ : ∃ X : ByteArray, (⟨u1.toArray⟩ : ByteArray) = X := ⟨_, rfl⟩
 have gU1 : U1.data.toList = u1 := by rw [← hU1]
 obtain ⟨U2, hU2⟩ : ∃ X : ByteArray, (⟨u2.toArray⟩ : ByteArray) = X := ⟨_, rfl⟩
 have gU2 : U2.data.toList = u2 := by rw [← hU2]
 rw [hA1, hB1, hU1, hA2, hB2, hU2]
 clear hA1 hB1 hU1 hA2 hB2 hU2
 obtain ⟨W, hW⟩ : ∃ W, (w.alloc (.cells #[.string A1, .string B1, .slice lo1 l1.length lc1, .int .u32 (n1 : Int), .string U1] 25)).alloc (.cells #[.string A2, .string B2, .slice lo2 l2.length lc2, .int .u32 (n2 : Int), .string U2] 25) = W := ⟨_, rfl⟩
 have HBW : Hid (Below w.heap.size w W) := Lib.hid (by rw [← hW]; exact below_step (below_new _ _) (below_new _ _))
 have HXA : Hid (W.heap[w.heap.size]? = some (.cells #[.string A1, .string B1, .slice lo1 l1.length lc1, .int .u32 (n1 : Int), .string U1] 25 (0, 0))) := Lib.hid (by rw [← hW]; exact (Below.heap_alloc _ _ _ (by simp)).trans (heap_alloc_new w _))
 have HXB : Hid (W.heap[w.heap.size + 1]? = some (.cells #[.string A2, .string B2, .slice lo2 l2.length lc2, .int .u32 (n2 : Int), .string U2] 25 (0, 0))) := Lib.hid (by rw [← hW]; have := heap_alloc_new (w.alloc (.cells #[.string A1, .string B1, .slice lo1 l1.length lc1, .int .u32 (n1 : Int), .string U1] 25)) (.cells #[.string A2, .string B2, .slice lo2 l2.length lc2, .int .u32 (n2 : Int), .string U2] 25); simpa using this)
 have HK := Lib.hid (keys_same l1 l2 lo1 lo2 lc1 lc2 P Q W HLEN.out HLIM.out (HRA.out.below HBW.out) (HRB.out.below HBW.out))
 have HW := Lib.hid hW
 clear hW
 by_cases eA : a1 = a2
 case neg =>
  have dA := (text_ne gA1 gA2 eA).2
  rw [alike_no (x := ((a1, b1, l1, n1), u1)) (y := ((a2, b2, l2, n2), u2)) (fun h => eA (by simp only [Prod.mk.injEq] at h; exact h.1.1))]
  clear  eA gA1 gA2 gB1 gB2 gU1 gU2
  go_enter Try.func15, Try.ntmps15
  go_wp2_with fail
  rw [HW.out]
  go_ret
  exact ⟨rfl, HBW.out⟩
 case pos =>
 obtain rfl := ba_same gA1 gA2 eA
 by_cases eB : b1 = b2
 case neg =>
  have dB := (text_ne gB1 gB2 eB).2
  rw [alike_no (x := ((a1, b1, l1, n1), u1)) (y := ((a2, b2, l2, n2), u2)) (fun h => eB (by simp only [Prod.mk.injEq] at h; exact h.1.2.1))]
  clear eA eB gA1 gA2 gB1 gB2 gU1 gU2
  go_enter Try.func15, Try.ntmps15
  go_wp2_with fail
  rw [HW.out]
  go_ret
  exact ⟨rfl, HBW.out⟩
 case pos =>
 obtain rfl := ba_same gB1 gB2 eB
 by_cases eN : n1 = n2
 case neg =>
  have dN : ((n1 : Int) == (n2 : Int)) = false := by rw [beq_eq_false_iff_ne]; omega
  rw [alike_no (x := ((a1, b1, l1, n1), u1)) (y := ((a2, b2, l2, n2), u2)) (fun h => eN (by simp only [Prod.mk.injEq] at h; exact h.1.2.2.2))]
  clear eA eB eN gA1 gA2 gB1 gB2 gU1 gU2
  go_enter Try.func15, Try.ntmps15
  go_wp2_with fail
  rw [HW.out]
  go_ret
  exact ⟨rfl, HBW.out⟩
 case pos =>
 have dN : ((n1 : Int) == (n2 : Int)) = true := by rw [beq_iff_eq]; omega
 by_cases eU : u1 = u2
 case neg =>
  have dU := (text_ne gU1 gU2 eU).2
  rw [alike_no (x := ((a1, b1, l1, n1), u1)) (y := ((a2, b2, l2, n2), u2)) (fun h => eU (by simp only [Prod.mk.injEq] at h; exact h.2))]
  clear eA eB eN eU gA1 gA2 gB1 gB2 gU1 gU2
  go_enter Try.func15, Try.ntmps15
  go_wp2_with fail
  rw [HW.out]
  go_ret
  exact ⟨rfl, HBW.out⟩
 case pos =>
 obtain rfl := ba_same gU1 gU2 eU
 have hr : alike ((a1, b1, l1, n1), u1) ((a2, b2, l2, n2), u2) = alike l1 l2 := by
  by_cases h : l1 = l2
  ·rw [alike_yes h, alike_yes (by rw [h, eA, eB, eN, eU])]
  ·rw [alike_no h, alike_no (fun e => h (by simp only [Prod.mk.injEq] at e; exact e.1.2.2.1))]
 rw [hr]
 clear hr eA eB eN eU gA1 gA2 gB1 gB2 gU1 gU2
 go_enter Try.func15, Try.ntmps15
 go_wp2_with fail
 rw [HW.out]
 refine HK.out.mono ?_; rintro e w4 ⟨rfl, hb4⟩
 have HB4 := Lib.hid (below_step HBW.out hb4)
 clear hb4
 go_wp2_with fail
 go_ret
 exact ⟨rfl, HB4.out⟩
set_option maxRecDepth 1000000 in
set_option maxHeartbeats 8000000 in
theorem rs_ref (x y : (List KV × Nat) × List UInt8) (ca cb : List Value) (P Q : Nat → Prop) (w : World) (hlim : kslim x.1.1) (hlen : x.1.1.length ≤ 9223372036854775807) (ha : RsRel w P x ca) (hb : RsRel w Q y cb) :
 Calls Try.prog 22 #[.agg ca.toArray, .agg cb.toArray] w fun e w' => e = .returned (.bool (alike x y)) ∧ Below w.heap.size w w' := by
 obtain ⟨lo1, lc1, rfl, hra⟩ := ha
 obtain ⟨lo2, lc2, rfl, hrb⟩ := hb
 obtain ⟨⟨l1, n1⟩, u1⟩ := x
 obtain ⟨⟨l2, n2⟩, u2⟩ := y
 have HRA := Lib.hid hra
 have HRB := Lib.hid hrb
 have HLIM := Lib.hid hlim
 have HLEN := Lib.hid hlen
 clear hra hrb hlim hlen
 dsimp only [strV]
 obtain ⟨U1, hU1⟩ : ∃ X : ByteArray, (⟨u1.toArray⟩ : ByteArray) = X := ⟨_, rfl⟩
 have gU1 : U1.data.toList = u1 := by rw [← hU1]
 obtain ⟨U2, hU2⟩ : ∃ X : ByteArray, (⟨u2.toArray⟩ : ByteArray) = X := ⟨_, rfl⟩
 have gU2 : U2.data.toList = u2 := by rw [← hU2]
 rw [hU1, hU2]
 clear hU1 hU2
 obtain ⟨W, hW⟩ : ∃ W, (w.alloc (.cells #[.slice lo1 l1.length lc1, .int .u32 (n1 : Int), .string U1] 40)).alloc (.cells #[.slice lo2 l2.length lc2, .int .u32 (n2 : Int), .string U2] 40) = W := ⟨_, rfl⟩
 have HBW : Hid (Below w.heap.size w W) := Lib.hid (by rw [← hW]; exact below_step (below_new _ _) (below_new _ _))
 have HXA : Hid (W.heap[w.heap.size]? = some (.cells #[.slice lo1 l1.length lc1, .int .u32 (n1 : Int), .string U1] 40 (0, 0))) := Lib.hid (by rw [← hW]; exact (Below.heap_alloc _ _ _ (by simp)).trans (heap_alloc_new w _))
 have HXB : Hid (W.heap[w.heap.size + 1]? = some (.cells #[.slice lo2 l2.length lc2, .int .u32 (n2 : Int), .string U2] 40 (0, 0))) := Lib.hid (by rw [← hW]; have := heap_alloc_new (w.alloc (.cells #[.slice lo1 l1.length lc1, .int .u32 (n1 : Int), .string U1] 40)) (.cells #[.slice lo2 l2.length lc2, .int .u32 (n2 : Int), .string U2] 40); simpa using this)
 have HK := Lib.hid (hkeys_same l1 l2 lo1 lo2 lc1 lc2 P Q W HLEN.out HLIM.out (HRA.out.below HBW.out) (HRB.out.below HBW.out))
 have HW := Lib.hid hW
 clear hW
 cases hk : alike l1 l2 with
 | false =>
  have hl : ¬ l1 = l2 := fun h => by rw [alike_yes h] at hk; cases hk
  rw [alike_no (x := ((l1, n1), u1)) (y := ((l2, n2), u2)) (fun h => hl (by simp only [Prod.mk.injEq] at h; exact h.1.1))]
  clear hl  gU1 gU2
  go_enter Try.func22, Try.ntmps22
  go_wp2_with fail
  rw [HW.out]
  refine HK.out.mono ?_; rintro e w4 ⟨rfl, hb4⟩
  rw [hk]
  obtain ⟨xa0, xa1, xa2⟩ := row3 ((hb4.block _ (row_lt HXA.out)).trans HXA.out)
  obtain ⟨xb0, xb1, xb2⟩ := row3 ((hb4.block _ (row_lt HXB.out)).trans HXB.out)
  have HB4 := Lib.hid (below_step HBW.out hb4)
  clear hb4 hk
  go_wp2_with fail
  go_ret
  exact ⟨rfl, HB4.out⟩
 | true =>
 have hl : l1 = l2 := alike_iff.1 hk
 by_cases eN : n1 = n2
 case neg =>
  have dN : ((n1 : Int) == (n2 : Int)) = false := by rw [beq_eq_false_iff_ne]; omega
  rw [alike_no (x := ((l1, n1), u1)) (y := ((l2, n2), u2)) (fun h => eN (by simp only [Prod.mk.injEq] at h; exact h.1.2))]
  clear  eN gU1 gU2 hl
  go_enter Try.func22, Try.ntmps22
  go_wp2_with fail
  rw [HW.out]
  refine HK.out.mono ?_; rintro e w4 ⟨rfl, hb4⟩
  rw [hk]
  obtain ⟨xa0, xa1, xa2⟩ := row3 ((hb4.block _ (row_lt HXA.out)).trans HXA.out)
  obtain ⟨xb0, xb1, xb2⟩ := row3 ((hb4.block _ (row_lt HXB.out)).trans HXB.out)
  have HB4 := Lib.hid (below_step HBW.out hb4)
  clear hb4 hk
  go_wp2_with fail
  go_ret
  exact ⟨rfl, HB4.out⟩
 case pos =>
 have dN : ((n1 : Int) == (n2 : Int)) = true := by rw [beq_iff_eq]; omega
 by_cases eU : u1 = u2
 case neg =>
  have dU := (text_ne gU1 gU2 eU).2
  rw [alike_no (x := ((l1, n1), u1)) (y := ((l2, n2), u2)) (fun h => eU (by simp only [Prod.mk.injEq] at h; exact h.2))]
  clear eN eU gU1 gU2 hl
  go_enter Try.func22, Try.ntmps22
  go_wp2_with fail
  rw [HW.out]
  refine HK.out.mono ?_; rintro e w4 ⟨rfl, hb4⟩
  rw [hk]
  obtain ⟨xa0, xa1, xa2⟩ := row3 ((hb4.block _ (row_lt HXA.out)).trans HXA.out)
  obtain ⟨xb0, xb1, xb2⟩ := row3 ((hb4.block _ (row_lt HXB.out)).trans HXB.out)
  have HB4 := Lib.hid (below_step HBW.out hb4)
  clear hb4 hk
  go_wp2_with fail
  go_ret
  exact ⟨rfl, HB4.out⟩
 case pos =>
 obtain rfl := ba_same gU1 gU2 eU
 rw [alike_yes (x := ((l1, n1), u1)) (y := ((l2, n2), u2)) (by rw [hl, eN, eU])]
 clear hl eN eU gU1 gU2
 go_enter Try.func22, Try.ntmps22
 go_wp2_with fail
 rw [HW.out]
 refine HK.out.mono ?_; rintro e w4 ⟨rfl, hb4⟩
 rw [hk]
 obtain ⟨xa0, xa1, xa2⟩ := row3 ((hb4.block _ (row_lt HXA.out)).trans HXA.out)
 obtain ⟨xb0, xb1, xb2⟩ := row3 ((hb4.block _ (row_lt HXB.out)).trans HXB.out)
 have HB4 := Lib.hid (below_step HBW.out hb4)
 clear hb4 hk
 go_wp2_with fail
 go_ret
 exact ⟨rfl, HB4.out⟩
set_option maxRecDepth 1000000 in
set_option maxHeartbeats 8000000 in
theorem sc_ref (x y : (List UInt8 × List UInt8 × List KV × Nat) × List UInt8) (ca cb : List Value) (P Q : Nat → Prop) (w : World) (hlim : kslim x.1.2.2.1) (hlen : x.1.2.2.1.length ≤ 9223372036854775807) (ha : ScRel w P x ca) (hb : ScRel w Q y cb) :
 Calls Try.prog 16 #[.agg ca.toArray, .agg cb.toArray] w fun e w' => e = .returned (.bool (alike x y)) ∧ Below w.heap.size w w' := by
 obtain ⟨lo1, lc1, rfl, hra⟩ := ha
 obtain ⟨lo2, lc2, rfl, hrb⟩ := hb
 obtain ⟨⟨a1, b1, l1, n1⟩, u1⟩ := x
 obtain ⟨⟨a2, b2, l2, n2⟩, u2⟩ := y
 have HRA := Lib.hid hra
 have HRB := Lib.hid hrb
 have HLIM := Lib.hid hlim
 have HLEN := Lib.hid hlen
 clear hra hrb hlim hlen
 dsimp only [strV]
 obtain ⟨A1, hA1⟩ : ∃ X : ByteArray, (⟨a1.toArray⟩ : ByteArray) = X := ⟨_, rfl⟩
 have gA1 : A1.data.toList = a1 := by rw [← hA1]
 obtain ⟨A2, hA2⟩ : ∃ X : ByteArray, (⟨a2.toArray⟩ : ByteArray) = X := ⟨_, rfl⟩
 have gA2 : A2.data.toList = a2 := by rw [← hA2]
 obtain ⟨B1, hB1⟩ : ∃ X : ByteArray, (⟨b1.toArray⟩ : ByteArray) = X := ⟨_, rfl⟩
 have gB1 : B1.data.toList = b1 := by rw [← hB1]
 obtain ⟨B2, hB2⟩ : ∃ X : ByteArray, (⟨b2.toArray⟩ : ByteArray) = X := ⟨_, rfl⟩
 have gB2 : B2.data.toList = b2 := by rw [← hB2]
 obtain ⟨U1, hU1⟩ : ∃ X : ByteArray, (⟨u1.toArray⟩ : ByteArray) = X := ⟨_, rfl⟩
 have gU1 : U1.data.toList = u1 := by rw [← hU1]
 obtain ⟨U2, hU2⟩ : ∃ X : ByteArray, (⟨u2.toArray⟩ : ByteArray) = X := ⟨_, rfl⟩
 have gU2 : U2.data.toList = u2 := by rw [← hU2]
 rw [hA1, hB1, hU1, hA2, hB2, hU2]
 clear hA1 hB1 hU1 hA2 hB2 hU2
 obtain ⟨W, hW⟩ : ∃ W, (w.alloc (.cells #[.string A1, .string B1, .slice lo1 l1.length lc1, .int .u32 (n1 : Int), .string U1] 25)).alloc (.cells #[.string A2, .string B2, .slice lo2 l2.length lc2, .int .u32 (n2 : Int), .string U2] 25) = W := ⟨_, rfl⟩
 have HBW : Hid (Below w.heap.size w W) := Lib.hid (by rw [← hW]; exact below_step (below_new _ _) (below_new _ _))
 have HXA : Hid (W.heap[w.heap.size]? = some (.cells #[.string A1, .string B1, .slice lo1 l1.length lc1, .int .u32 (n1 : Int), .string U1] 25 (0, 0))) := Lib.hid (by rw [← hW]; exact (Below.heap_alloc _ _ _ (by simp)).trans (heap_alloc_new w _))
 have HXB : Hid (W.heap[w.heap.size + 1]? = some (.cells #[.string A2, .string B2, .slice lo2 l2.length lc2, .int .u32 (n2 : Int), .string U2] 25 (0, 0))) := Lib.hid (by rw [← hW]; have := heap_alloc_new (w.alloc (.cells #[.string A1, .string B1, .slice lo1 l1.length lc1, .int .u32 (n1 : Int), .string U1] 25)) (.cells #[.string A2, .string B2, .slice lo2 l2.length lc2, .int .u32 (n2 : Int), .string U2] 25); simpa using this)
 have HK := Lib.hid (hkeys_same l1 l2 lo1 lo2 lc1 lc2 P Q W HLEN.out HLIM.out (HRA.out.below HBW.out) (HRB.out.below HBW.out))
 have HW := Lib.hid hW
 clear hW
 by_cases eA : a1 = a2
 case neg =>
  have dA := (text_ne gA1 gA2 eA).2
  rw [alike_no (x := ((a1, b1, l1, n1), u1)) (y := ((a2, b2, l2, n2), u2)) (fun h => eA (by simp only [Prod.mk.injEq] at h; exact h.1.1))]
  clear  eA gA1 gA2 gB1 gB2 gU1 gU2
  go_enter Try.func16, Try.ntmps16
  go_wp2_with fail
  rw [HW.out]
  go_ret
  exact ⟨rfl, HBW.out⟩
 case pos =>
 obtain rfl := ba_same gA1 gA2 eA
 by_cases eB : b1 = b2
 case neg =>
  have dB := (text_ne gB1 gB2 eB).2
  rw [alike_no (x := ((a1, b1, l1, n1), u1)) (y := ((a2, b2, l2, n2), u2)) (fun h => eB (by simp only [Prod.mk.injEq] at h; exact h.1.2.1))]
  clear eA eB gA1 gA2 gB1 gB2 gU1 gU2
  go_enter Try.func16, Try.ntmps16
  go_wp2_with fail
  rw [HW.out]
  go_ret
  exact ⟨rfl, HBW.out⟩
 case pos =>
 obtain rfl := ba_same gB1 gB2 eB
 cases hk : alike l1 l2 with
 | false =>
  have hl : ¬ l1 = l2 := fun h => by rw [alike_yes h] at hk; cases hk
  rw [alike_no (x := ((a1, b1, l1, n1), u1)) (y := ((a2, b2, l2, n2), u2)) (fun h => hl (by simp only [Prod.mk.injEq] at h; exact h.1.2.2.1))]
  clear hl eA eB gA1 gA2 gB1 gB2 gU1 gU2
  go_enter Try.func16, Try.ntmps16
  go_wp2_with fail
  rw [HW.out]
  refine HK.out.mono ?_; rintro e w4 ⟨rfl, hb4⟩
  rw [hk]
  obtain ⟨xa0, xa1, xa2, xa3, xa4⟩ := row5 ((hb4.block _ (row_lt HXA.out)).trans HXA.out)
  obtain ⟨xb0, xb1, xb2, xb3, xb4⟩ := row5 ((hb4.block _ (row_lt HXB.out)).trans HXB.out)
  have HB4 := Lib.hid (below_step HBW.out hb4)
  clear hb4 hk
  go_wp2_with fail
  go_ret
  exact ⟨rfl, HB4.out⟩
 | true =>
 have hl : l1 = l2 := alike_iff.1 hk
 by_cases eN : n1 = n2
 case neg =>
  have dN : ((n1 : Int) == (n2 : Int)) = false := by rw [beq_eq_false_iff_ne]; omega
  rw [alike_no (x := ((a1, b1, l1, n1), u1)) (y := ((a2, b2, l2, n2), u2)) (fun h => eN (by simp only [Prod.mk.injEq] at h; exact h.1.2.2.2))]
  clear eA eB eN gA1 gA2 gB1 gB2 gU1 gU2 hl
  go_enter Try.func16, Try.ntmps16
  go_wp2_with fail
  rw [HW.out]
  refine HK.out.mono ?_; rintro e w4 ⟨rfl, hb4⟩
  rw [hk]
  obtain ⟨xa0, xa1, xa2, xa3, xa4⟩ := row5 ((hb4.block _ (row_lt HXA.out)).trans HXA.out)
  obtain ⟨xb0, xb1, xb2, xb3, xb4⟩ := row5 ((hb4.block _ (row_lt HXB.out)).trans HXB.out)
  have HB4 := Lib.hid (below_step HBW.out hb4)
  clear hb4 hk
  go_wp2_with fail
  go_ret
  exact ⟨rfl, HB4.out⟩
 case pos =>
 have dN : ((n1 : Int) == (n2 : Int)) = true := by rw [beq_iff_eq]; omega
 by_cases eU : u1 = u2
 case neg =>
  have dU := (text_ne gU1 gU2 eU).2
  rw [alike_no (x := ((a1, b1, l1, n1), u1)) (y := ((a2, b2, l2, n2), u2)) (fun h => eU (by simp only [Prod.mk.injEq] at h; exact h.2))]
  clear eA eB eN eU gA1 gA2 gB1 gB2 gU1 gU2 hl
  go_enter Try.func16, Try.ntmps16
  go_wp2_with fail
  rw [HW.out]
  refine HK.out.mono ?_; rintro e w4 ⟨rfl, hb4⟩
  rw [hk]
  obtain ⟨xa0, xa1, xa2, xa3, xa4⟩ := row5 ((hb4.block _ (row_lt HXA.out)).trans HXA.out)
  obtain ⟨xb0, xb1, xb2, xb3, xb4⟩ := row5 ((hb4.block _ (row_lt HXB.out)).trans HXB.out)
  have HB4 := Lib.hid (below_step HBW.out hb4)
  clear hb4 hk
  go_wp2_with fail
  go_ret
  exact ⟨rfl, HB4.out⟩
 case pos =>
 obtain rfl := ba_same gU1 gU2 eU
 rw [alike_yes (x := ((a1, b1, l1, n1), u1)) (y := ((a2, b2, l2, n2), u2)) (by rw [hl, eA, eB, eN, eU])]
 clear hl eA eB eN eU gA1 gA2 gB1 gB2 gU1 gU2
 go_enter Try.func16, Try.ntmps16
 go_wp2_with fail
 rw [HW.out]
 refine HK.out.mono ?_; rintro e w4 ⟨rfl, hb4⟩
 rw [hk]
 obtain ⟨xa0, xa1, xa2, xa3, xa4⟩ := row5 ((hb4.block _ (row_lt HXA.out)).trans HXA.out)
 obtain ⟨xb0, xb1, xb2, xb3, xb4⟩ := row5 ((hb4.block _ (row_lt HXB.out)).trans HXB.out)
 have HB4 := Lib.hid (below_step HBW.out hb4)
 clear hb4 hk
 go_wp2_with fail
 go_ret
 exact ⟨rfl, HB4.out⟩
end Go.Proofs.Ytbdbmkmebeemoaa
namespace Go.Proofs.Ytbdbmkmebeemoaa
open Go.RowKit
def RowT (T : TypeId) (w : World) (g : Nat) (c : List Value) : Prop := w.heap[g]? = some (.cells c.toArray T (0, 0))
set_option maxRecDepth 1000000 in
set_option maxHeartbeats 8000000 in
theorem rs_room (x : (List KV × Nat) × List UInt8) (cs : List Value) (P : Nat → Prop) (w : World) (room : Int) (hlim : kslim x.1.1) (hfit : ksfit x.1.1) (hlen : x.1.1.length ≤ 9223372036854775807) (hu : x.2.length ≤ 9223372036854775807) (hr : RsRel w P x cs) (hro : -1 ≤ room ∧ room ≤ 1000000) :
 Calls Try.prog 20 #[.agg cs.toArray, .int .i64 room] w (RmPost room (20 + x.2.length + ksw x.1.1) w) := by
 obtain ⟨lo, lc, rfl, hr⟩ := hr
 obtain ⟨⟨l, n⟩, u⟩ := x
 have HR := Lib.hid hr
 have HLIM := Lib.hid hlim
 have HFIT := Lib.hid hfit
 have HLEN := Lib.hid hlen
 have HRO := Lib.hid hro
 clear hr hlim hfit hlen hro
 dsimp only [strV]
 obtain ⟨U, eU⟩ : ∃ X : ByteArray, (⟨u.toArray⟩ : ByteArray) = X := ⟨_, rfl⟩
 have HUS : Hid (U.size = u.length) := Lib.hid (by rw [← eU]; rfl)
 have HUB : Hid (U.size ≤ 9223372036854775807) := Lib.hid (by rw [HUS.out]; exact hu)
 rw [eU]
 clear eU hu
 obtain ⟨W, hW⟩ : ∃ W, w.alloc (.cells #[.slice lo l.length lc, .int .u32 (n : Int), .string U] 40) = W := ⟨_, rfl⟩
 have HB0 : Hid (Below w.heap.size w W) := Lib.hid (by rw [← hW]; exact below_new _ _)
 have HX0 : Hid (RowT 40 W w.heap.size [.slice lo l.length lc, .int .u32 (n : Int), .string U]) := Lib.hid (by rw [← hW]; exact heap_alloc_new w _)
 have HW := Lib.hid hW
 clear hW
 go_enter Try.func20, Try.ntmps20
 go_wp2_with fail
 rw [HW.out]
 obtain ⟨D, hD⟩ : ∃ D, W.drew = D := ⟨_, rfl⟩
 have HBD : Hid (Below W.heap.size W D) := Lib.hid (by rw [← hD]; exact (Below.refl _ _).drew)
 have hS : RowT 40 D w.heap.size [.slice lo l.length lc, .int .u32 (n : Int), .string U] := (HBD.out.block _ (row_lt HX0.out)).trans HX0.out
 have hne : Nonempty {w' : World // RowT 40 w' w.heap.size [.slice lo l.length lc, .int .u32 (n : Int), .string U]} := ⟨⟨_, hS⟩⟩
 have el : ∀ a : World, RowT 40 a w.heap.size [.slice lo l.length lc, .int .u32 (n : Int), .string U] → a.cell? ⟨w.heap.size, 0, none⟩ = some (.slice lo l.length lc) := fun a ha => row_cell ha (j := 0) rfl
 have eu : ∀ a : World, RowT 40 a w.heap.size [.slice lo l.length lc, .int .u32 (n : Int), .string U] → a.cell? ⟨w.heap.size, 2, none⟩ = some (.string U) := fun a ha => row_cell ha (j := 2) rfl
 have HRD := Lib.hid (HR.out.below (below_step HB0.out HBD.out))
 refine wp_region_seq (S := fun w' => RowT 40 w' w.heap.size [.slice lo l.length lc, .int .u32 (n : Int), .string U]) [(0, true), (1, true), (2, true), (3, true), (4, true), (5, true), (6, false), (7, false), (8, true)] (by kernel_rfl) (by kernel_rfl) (by kernel_rfl) (by kernel_rfl) (by rw [hD]; exact hS) ?_
 rw [hD]
 clear hD
 refine seq_take _ rfl (fun K2 hK => ?_); go_simp; (first | refine hK _ ?_ | refine ⟨_, fun _ _ => rfl, hK _ ?_⟩); clear hK K2
 refine seq_take _ rfl (fun K2 hK => ?_); go_simp
 refine ⟨.slice lo l.length lc, fun a ha => by rw [el a ha]; rfl, hK _ ?_⟩; clear hK K2
 refine seq_take _ rfl (fun K2 hK => ?_); go_simp; (first | refine hK _ ?_ | refine ⟨_, fun _ _ => rfl, hK _ ?_⟩); clear hK K2
 refine seq_take _ rfl (fun K2 hK => ?_); go_simp; (first | refine hK _ ?_ | refine ⟨_, fun _ _ => rfl, hK _ ?_⟩); clear hK K2
 refine seq_take _ rfl (fun K2 hK => ?_); go_simp
 refine ⟨.string U, fun a ha => by rw [eu a ha]; rfl, hK _ ?_⟩; clear hK K2
 refine seq_take _ rfl (fun K2 hK => ?_); go_simp; (first | refine hK _ ?_ | refine ⟨_, fun _ _ => rfl, hK _ ?_⟩); clear hK K2
 refine seq_come _ rfl (fun K2 hK => ?_); go_simp
 refine (roomtake_any room U.size D HRO.out HUB.out).mono ?_; rintro e w4 ⟨rfl, r1, rfl, HR1⟩
 have HB1 := Lib.hid (HR1.out.le HRO.out)
 go_simp; refine hK.out _ _ hS ?_; clear hK K2
 refine seq_come _ rfl (fun K2 hK => ?_); go_simp
 refine (roomks_any l lo lc P D 40 r1 HLEN.out HLIM.out HFIT.out HRD.out (by omega) HB1.out).mono ?_; rintro e w5 ⟨hb5, r9, rfl, HR9⟩
 have HB5 := Lib.hid (below_step (below_step HB0.out HBD.out) hb5)
 go_simp; refine hK.out _ _ ((hb5.block _ (row_lt hS)).trans hS) ?_; clear hK K2
 clear hb5
 refine seq_take _ rfl (fun K2 hK => ?_); go_simp; (first | refine hK _ ?_ | refine ⟨_, fun _ _ => rfl, hK _ ?_⟩); clear hK K2
 refine seq_done ?_
 go_wp2_with fail
 go_ret
 refine ⟨HB5.out, r9, rfl, Lib.hid ?_⟩
 have h1 := (HR1.out).then HR9.out
 have su := HUS.out
 unfold RoomOk at h1 ⊢
 try dsimp only
 omega
set_option maxRecDepth 1000000 in
set_option maxHeartbeats 8000000 in
theorem sc_room (x : (List UInt8 × List UInt8 × List KV × Nat) × List UInt8) (cs : List Value) (P : Nat → Prop) (w : World) (room : Int) (hlim : kslim x.1.2.2.1) (hfit : ksfit x.1.2.2.1) (hlen : x.1.2.2.1.length ≤ 9223372036854775807) (ha : x.1.1.length ≤ 9223372036854775807) (hb : x.1.2.1.length ≤ 9223372036854775807) (hu : x.2.length ≤ 9223372036854775807) (hr : ScRel w P x cs) (hro : -1 ≤ room ∧ room ≤ 1000000) :
 Calls Try.prog 14 #[.agg cs.toArray, .int .i64 room] w (RmPost room (60 + x.1.1.length + x.1.2.1.length + x.2.length + ksw x.1.2.2.1) w) := by
 obtain ⟨lo, lc, rfl, hr⟩ := hr
 obtain ⟨⟨a, b, l, n⟩, u⟩ := x
 have HR := Lib.hid hr
 have HLIM := Lib.hid hlim
 have HFIT := Lib.hid hfit
 have HLEN := Lib.hid hlen
 have HRO := Lib.hid hro
 clear hr hlim hfit hlen hro
 dsimp only [strV]
 obtain ⟨A, eA⟩ : ∃ X : ByteArray, (⟨a.toArray⟩ : ByteArray) = X := ⟨_, rfl⟩
 have HAS : Hid (A.size = a.length) := Lib.hid (by rw [← eA]; rfl)
 have HAB : Hid (A.size ≤ 9223372036854775807) := Lib.hid (by rw [HAS.out]; exact ha)
 obtain ⟨B, eB⟩ : ∃ X : ByteArray, (⟨b.toArray⟩ : ByteArray) = X := ⟨_, rfl⟩
 have HBS : Hid (B.size = b.length) := Lib.hid (by rw [← eB]; rfl)
 have HBB : Hid (B.size ≤ 9223372036854775807) := Lib.hid (by rw [HBS.out]; exact hb)
 obtain ⟨U, eU⟩ : ∃ X : ByteArray, (⟨u.toArray⟩ : ByteArray) = X := ⟨_, rfl⟩
 have HUS : Hid (U.size = u.length) := Lib.hid (by rw [← eU]; rfl)
 have HUB : Hid (U.size ≤ 9223372036854775807) := Lib.hid (by rw [HUS.out]; exact hu)
 rw [eA, eB, eU]
 clear eA ha eB hb eU hu
 obtain ⟨W, hW⟩ : ∃ W, w.alloc (.cells #[.string A, .string B, .slice lo l.length lc, .int .u32 (n : Int), .string U] 25) = W := ⟨_, rfl⟩
 have HB0 : Hid (Below w.heap.size w W) := Lib.hid (by rw [← hW]; exact below_new _ _)
 have HX0 : Hid (RowT 25 W w.heap.size [.string A, .string B, .slice lo l.length lc, .int .u32 (n : Int), .string U]) := Lib.hid (by rw [← hW]; exact heap_alloc_new w _)
 have HW := Lib.hid hW
 clear hW
 go_enter Try.func14, Try.ntmps14
 go_wp2_with fail
 rw [HW.out]
 obtain ⟨D, hD⟩ : ∃ D, W.drew = D := ⟨_, rfl⟩
 have HBD : Hid (Below W.heap.size W D) := Lib.hid (by rw [← hD]; exact (Below.refl _ _).drew)
 have hS : RowT 25 D w.heap.size [.string A, .string B, .slice lo l.length lc, .int .u32 (n : Int), .string U] := (HBD.out.block _ (row_lt HX0.out)).trans HX0.out
 have hne : Nonempty {w' : World // RowT 25 w' w.heap.size [.string A, .string B, .slice lo l.length lc, .int .u32 (n : Int), .string U]} := ⟨⟨_, hS⟩⟩
 have el : ∀ a : World, RowT 25 a w.heap.size [.string A, .string B, .slice lo l.length lc, .int .u32 (n : Int), .string U] → a.cell? ⟨w.heap.size, 2, none⟩ = some (.slice lo l.length lc) := fun a ha => row_cell ha (j := 2) rfl
 have ea : ∀ a : World, RowT 25 a w.heap.size [.string A, .string B, .slice lo l.length lc, .int .u32 (n : Int), .string U] → a.cell? ⟨w.heap.size, 0, none⟩ = some (.string A) := fun a ha => row_cell ha (j := 0) rfl
 have eb : ∀ a : World, RowT 25 a w.heap.size [.string A, .string B, .slice lo l.length lc, .int .u32 (n : Int), .string U] → a.cell? ⟨w.heap.size, 1, none⟩ = some (.string B) := fun a ha => row_cell ha (j := 1) rfl
 have eu : ∀ a : World, RowT 25 a w.heap.size [.string A, .string B, .slice lo l.length lc, .int .u32 (n : Int), .string U] → a.cell? ⟨w.heap.size, 4, none⟩ = some (.string U) := fun a ha => row_cell ha (j := 4) rfl
 have HRD := Lib.hid (HR.out.below (below_step HB0.out HBD.out))
 refine wp_region_seq (S := fun w' => RowT 25 w' w.heap.size [.string A, .string B, .slice lo l.length lc, .int .u32 (n : Int), .string U]) [(0, true), (1, true), (2, true), (3, true), (4, true), (5, true), (7, true), (8, true), (9, true), (11, true), (12, true), (13, true), (6, false), (10, false), (14, false), (15, false), (16, true)] (by kernel_rfl) (by kernel_rfl) (by kernel_rfl) (by kernel_rfl) (by rw [hD]; exact hS) ?_
 rw [hD]
 clear hD
 refine seq_take _ rfl (fun K2 hK => ?_); go_simp; (first | refine hK _ ?_ | refine ⟨_, fun _ _ => rfl, hK _ ?_⟩); clear hK K2
 refine seq_take _ rfl (fun K2 hK => ?_); go_simp
 refine ⟨.slice lo l.length lc, fun a ha => by rw [el a ha]; rfl, hK _ ?_⟩; clear hK K2
 refine seq_take _ rfl (fun K2 hK => ?_); go_simp; (first | refine hK _ ?_ | refine ⟨_, fun _ _ => rfl, hK _ ?_⟩); clear hK K2
 refine seq_take _ rfl (fun K2 hK => ?_); go_simp; (first | refine hK _ ?_ | refine ⟨_, fun _ _ => rfl, hK _ ?_⟩); clear hK K2
 refine seq_take _ rfl (fun K2 hK => ?_); go_simp
 refine ⟨.string A, fun a ha => by rw [ea a ha]; rfl, hK _ ?_⟩; clear hK K2
 refine seq_take _ rfl (fun K2 hK => ?_); go_simp; (first | refine hK _ ?_ | refine ⟨_, fun _ _ => rfl, hK _ ?_⟩); clear hK K2
 refine seq_take _ rfl (fun K2 hK => ?_); go_simp; (first | refine hK _ ?_ | refine ⟨_, fun _ _ => rfl, hK _ ?_⟩); clear hK K2
 refine seq_take _ rfl (fun K2 hK => ?_); go_simp
 refine ⟨.string B, fun a ha => by rw [eb a ha]; rfl, hK _ ?_⟩; clear hK K2
 refine seq_take _ rfl (fun K2 hK => ?_); go_simp; (first | refine hK _ ?_ | refine ⟨_, fun _ _ => rfl, hK _ ?_⟩); clear hK K2
 refine seq_take _ rfl (fun K2 hK => ?_); go_simp; (first | refine hK _ ?_ | refine ⟨_, fun _ _ => rfl, hK _ ?_⟩); clear hK K2
 refine seq_take _ rfl (fun K2 hK => ?_); go_simp
 refine ⟨.string U, fun a ha => by rw [eu a ha]; rfl, hK _ ?_⟩; clear hK K2
 refine seq_take _ rfl (fun K2 hK => ?_); go_simp; (first | refine hK _ ?_ | refine ⟨_, fun _ _ => rfl, hK _ ?_⟩); clear hK K2
 refine seq_come _ rfl (fun K2 hK => ?_); go_simp
 refine (roomtake_any room A.size D HRO.out HAB.out).mono ?_; rintro e w4 ⟨rfl, r1, rfl, HR1⟩
 have HB1 := Lib.hid (HR1.out.le HRO.out)
 go_simp; refine hK.out _ _ hS ?_; clear hK K2
 refine seq_come _ rfl (fun K2 hK => ?_); go_simp
 refine (roomtake_any r1 B.size D HB1.out HBB.out).mono ?_; rintro e w4 ⟨rfl, r2, rfl, HR2⟩
 have HB2 := Lib.hid (HR2.out.le HB1.out)
 go_simp; refine hK.out _ _ hS ?_; clear hK K2
 refine seq_come _ rfl (fun K2 hK => ?_); go_simp
 refine (roomtake_any r2 U.size D HB2.out HUB.out).mono ?_; rintro e w4 ⟨rfl, r3, rfl, HR3⟩
 have HB3 := Lib.hid (HR3.out.le HB2.out)
 go_simp; refine hK.out _ _ hS ?_; clear hK K2
 refine seq_come _ rfl (fun K2 hK => ?_); go_simp
 refine (roomks_any l lo lc P D 40 r3 HLEN.out HLIM.out HFIT.out HRD.out (by omega) HB3.out).mono ?_; rintro e w5 ⟨hb5, r9, rfl, HR9⟩
 have HB5 := Lib.hid (below_step (below_step HB0.out HBD.out) hb5)
 go_simp; refine hK.out _ _ ((hb5.block _ (row_lt hS)).trans hS) ?_; clear hK K2
 clear hb5
 refine seq_take _ rfl (fun K2 hK => ?_); go_simp; (first | refine hK _ ?_ | refine ⟨_, fun _ _ => rfl, hK _ ?_⟩); clear hK K2
 refine seq_done ?_
 go_wp2_with fail
 go_ret
 refine ⟨HB5.out, r9, rfl, Lib.hid ?_⟩
 have h1 := (((HR1.out).then HR2.out).then HR3.out).then HR9.out
 have sa := HAS.out
 have sb := HBS.out
 have su := HUS.out
 unfold RoomOk at h1 ⊢
 try dsimp only
 omega
end Go.Proofs.Ytbdbmkmebeemoaa
namespace Go.Proofs.Ytbdbmkmebeemoaa
open Go.RowKit Go.ChangeShapes Go.WideShapes Go.ChangeAt Go.Deep
set_option maxRecDepth 1000000 in
theorem rs_shape : ∃ f0 f1 f2 : Field, Try.prog.underlying 40 = some (.struct #[f0, f1, f2]) ∧ Try.prog.cellsOf 40 = 3 ∧
  (f0.offset = 0 ∧ f1.offset = 1 ∧ f2.offset = 2) ∧
  (Try.prog.cellsOf f0.type = 1 ∧ Try.prog.cellsOf f1.type = 1 ∧ Try.prog.cellsOf f2.type = 1) ∧
  (Try.prog.underlying f0.type = some (.slice 63) ∧ Try.prog.underlying f1.type = some (.int .u32) ∧ Try.prog.underlying f2.type = some .string) :=
 ⟨_, _, _, Try.underlying40, by kernel_rfl, ⟨by kernel_rfl, by kernel_rfl, by kernel_rfl⟩, ⟨by kernel_rfl, by kernel_rfl, by kernel_rfl⟩, ⟨by kernel_rfl, by kernel_rfl, by kernel_rfl⟩⟩
set_option maxRecDepth 1000000 in
theorem open_Res {H : Type} {enc : TypeId × Value → H} {W : World} {sp : Nat → Bool} {base : Nat} {v : Value} {d : DataW H} {p : List MemPlace} (hv : Value.okWide Try.prog W .any base 40 v) (h : DataW.Trod enc Try.prog W 0 sp true 40 v d p) :
  ∃ (x : (List KV × Nat) × List UInt8) (cs : List Value), v = .agg cs.toArray ∧ RsRel W (fun k => k < W.heap.size) x cs ∧ kslim x.1.1 ∧ ksfit x.1.1 ∧ x.1.1.length ≤ 9223372036854775807 ∧ x.1.2 < 4294967296 ∧ x.2.length ≤ 9223372036854775807 := by
 obtain ⟨cs, rfl, hsz⟩ := okWide_struct Try.underlying40 hv
 obtain ⟨fuel, hf⟩ := h
 obtain ⟨f0, f1, f2, hT, ce, ⟨o0, o1, o2⟩, ⟨c0, c1, c2⟩, ⟨t0, t1, t2⟩⟩ := rs_shape
 obtain ⟨xs, n', hf', _, hl, hlen, hx⟩ := DataW.trod_struct hT hf
 rw [ce] at hl
 obtain ⟨V0, V1, V2, hcs⟩ : ∃ V0 V1 V2, cs.toList = [V0, V1, V2] := by
  match cs.toList, hl with
  | [q0, q1, q2], _ => exact ⟨q0, q1, q2, rfl⟩
 have hce : (Value.agg cs).cells.toList = [V0, V1, V2] := hcs
 match xs, hlen with
 | [y0, y1, y2], _ =>
 have g0 := hx 0 f0 rfl
 have g1 := hx 1 f1 rfl
 have g2 := hx 2 f2 rfl
 rw [o0, c0, hce] at g0
 rw [o1, c1, hce] at g1
 rw [o2, c2, hce] at g2
 obtain ⟨lo, lc, l, e0, b0, r0, m0, n0⟩ := kslice_tree t0 (fun q hq => (tree_all (enc := enc) (W := W) (sp := sp) (q + 1) q (by omega)).2) g0
 obtain ⟨z, e1, _, w1⟩ := DataW.trod_int t1 g1
 obtain ⟨u, e2, _, w2⟩ := DataW.trod_string t2 g2
 simp only [List.drop_zero, List.drop_succ_cons, List.take_succ_cons, List.take_zero, List.cons.injEq, and_true] at e0 e1 e2
 subst e0 e1 e2
 simp [Lit.wf, IntKind.min, IntKind.max, IntKind.signed, IntKind.bits] at w1
 obtain ⟨k, rfl⟩ : ∃ k : Nat, z = (k : Int) := ⟨z.toNat, by omega⟩
 have w2' : u.size ≤ 9223372036854775807 := w2
 refine ⟨((l, k), u.data.toList), cs.toList, by simp, ⟨lo, lc, by rw [hcs]; simp [strV], r0⟩, m0, n0, b0, by show k < _; omega, by simpa using w2'⟩
set_option maxRecDepth 1000000 in
theorem sc_shape : ∃ f0 f1 f2 f3 f4 : Field, Try.prog.underlying 25 = some (.struct #[f0, f1, f2, f3, f4]) ∧ Try.prog.cellsOf 25 = 5 ∧
  (f0.offset = 0 ∧ f1.offset = 1 ∧ f2.offset = 2 ∧ f3.offset = 3 ∧ f4.offset = 4) ∧
  (Try.prog.cellsOf f0.type = 1 ∧ Try.prog.cellsOf f1.type = 1 ∧ Try.prog.cellsOf f2.type = 1 ∧ Try.prog.cellsOf f3.type = 1 ∧ Try.prog.cellsOf f4.type = 1) ∧
  (Try.prog.underlying f0.type = some .string ∧ Try.prog.underlying f1.type = some .string ∧ Try.prog.underlying f2.type = some (.slice 63) ∧ Try.prog.underlying f3.type = some (.int .u32) ∧ Try.prog.underlying f4.type = some .string) :=
 ⟨_, _, _, _, _, Try.underlying25, by kernel_rfl, ⟨by kernel_rfl, by kernel_rfl, by kernel_rfl, by kernel_rfl, by kernel_rfl⟩, ⟨by kernel_rfl, by kernel_rfl, by kernel_rfl, by kernel_rfl, by kernel_rfl⟩, ⟨by kernel_rfl, by kernel_rfl, by kernel_rfl, by kernel_rfl, by kernel_rfl⟩⟩
set_option maxRecDepth 1000000 in
theorem open_Sco {H : Type} {enc : TypeId × Value → H} {W : World} {sp : Nat → Bool} {base : Nat} {v : Value} {d : DataW H} {p : List MemPlace} (hv : Value.okWide Try.prog W .any base 25 v) (h : DataW.Trod enc Try.prog W 0 sp true 25 v d p) :
  ∃ (x : (List UInt8 × List UInt8 × List KV × Nat) × List UInt8) (cs : List Value), v = .agg cs.toArray ∧ ScRel W (fun k => k < W.heap.size) x cs ∧ kslim x.1.2.2.1 ∧ ksfit x.1.2.2.1 ∧ x.1.2.2.1.length ≤ 9223372036854775807 ∧ x.1.2.2.2 < 4294967296 ∧ x.1.1.length ≤ 9223372036854775807 ∧ x.1.2.1.length ≤ 9223372036854775807 ∧ x.2.length ≤ 9223372036854775807 := by
 obtain ⟨cs, rfl, hsz⟩ := okWide_struct Try.underlying25 hv
 obtain ⟨fuel, hf⟩ := h
 obtain ⟨f0, f1, f2, f3, f4, hT, ce, ⟨o0, o1, o2, o3, o4⟩, ⟨c0, c1, c2, c3, c4⟩, ⟨t0, t1, t2, t3, t4⟩⟩ := sc_shape
 obtain ⟨xs, n', hf', _, hl, hlen, hx⟩ := DataW.trod_struct hT hf
 rw [ce] at hl
 obtain ⟨V0, V1, V2, V3, V4, hcs⟩ : ∃ V0 V1 V2 V3 V4, cs.toList = [V0, V1, V2, V3, V4] := by
  match cs.toList, hl with
  | [q0, q1, q2, q3, q4], _ => exact ⟨q0, q1, q2, q3, q4, rfl⟩
 have hce : (Value.agg cs).cells.toList = [V0, V1, V2, V3, V4] := hcs
 match xs, hlen with
 | [y0, y1, y2, y3, y4], _ =>
 have g0 := hx 0 f0 rfl
 have g1 := hx 1 f1 rfl
 have g2 := hx 2 f2 rfl
 have g3 := hx 3 f3 rfl
 have g4 := hx 4 f4 rfl
 rw [o0, c0, hce] at g0
 rw [o1, c1, hce] at g1
 rw [o2, c2, hce] at g2
 rw [o3, c3, hce] at g3
 rw [o4, c4, hce] at g4
 obtain ⟨a, e0, _, w0⟩ := DataW.trod_string t0 g0
 obtain ⟨b, e1, _, w1⟩ := DataW.trod_string t1 g1
 obtain ⟨lo, lc, l, e2, b2, r2, m2, n2⟩ := kslice_tree t2 (fun q hq => (tree_all (enc := enc) (W := W) (sp := sp) (q + 1) q (by omega)).2) g2
 obtain ⟨z, e3, _, w3⟩ := DataW.trod_int t3 g3
 obtain ⟨u, e4, _, w4⟩ := DataW.trod_string t4 g4
 simp only [List.drop_zero, List.drop_succ_cons, List.take_succ_cons, List.take_zero, List.cons.injEq, and_true] at e0 e1 e2 e3 e4
 subst e0 e1 e2 e3 e4
 simp [Lit.wf, IntKind.min, IntKind.max, IntKind.signed, IntKind.bits] at w3
 obtain ⟨k, rfl⟩ : ∃ k : Nat, z = (k : Int) := ⟨z.toNat, by omega⟩
 have w0' : a.size ≤ 9223372036854775807 := w0
 have w1' : b.size ≤ 9223372036854775807 := w1
 have w4' : u.size ≤ 9223372036854775807 := w4
 refine ⟨((a.data.toList, b.data.toList, l, k), u.data.toList), cs.toList, by simp, ⟨lo, lc, by rw [hcs]; simp [strV], r2⟩, m2, n2, b2, by show k < _; omega, by simpa using w0', by simpa using w1', by simpa using w4'⟩
end Go.Proofs.Ytbdbmkmebeemoaa
