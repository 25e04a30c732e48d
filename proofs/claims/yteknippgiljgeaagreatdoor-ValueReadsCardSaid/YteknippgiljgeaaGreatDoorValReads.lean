/-
  hyglaw8.ValueReads.
-/
import Derived.Test.YteknippgiljgeaaGreatDoorRefValue
import Derived.Test.YteknippgiljgeaaGreatDoorAlike
import Derived.Test.YteknippgiljgeaaGreatDoorVal
import Derived.Test.YteknippgiljgeaaGreatDoorFirst8
import Derived.Test.YteknippgiljgeaaGreatDoorDoor
namespace Go.Proofs.YteknippgiljgeaaGreatDoor
open Go.RowKit

theorem kzero_rel (w : World) (P : Nat → Prop) : KRel w P (.mk [] false (.mk 0 [] false 0 [] [] [] []) []) [.string ⟨#[]⟩, .bool false, .int .i64 0, .string ⟨#[]⟩, .bool false, .int .u64 0, .slice none 0 0, .slice none 0 0, .string ⟨#[]⟩, .string ⟨#[]⟩, .string ⟨#[]⟩] := krel_make [] false [] (vrel_plain w P 0 [] false 0)
theorem kzero_lim : klim (.mk [] false (.mk 0 [] false 0 [] [] [] []) []) := by rw [klim]; exact vzero_lim
set_option maxRecDepth 1000000 in
set_option maxHeartbeats 16000000 in
theorem vreads_walk_ee (s : ByteArray) (d : Int) (w : World) (hs : s.size ≤ 4000) (hd : -9223372036854775808 ≤ d ∧ d ≤ 9223372036854775807) (hg : Glob w) {c : Nat} (hv : vread 4001 s.data.toList d = .error c) {c2 : Nat} (hk : kread 4001 s.data.toList d = .error c2) :
    Calls Tryz.prog 3 #[.string s, .int .i64 d] w fun e w' => e = .returned (.bool true) ∧ Below w.heap.size w w' := by
  have HG := Lib.hid hg
  have HU := Lib.hid (fun w' => (both_any 4001 s d w' (by omega) (by omega) hd).1)
  have HUK := Lib.hid (fun w' => (both_any 4001 s d w' (by omega) (by omega) hd).2)
  have HR := Lib.hid (fun w' => (both8_any 4001 s d w' (by omega) (by omega) hd).1)
  have HRK := Lib.hid (fun w' => (both8_any 4001 s d w' (by omega) (by omega) hd).2)
  have hsl : s.data.toList.length = s.size := by simp
  have HCV := Lib.hid ((both_code 4001).1 _ _ _ hv)
  have HCK := Lib.hid ((both_code 4001).2 _ _ _ hk)
  have HV := Lib.hid hv
  have HK := Lib.hid hk
  have d0 : decide ((4000 : Int) < (s.size : Int)) = false := decide_eq_false (by omega)
  clear hg hd hv hk hsl
  go_enter Tryz.func3, Tryz.ntmps3
  go_wp2_with fail
  refine (first8 w HG.out).mono ?_; rintro e w1 ⟨rfl, hb1⟩
  have HB_w_w1 := Lib.hid (hb1)
  clear hb1
  go_wp2_with fail
  refine (HU.out w1).mono ?_; intro e w2 hpost
  obtain ⟨hb, hcase⟩ := hpost
  rw [HV.out] at hcase
  have HB_w_w2 := Lib.hid (below_step HB_w_w1.out (hb))
  obtain ⟨v, q, rfl, hq, hew⟩ := hcase
  obtain ⟨TT1, y1, rfl⟩ := hew.iface
  have HEW1 := Lib.hid hew
  have HQ1 := Lib.hid hq
  clear hew hq
  clear hb
  unfold vzero
  go_wp2_with fail
  obtain ⟨bl1, hbl⟩ : ∃ bx, w2.heap.size = bx := ⟨_, rfl⟩
  obtain ⟨W3, hW⟩ : ∃ W, w2.alloc (.cells #[.int .i64 0, .string ⟨#[]⟩, .bool false, .int .u64 0, .slice none 0 0, .slice none 0 0, .string ⟨#[]⟩, .string ⟨#[]⟩] 27) = W := ⟨_, rfl⟩
  have hbn : Below w2.heap.size w2 W3 := by rw [← hW]; exact below_new _ _
  have hxn : W3.heap[bl1]? = some (.cells #[.int .i64 0, .string ⟨#[]⟩, .bool false, .int .u64 0, .slice none 0 0, .slice none 0 0, .string ⟨#[]⟩, .string ⟨#[]⟩] 27 (0, 0)) := by rw [← hW, ← hbl]; exact heap_alloc_new _ _
  rw [hW, hbl]
  have HB_w_W3 := Lib.hid (below_step HB_w_w2.out (hbn))
  have HB_w2_W3 := Lib.hid (hbn)
  have HX1_W3 := Lib.hid hxn
  clear hW hbl hbn hxn
  refine (HR.out W3).mono ?_; intro e w4 hpost
  obtain ⟨hb, hcase⟩ := hpost
  rw [HV.out] at hcase
  have HB_w_w4 := Lib.hid (below_step HB_w_W3.out (hb))
  have HB_w2_w4 := Lib.hid (below_step HB_w2_W3.out (hb))
  have HX1_w4 : Hid (w4.heap[bl1]? = some (.cells #[.int .i64 0, .string ⟨#[]⟩, .bool false, .int .u64 0, .slice none 0 0, .slice none 0 0, .string ⟨#[]⟩, .string ⟨#[]⟩] 27 (0, 0))) := Lib.hid (((hb).block _ (row_lt HX1_W3.out)).trans HX1_W3.out)
  subst hcase
  clear hb
  unfold vzero
  go_wp2_with fail
  obtain ⟨bl2, hbl⟩ : ∃ bx, w4.heap.size = bx := ⟨_, rfl⟩
  obtain ⟨W5, hW⟩ : ∃ W, w4.alloc (.cells #[.int .i64 0, .string ⟨#[]⟩, .bool false, .int .u64 0, .slice none 0 0, .slice none 0 0, .string ⟨#[]⟩, .string ⟨#[]⟩] 27) = W := ⟨_, rfl⟩
  have hbn : Below w4.heap.size w4 W5 := by rw [← hW]; exact below_new _ _
  have hxn : W5.heap[bl2]? = some (.cells #[.int .i64 0, .string ⟨#[]⟩, .bool false, .int .u64 0, .slice none 0 0, .slice none 0 0, .string ⟨#[]⟩, .string ⟨#[]⟩] 27 (0, 0)) := by rw [← hW, ← hbl]; exact heap_alloc_new _ _
  rw [hW, hbl]
  have HB_w_W5 := Lib.hid (below_step HB_w_w4.out (hbn))
  have HB_w2_W5 := Lib.hid (below_step HB_w2_w4.out (hbn))
  have HB_w4_W5 := Lib.hid (hbn)
  have HX1_W5 : Hid (W5.heap[bl1]? = some (.cells #[.int .i64 0, .string ⟨#[]⟩, .bool false, .int .u64 0, .slice none 0 0, .slice none 0 0, .string ⟨#[]⟩, .string ⟨#[]⟩] 27 (0, 0))) := Lib.hid (((hbn).block _ (row_lt HX1_w4.out)).trans HX1_w4.out)
  have HX2_W5 := Lib.hid hxn
  clear hW hbl hbn hxn
  refine (HUK.out W5).mono ?_; intro e w6 hpost
  obtain ⟨hb, hcase⟩ := hpost
  rw [HK.out] at hcase
  have HB_w_w6 := Lib.hid (below_step HB_w_W5.out (hb))
  have HB_w2_w6 := Lib.hid (below_step HB_w2_W5.out (hb))
  have HB_w4_w6 := Lib.hid (below_step HB_w4_W5.out (hb))
  have HX1_w6 : Hid (w6.heap[bl1]? = some (.cells #[.int .i64 0, .string ⟨#[]⟩, .bool false, .int .u64 0, .slice none 0 0, .slice none 0 0, .string ⟨#[]⟩, .string ⟨#[]⟩] 27 (0, 0))) := Lib.hid (((hb).block _ (row_lt HX1_W5.out)).trans HX1_W5.out)
  have HX2_w6 : Hid (w6.heap[bl2]? = some (.cells #[.int .i64 0, .string ⟨#[]⟩, .bool false, .int .u64 0, .slice none 0 0, .slice none 0 0, .string ⟨#[]⟩, .string ⟨#[]⟩] 27 (0, 0))) := Lib.hid (((hb).block _ (row_lt HX2_W5.out)).trans HX2_W5.out)
  obtain ⟨v, q, rfl, hq, hew⟩ := hcase
  obtain ⟨TT3, y3, rfl⟩ := hew.iface
  have HEW3 := Lib.hid hew
  have HQ3 := Lib.hid hq
  clear hew hq
  clear hb
  unfold kzero
  go_wp2_with fail
  obtain ⟨bl3, hbl⟩ : ∃ bx, w6.heap.size = bx := ⟨_, rfl⟩
  obtain ⟨W7, hW⟩ : ∃ W, w6.alloc (.cells #[.string ⟨#[]⟩, .bool false, .int .i64 0, .string ⟨#[]⟩, .bool false, .int .u64 0, .slice none 0 0, .slice none 0 0, .string ⟨#[]⟩, .string ⟨#[]⟩, .string ⟨#[]⟩] 35) = W := ⟨_, rfl⟩
  have hbn : Below w6.heap.size w6 W7 := by rw [← hW]; exact below_new _ _
  have hxn : W7.heap[bl3]? = some (.cells #[.string ⟨#[]⟩, .bool false, .int .i64 0, .string ⟨#[]⟩, .bool false, .int .u64 0, .slice none 0 0, .slice none 0 0, .string ⟨#[]⟩, .string ⟨#[]⟩, .string ⟨#[]⟩] 35 (0, 0)) := by rw [← hW, ← hbl]; exact heap_alloc_new _ _
  rw [hW, hbl]
  have HB_w_W7 := Lib.hid (below_step HB_w_w6.out (hbn))
  have HB_w2_W7 := Lib.hid (below_step HB_w2_w6.out (hbn))
  have HB_w4_W7 := Lib.hid (below_step HB_w4_w6.out (hbn))
  have HB_w6_W7 := Lib.hid (hbn)
  have HX1_W7 : Hid (W7.heap[bl1]? = some (.cells #[.int .i64 0, .string ⟨#[]⟩, .bool false, .int .u64 0, .slice none 0 0, .slice none 0 0, .string ⟨#[]⟩, .string ⟨#[]⟩] 27 (0, 0))) := Lib.hid (((hbn).block _ (row_lt HX1_w6.out)).trans HX1_w6.out)
  have HX2_W7 : Hid (W7.heap[bl2]? = some (.cells #[.int .i64 0, .string ⟨#[]⟩, .bool false, .int .u64 0, .slice none 0 0, .slice none 0 0, .string ⟨#[]⟩, .string ⟨#[]⟩] 27 (0, 0))) := Lib.hid (((hbn).block _ (row_lt HX2_w6.out)).trans HX2_w6.out)
  have HX3_W7 := Lib.hid hxn
  clear hW hbl hbn hxn
  refine (HRK.out W7).mono ?_; intro e w8 hpost
  obtain ⟨hb, hcase⟩ := hpost
  rw [HK.out] at hcase
  have HB_w_w8 := Lib.hid (below_step HB_w_W7.out (hb))
  have HB_w2_w8 := Lib.hid (below_step HB_w2_W7.out (hb))
  have HB_w4_w8 := Lib.hid (below_step HB_w4_W7.out (hb))
  have HB_w6_w8 := Lib.hid (below_step HB_w6_W7.out (hb))
  have HX1_w8 : Hid (w8.heap[bl1]? = some (.cells #[.int .i64 0, .string ⟨#[]⟩, .bool false, .int .u64 0, .slice none 0 0, .slice none 0 0, .string ⟨#[]⟩, .string ⟨#[]⟩] 27 (0, 0))) := Lib.hid (((hb).block _ (row_lt HX1_W7.out)).trans HX1_W7.out)
  have HX2_w8 : Hid (w8.heap[bl2]? = some (.cells #[.int .i64 0, .string ⟨#[]⟩, .bool false, .int .u64 0, .slice none 0 0, .slice none 0 0, .string ⟨#[]⟩, .string ⟨#[]⟩] 27 (0, 0))) := Lib.hid (((hb).block _ (row_lt HX2_W7.out)).trans HX2_W7.out)
  have HX3_w8 : Hid (w8.heap[bl3]? = some (.cells #[.string ⟨#[]⟩, .bool false, .int .i64 0, .string ⟨#[]⟩, .bool false, .int .u64 0, .slice none 0 0, .slice none 0 0, .string ⟨#[]⟩, .string ⟨#[]⟩, .string ⟨#[]⟩] 35 (0, 0))) := Lib.hid (((hb).block _ (row_lt HX3_W7.out)).trans HX3_W7.out)
  subst hcase
  clear hb
  unfold kzero
  go_wp2_with fail
  obtain ⟨bl4, hbl⟩ : ∃ bx, w8.heap.size = bx := ⟨_, rfl⟩
  obtain ⟨W9, hW⟩ : ∃ W, w8.alloc (.cells #[.string ⟨#[]⟩, .bool false, .int .i64 0, .string ⟨#[]⟩, .bool false, .int .u64 0, .slice none 0 0, .slice none 0 0, .string ⟨#[]⟩, .string ⟨#[]⟩, .string ⟨#[]⟩] 35) = W := ⟨_, rfl⟩
  have hbn : Below w8.heap.size w8 W9 := by rw [← hW]; exact below_new _ _
  have hxn : W9.heap[bl4]? = some (.cells #[.string ⟨#[]⟩, .bool false, .int .i64 0, .string ⟨#[]⟩, .bool false, .int .u64 0, .slice none 0 0, .slice none 0 0, .string ⟨#[]⟩, .string ⟨#[]⟩, .string ⟨#[]⟩] 35 (0, 0)) := by rw [← hW, ← hbl]; exact heap_alloc_new _ _
  rw [hW, hbl]
  have HB_w_W9 := Lib.hid (below_step HB_w_w8.out (hbn))
  have HB_w2_W9 := Lib.hid (below_step HB_w2_w8.out (hbn))
  have HB_w4_W9 := Lib.hid (below_step HB_w4_w8.out (hbn))
  have HB_w6_W9 := Lib.hid (below_step HB_w6_w8.out (hbn))
  have HB_w8_W9 := Lib.hid (hbn)
  have HX1_W9 : Hid (W9.heap[bl1]? = some (.cells #[.int .i64 0, .string ⟨#[]⟩, .bool false, .int .u64 0, .slice none 0 0, .slice none 0 0, .string ⟨#[]⟩, .string ⟨#[]⟩] 27 (0, 0))) := Lib.hid (((hbn).block _ (row_lt HX1_w8.out)).trans HX1_w8.out)
  have HX2_W9 : Hid (W9.heap[bl2]? = some (.cells #[.int .i64 0, .string ⟨#[]⟩, .bool false, .int .u64 0, .slice none 0 0, .slice none 0 0, .string ⟨#[]⟩, .string ⟨#[]⟩] 27 (0, 0))) := Lib.hid (((hbn).block _ (row_lt HX2_w8.out)).trans HX2_w8.out)
  have HX3_W9 : Hid (W9.heap[bl3]? = some (.cells #[.string ⟨#[]⟩, .bool false, .int .i64 0, .string ⟨#[]⟩, .bool false, .int .u64 0, .slice none 0 0, .slice none 0 0, .string ⟨#[]⟩, .string ⟨#[]⟩, .string ⟨#[]⟩] 35 (0, 0))) := Lib.hid (((hbn).block _ (row_lt HX3_w8.out)).trans HX3_w8.out)
  have HX4_W9 := Lib.hid hxn
  clear hW hbl hbn hxn
  refine (first8 W9 (HG.out.below HB_w_W9.out)).mono ?_; rintro e w10 ⟨rfl, hb⟩
  have HB_w_w10 := Lib.hid (below_step HB_w_W9.out (hb))
  have HB_w2_w10 := Lib.hid (below_step HB_w2_W9.out (hb))
  have HB_w4_w10 := Lib.hid (below_step HB_w4_W9.out (hb))
  have HB_w6_w10 := Lib.hid (below_step HB_w6_W9.out (hb))
  have HB_w8_w10 := Lib.hid (below_step HB_w8_W9.out (hb))
  have HX1_w10 : Hid (w10.heap[bl1]? = some (.cells #[.int .i64 0, .string ⟨#[]⟩, .bool false, .int .u64 0, .slice none 0 0, .slice none 0 0, .string ⟨#[]⟩, .string ⟨#[]⟩] 27 (0, 0))) := Lib.hid (((hb).block _ (row_lt HX1_W9.out)).trans HX1_W9.out)
  have HX2_w10 : Hid (w10.heap[bl2]? = some (.cells #[.int .i64 0, .string ⟨#[]⟩, .bool false, .int .u64 0, .slice none 0 0, .slice none 0 0, .string ⟨#[]⟩, .string ⟨#[]⟩] 27 (0, 0))) := Lib.hid (((hb).block _ (row_lt HX2_W9.out)).trans HX2_W9.out)
  have HX3_w10 : Hid (w10.heap[bl3]? = some (.cells #[.string ⟨#[]⟩, .bool false, .int .i64 0, .string ⟨#[]⟩, .bool false, .int .u64 0, .slice none 0 0, .slice none 0 0, .string ⟨#[]⟩, .string ⟨#[]⟩, .string ⟨#[]⟩] 35 (0, 0))) := Lib.hid (((hb).block _ (row_lt HX3_W9.out)).trans HX3_W9.out)
  have HX4_w10 : Hid (w10.heap[bl4]? = some (.cells #[.string ⟨#[]⟩, .bool false, .int .i64 0, .string ⟨#[]⟩, .bool false, .int .u64 0, .slice none 0 0, .slice none 0 0, .string ⟨#[]⟩, .string ⟨#[]⟩, .string ⟨#[]⟩] 35 (0, 0))) := Lib.hid (((hb).block _ (row_lt HX4_W9.out)).trans HX4_W9.out)
  clear hb
  go_wp2_with fail
  obtain ⟨ws, he⟩ := (HEW1.out.below HB_w2_w10.out)
  refine (wrong8_any _ s.size c ws _ w10 he (HG.out.below HB_w_w10.out) HQ1.out HCV.out).mono ?_; rintro e w11 ⟨rfl, hb⟩
  have HB_w_w11 := Lib.hid (below_step HB_w_w10.out (hb))
  have HB_w2_w11 := Lib.hid (below_step HB_w2_w10.out (hb))
  have HB_w4_w11 := Lib.hid (below_step HB_w4_w10.out (hb))
  have HB_w6_w11 := Lib.hid (below_step HB_w6_w10.out (hb))
  have HB_w8_w11 := Lib.hid (below_step HB_w8_w10.out (hb))
  have HX1_w11 : Hid (w11.heap[bl1]? = some (.cells #[.int .i64 0, .string ⟨#[]⟩, .bool false, .int .u64 0, .slice none 0 0, .slice none 0 0, .string ⟨#[]⟩, .string ⟨#[]⟩] 27 (0, 0))) := Lib.hid (((hb).block _ (row_lt HX1_w10.out)).trans HX1_w10.out)
  have HX2_w11 : Hid (w11.heap[bl2]? = some (.cells #[.int .i64 0, .string ⟨#[]⟩, .bool false, .int .u64 0, .slice none 0 0, .slice none 0 0, .string ⟨#[]⟩, .string ⟨#[]⟩] 27 (0, 0))) := Lib.hid (((hb).block _ (row_lt HX2_w10.out)).trans HX2_w10.out)
  have HX3_w11 : Hid (w11.heap[bl3]? = some (.cells #[.string ⟨#[]⟩, .bool false, .int .i64 0, .string ⟨#[]⟩, .bool false, .int .u64 0, .slice none 0 0, .slice none 0 0, .string ⟨#[]⟩, .string ⟨#[]⟩, .string ⟨#[]⟩] 35 (0, 0))) := Lib.hid (((hb).block _ (row_lt HX3_w10.out)).trans HX3_w10.out)
  have HX4_w11 : Hid (w11.heap[bl4]? = some (.cells #[.string ⟨#[]⟩, .bool false, .int .i64 0, .string ⟨#[]⟩, .bool false, .int .u64 0, .slice none 0 0, .slice none 0 0, .string ⟨#[]⟩, .string ⟨#[]⟩, .string ⟨#[]⟩] 35 (0, 0))) := Lib.hid (((hb).block _ (row_lt HX4_w10.out)).trans HX4_w10.out)
  clear hb he
  have hx1_0 : w11.cell? ⟨bl1, 0, none⟩ = some (.int .i64 0) := row_cell HX1_w11.out (j := 0) rfl
  have hx1_1 : w11.cell? ⟨bl1, 1, none⟩ = some (.string ⟨#[]⟩) := row_cell HX1_w11.out (j := 1) rfl
  have hx1_2 : w11.cell? ⟨bl1, 2, none⟩ = some (.bool false) := row_cell HX1_w11.out (j := 2) rfl
  have hx1_3 : w11.cell? ⟨bl1, 3, none⟩ = some (.int .u64 0) := row_cell HX1_w11.out (j := 3) rfl
  have hx1_4 : w11.cell? ⟨bl1, 4, none⟩ = some (.slice none 0 0) := row_cell HX1_w11.out (j := 4) rfl
  have hx1_5 : w11.cell? ⟨bl1, 5, none⟩ = some (.slice none 0 0) := row_cell HX1_w11.out (j := 5) rfl
  have hx1_6 : w11.cell? ⟨bl1, 6, none⟩ = some (.string ⟨#[]⟩) := row_cell HX1_w11.out (j := 6) rfl
  have hx1_7 : w11.cell? ⟨bl1, 7, none⟩ = some (.string ⟨#[]⟩) := row_cell HX1_w11.out (j := 7) rfl
  have hx2_0 : w11.cell? ⟨bl2, 0, none⟩ = some (.int .i64 0) := row_cell HX2_w11.out (j := 0) rfl
  have hx2_1 : w11.cell? ⟨bl2, 1, none⟩ = some (.string ⟨#[]⟩) := row_cell HX2_w11.out (j := 1) rfl
  have hx2_2 : w11.cell? ⟨bl2, 2, none⟩ = some (.bool false) := row_cell HX2_w11.out (j := 2) rfl
  have hx2_3 : w11.cell? ⟨bl2, 3, none⟩ = some (.int .u64 0) := row_cell HX2_w11.out (j := 3) rfl
  have hx2_4 : w11.cell? ⟨bl2, 4, none⟩ = some (.slice none 0 0) := row_cell HX2_w11.out (j := 4) rfl
  have hx2_5 : w11.cell? ⟨bl2, 5, none⟩ = some (.slice none 0 0) := row_cell HX2_w11.out (j := 5) rfl
  have hx2_6 : w11.cell? ⟨bl2, 6, none⟩ = some (.string ⟨#[]⟩) := row_cell HX2_w11.out (j := 6) rfl
  have hx2_7 : w11.cell? ⟨bl2, 7, none⟩ = some (.string ⟨#[]⟩) := row_cell HX2_w11.out (j := 7) rfl
  go_wp2_with fail
  refine (hval_same (.mk 0 [] false 0 [] [] [] []) (.mk 0 [] false 0 [] [] [] []) [.int .i64 0, .string ⟨#[]⟩, .bool false, .int .u64 0, .slice none 0 0, .slice none 0 0, .string ⟨#[]⟩, .string ⟨#[]⟩] [.int .i64 0, .string ⟨#[]⟩, .bool false, .int .u64 0, .slice none 0 0, .slice none 0 0, .string ⟨#[]⟩, .string ⟨#[]⟩] (fun _ => True) (fun _ => True) w11 vzero_lim (vrel_plain _ _ _ _ _ _) (vrel_plain _ _ _ _ _ _)).mono ?_; rintro e w12 ⟨rfl, hb⟩
  rw [alike_yes rfl]
  have HB_w_w12 := Lib.hid (below_step HB_w_w11.out (hb))
  have HB_w2_w12 := Lib.hid (below_step HB_w2_w11.out (hb))
  have HB_w4_w12 := Lib.hid (below_step HB_w4_w11.out (hb))
  have HB_w6_w12 := Lib.hid (below_step HB_w6_w11.out (hb))
  have HB_w8_w12 := Lib.hid (below_step HB_w8_w11.out (hb))
  have HX1_w12 : Hid (w12.heap[bl1]? = some (.cells #[.int .i64 0, .string ⟨#[]⟩, .bool false, .int .u64 0, .slice none 0 0, .slice none 0 0, .string ⟨#[]⟩, .string ⟨#[]⟩] 27 (0, 0))) := Lib.hid (((hb).block _ (row_lt HX1_w11.out)).trans HX1_w11.out)
  have HX2_w12 : Hid (w12.heap[bl2]? = some (.cells #[.int .i64 0, .string ⟨#[]⟩, .bool false, .int .u64 0, .slice none 0 0, .slice none 0 0, .string ⟨#[]⟩, .string ⟨#[]⟩] 27 (0, 0))) := Lib.hid (((hb).block _ (row_lt HX2_w11.out)).trans HX2_w11.out)
  have HX3_w12 : Hid (w12.heap[bl3]? = some (.cells #[.string ⟨#[]⟩, .bool false, .int .i64 0, .string ⟨#[]⟩, .bool false, .int .u64 0, .slice none 0 0, .slice none 0 0, .string ⟨#[]⟩, .string ⟨#[]⟩, .string ⟨#[]⟩] 35 (0, 0))) := Lib.hid (((hb).block _ (row_lt HX3_w11.out)).trans HX3_w11.out)
  have HX4_w12 : Hid (w12.heap[bl4]? = some (.cells #[.string ⟨#[]⟩, .bool false, .int .i64 0, .string ⟨#[]⟩, .bool false, .int .u64 0, .slice none 0 0, .slice none 0 0, .string ⟨#[]⟩, .string ⟨#[]⟩, .string ⟨#[]⟩] 35 (0, 0))) := Lib.hid (((hb).block _ (row_lt HX4_w11.out)).trans HX4_w11.out)
  clear hb hx1_0 hx1_1 hx1_2 hx1_3 hx1_4 hx1_5 hx1_6 hx1_7 hx2_0 hx2_1 hx2_2 hx2_3 hx2_4 hx2_5 hx2_6 hx2_7
  go_wp2_with fail
  obtain ⟨ws, he⟩ := (HEW3.out.below HB_w6_w12.out)
  refine (wrong8_any _ s.size c2 ws _ w12 he (HG.out.below HB_w_w12.out) HQ3.out HCK.out).mono ?_; rintro e w13 ⟨rfl, hb⟩
  have HB_w_w13 := Lib.hid (below_step HB_w_w12.out (hb))
  have HB_w2_w13 := Lib.hid (below_step HB_w2_w12.out (hb))
  have HB_w4_w13 := Lib.hid (below_step HB_w4_w12.out (hb))
  have HB_w6_w13 := Lib.hid (below_step HB_w6_w12.out (hb))
  have HB_w8_w13 := Lib.hid (below_step HB_w8_w12.out (hb))
  have HX1_w13 : Hid (w13.heap[bl1]? = some (.cells #[.int .i64 0, .string ⟨#[]⟩, .bool false, .int .u64 0, .slice none 0 0, .slice none 0 0, .string ⟨#[]⟩, .string ⟨#[]⟩] 27 (0, 0))) := Lib.hid (((hb).block _ (row_lt HX1_w12.out)).trans HX1_w12.out)
  have HX2_w13 : Hid (w13.heap[bl2]? = some (.cells #[.int .i64 0, .string ⟨#[]⟩, .bool false, .int .u64 0, .slice none 0 0, .slice none 0 0, .string ⟨#[]⟩, .string ⟨#[]⟩] 27 (0, 0))) := Lib.hid (((hb).block _ (row_lt HX2_w12.out)).trans HX2_w12.out)
  have HX3_w13 : Hid (w13.heap[bl3]? = some (.cells #[.string ⟨#[]⟩, .bool false, .int .i64 0, .string ⟨#[]⟩, .bool false, .int .u64 0, .slice none 0 0, .slice none 0 0, .string ⟨#[]⟩, .string ⟨#[]⟩, .string ⟨#[]⟩] 35 (0, 0))) := Lib.hid (((hb).block _ (row_lt HX3_w12.out)).trans HX3_w12.out)
  have HX4_w13 : Hid (w13.heap[bl4]? = some (.cells #[.string ⟨#[]⟩, .bool false, .int .i64 0, .string ⟨#[]⟩, .bool false, .int .u64 0, .slice none 0 0, .slice none 0 0, .string ⟨#[]⟩, .string ⟨#[]⟩, .string ⟨#[]⟩] 35 (0, 0))) := Lib.hid (((hb).block _ (row_lt HX4_w12.out)).trans HX4_w12.out)
  clear hb he
  have hx3_0 : w13.cell? ⟨bl3, 0, none⟩ = some (.string ⟨#[]⟩) := row_cell HX3_w13.out (j := 0) rfl
  have hx3_1 : w13.cell? ⟨bl3, 1, none⟩ = some (.bool false) := row_cell HX3_w13.out (j := 1) rfl
  have hx3_2 : w13.cell? ⟨bl3, 2, none⟩ = some (.int .i64 0) := row_cell HX3_w13.out (j := 2) rfl
  have hx3_3 : w13.cell? ⟨bl3, 3, none⟩ = some (.string ⟨#[]⟩) := row_cell HX3_w13.out (j := 3) rfl
  have hx3_4 : w13.cell? ⟨bl3, 4, none⟩ = some (.bool false) := row_cell HX3_w13.out (j := 4) rfl
  have hx3_5 : w13.cell? ⟨bl3, 5, none⟩ = some (.int .u64 0) := row_cell HX3_w13.out (j := 5) rfl
  have hx3_6 : w13.cell? ⟨bl3, 6, none⟩ = some (.slice none 0 0) := row_cell HX3_w13.out (j := 6) rfl
  have hx3_7 : w13.cell? ⟨bl3, 7, none⟩ = some (.slice none 0 0) := row_cell HX3_w13.out (j := 7) rfl
  have hx3_8 : w13.cell? ⟨bl3, 8, none⟩ = some (.string ⟨#[]⟩) := row_cell HX3_w13.out (j := 8) rfl
  have hx3_9 : w13.cell? ⟨bl3, 9, none⟩ = some (.string ⟨#[]⟩) := row_cell HX3_w13.out (j := 9) rfl
  have hx3_10 : w13.cell? ⟨bl3, 10, none⟩ = some (.string ⟨#[]⟩) := row_cell HX3_w13.out (j := 10) rfl
  have hx4_0 : w13.cell? ⟨bl4, 0, none⟩ = some (.string ⟨#[]⟩) := row_cell HX4_w13.out (j := 0) rfl
  have hx4_1 : w13.cell? ⟨bl4, 1, none⟩ = some (.bool false) := row_cell HX4_w13.out (j := 1) rfl
  have hx4_2 : w13.cell? ⟨bl4, 2, none⟩ = some (.int .i64 0) := row_cell HX4_w13.out (j := 2) rfl
  have hx4_3 : w13.cell? ⟨bl4, 3, none⟩ = some (.string ⟨#[]⟩) := row_cell HX4_w13.out (j := 3) rfl
  have hx4_4 : w13.cell? ⟨bl4, 4, none⟩ = some (.bool false) := row_cell HX4_w13.out (j := 4) rfl
  have hx4_5 : w13.cell? ⟨bl4, 5, none⟩ = some (.int .u64 0) := row_cell HX4_w13.out (j := 5) rfl
  have hx4_6 : w13.cell? ⟨bl4, 6, none⟩ = some (.slice none 0 0) := row_cell HX4_w13.out (j := 6) rfl
  have hx4_7 : w13.cell? ⟨bl4, 7, none⟩ = some (.slice none 0 0) := row_cell HX4_w13.out (j := 7) rfl
  have hx4_8 : w13.cell? ⟨bl4, 8, none⟩ = some (.string ⟨#[]⟩) := row_cell HX4_w13.out (j := 8) rfl
  have hx4_9 : w13.cell? ⟨bl4, 9, none⟩ = some (.string ⟨#[]⟩) := row_cell HX4_w13.out (j := 9) rfl
  have hx4_10 : w13.cell? ⟨bl4, 10, none⟩ = some (.string ⟨#[]⟩) := row_cell HX4_w13.out (j := 10) rfl
  go_wp2_with fail
  refine (hkey_same (.mk [] false (.mk 0 [] false 0 [] [] [] []) []) (.mk [] false (.mk 0 [] false 0 [] [] [] []) []) [.string ⟨#[]⟩, .bool false, .int .i64 0, .string ⟨#[]⟩, .bool false, .int .u64 0, .slice none 0 0, .slice none 0 0, .string ⟨#[]⟩, .string ⟨#[]⟩, .string ⟨#[]⟩] [.string ⟨#[]⟩, .bool false, .int .i64 0, .string ⟨#[]⟩, .bool false, .int .u64 0, .slice none 0 0, .slice none 0 0, .string ⟨#[]⟩, .string ⟨#[]⟩, .string ⟨#[]⟩] (fun _ => True) (fun _ => True) w13 kzero_lim (kzero_rel _ _) (kzero_rel _ _)).mono ?_; rintro e w14 ⟨rfl, hb⟩
  rw [alike_yes rfl]
  have HB_w_w14 := Lib.hid (below_step HB_w_w13.out (hb))
  have HB_w2_w14 := Lib.hid (below_step HB_w2_w13.out (hb))
  have HB_w4_w14 := Lib.hid (below_step HB_w4_w13.out (hb))
  have HB_w6_w14 := Lib.hid (below_step HB_w6_w13.out (hb))
  have HB_w8_w14 := Lib.hid (below_step HB_w8_w13.out (hb))
  clear hb
  go_wp2_with fail
  go_ret
  exact ⟨rfl, HB_w_w14.out⟩
set_option maxRecDepth 1000000 in
set_option maxHeartbeats 16000000 in
theorem vreads_walk_eo (s : ByteArray) (d : Int) (w : World) (hs : s.size ≤ 4000) (hd : -9223372036854775808 ≤ d ∧ d ≤ 9223372036854775807) (hg : Glob w) {c : Nat} (hv : vread 4001 s.data.toList d = .error c) {y : KV} (hk : kread 4001 s.data.toList d = .ok y) :
    Calls Tryz.prog 3 #[.string s, .int .i64 d] w fun e w' => e = .returned (.bool true) ∧ Below w.heap.size w w' := by
  have HG := Lib.hid hg
  have HU := Lib.hid (fun w' => (both_any 4001 s d w' (by omega) (by omega) hd).1)
  have HUK := Lib.hid (fun w' => (both_any 4001 s d w' (by omega) (by omega) hd).2)
  have HR := Lib.hid (fun w' => (both8_any 4001 s d w' (by omega) (by omega) hd).1)
  have HRK := Lib.hid (fun w' => (both8_any 4001 s d w' (by omega) (by omega) hd).2)
  have hsl : s.data.toList.length = s.size := by simp
  have HCV := Lib.hid ((both_code 4001).1 _ _ _ hv)
  have HLK := Lib.hid ((both_lim 4001).2 _ _ _ (by omega) hk)
  have HV := Lib.hid hv
  have HK := Lib.hid hk
  have d0 : decide ((4000 : Int) < (s.size : Int)) = false := decide_eq_false (by omega)
  clear hg hd hv hk hsl
  go_enter Tryz.func3, Tryz.ntmps3
  go_wp2_with fail
  refine (first8 w HG.out).mono ?_; rintro e w1 ⟨rfl, hb1⟩
  have HB_w_w1 := Lib.hid (hb1)
  clear hb1
  go_wp2_with fail
  refine (HU.out w1).mono ?_; intro e w2 hpost
  obtain ⟨hb, hcase⟩ := hpost
  rw [HV.out] at hcase
  have HB_w_w2 := Lib.hid (below_step HB_w_w1.out (hb))
  obtain ⟨v, q, rfl, hq, hew⟩ := hcase
  obtain ⟨TT1, y1, rfl⟩ := hew.iface
  have HEW1 := Lib.hid hew
  have HQ1 := Lib.hid hq
  clear hew hq
  clear hb
  unfold vzero
  go_wp2_with fail
  obtain ⟨bl1, hbl⟩ : ∃ bx, w2.heap.size = bx := ⟨_, rfl⟩
  obtain ⟨W3, hW⟩ : ∃ W, w2.alloc (.cells #[.int .i64 0, .string ⟨#[]⟩, .bool false, .int .u64 0, .slice none 0 0, .slice none 0 0, .string ⟨#[]⟩, .string ⟨#[]⟩] 27) = W := ⟨_, rfl⟩
  have hbn : Below w2.heap.size w2 W3 := by rw [← hW]; exact below_new _ _
  have hxn : W3.heap[bl1]? = some (.cells #[.int .i64 0, .string ⟨#[]⟩, .bool false, .int .u64 0, .slice none 0 0, .slice none 0 0, .string ⟨#[]⟩, .string ⟨#[]⟩] 27 (0, 0)) := by rw [← hW, ← hbl]; exact heap_alloc_new _ _
  rw [hW, hbl]
  have HB_w_W3 := Lib.hid (below_step HB_w_w2.out (hbn))
  have HB_w2_W3 := Lib.hid (hbn)
  have HX1_W3 := Lib.hid hxn
  clear hW hbl hbn hxn
  refine (HR.out W3).mono ?_; intro e w4 hpost
  obtain ⟨hb, hcase⟩ := hpost
  rw [HV.out] at hcase
  have HB_w_w4 := Lib.hid (below_step HB_w_W3.out (hb))
  have HB_w2_w4 := Lib.hid (below_step HB_w2_W3.out (hb))
  have HX1_w4 : Hid (w4.heap[bl1]? = some (.cells #[.int .i64 0, .string ⟨#[]⟩, .bool false, .int .u64 0, .slice none 0 0, .slice none 0 0, .string ⟨#[]⟩, .string ⟨#[]⟩] 27 (0, 0))) := Lib.hid (((hb).block _ (row_lt HX1_W3.out)).trans HX1_W3.out)
  subst hcase
  clear hb
  unfold vzero
  go_wp2_with fail
  obtain ⟨bl2, hbl⟩ : ∃ bx, w4.heap.size = bx := ⟨_, rfl⟩
  obtain ⟨W5, hW⟩ : ∃ W, w4.alloc (.cells #[.int .i64 0, .string ⟨#[]⟩, .bool false, .int .u64 0, .slice none 0 0, .slice none 0 0, .string ⟨#[]⟩, .string ⟨#[]⟩] 27) = W := ⟨_, rfl⟩
  have hbn : Below w4.heap.size w4 W5 := by rw [← hW]; exact below_new _ _
  have hxn : W5.heap[bl2]? = some (.cells #[.int .i64 0, .string ⟨#[]⟩, .bool false, .int .u64 0, .slice none 0 0, .slice none 0 0, .string ⟨#[]⟩, .string ⟨#[]⟩] 27 (0, 0)) := by rw [← hW, ← hbl]; exact heap_alloc_new _ _
  rw [hW, hbl]
  have HB_w_W5 := Lib.hid (below_step HB_w_w4.out (hbn))
  have HB_w2_W5 := Lib.hid (below_step HB_w2_w4.out (hbn))
  have HB_w4_W5 := Lib.hid (hbn)
  have HX1_W5 : Hid (W5.heap[bl1]? = some (.cells #[.int .i64 0, .string ⟨#[]⟩, .bool false, .int .u64 0, .slice none 0 0, .slice none 0 0, .string ⟨#[]⟩, .string ⟨#[]⟩] 27 (0, 0))) := Lib.hid (((hbn).block _ (row_lt HX1_w4.out)).trans HX1_w4.out)
  have HX2_W5 := Lib.hid hxn
  clear hW hbl hbn hxn
  refine (HUK.out W5).mono ?_; intro e w6 hpost
  obtain ⟨hb, hcase⟩ := hpost
  rw [HK.out] at hcase
  have HB_w_w6 := Lib.hid (below_step HB_w_W5.out (hb))
  have HB_w2_w6 := Lib.hid (below_step HB_w2_W5.out (hb))
  have HB_w4_w6 := Lib.hid (below_step HB_w4_W5.out (hb))
  have HX1_w6 : Hid (w6.heap[bl1]? = some (.cells #[.int .i64 0, .string ⟨#[]⟩, .bool false, .int .u64 0, .slice none 0 0, .slice none 0 0, .string ⟨#[]⟩, .string ⟨#[]⟩] 27 (0, 0))) := Lib.hid (((hb).block _ (row_lt HX1_W5.out)).trans HX1_W5.out)
  have HX2_w6 : Hid (w6.heap[bl2]? = some (.cells #[.int .i64 0, .string ⟨#[]⟩, .bool false, .int .u64 0, .slice none 0 0, .slice none 0 0, .string ⟨#[]⟩, .string ⟨#[]⟩] 27 (0, 0))) := Lib.hid (((hb).block _ (row_lt HX2_W5.out)).trans HX2_W5.out)
  obtain ⟨cs, rfl, hrel⟩ := hcase
  obtain ⟨K3, h3, k3, S3, b3, n3, lo3, ln3, lc3, mo3, mn3, mc3, I3, U3, Y3, rfl⟩ := hrel.form
  have HREL3 := Lib.hid hrel
  clear hrel hb
  go_wp2_with fail
  obtain ⟨bl3, hbl⟩ : ∃ bx, w6.heap.size = bx := ⟨_, rfl⟩
  obtain ⟨W7, hW⟩ : ∃ W, w6.alloc (.cells #[.string K3, .bool h3, .int .i64 k3, .string S3, .bool b3, .int .u64 n3, .slice lo3 ln3 lc3, .slice mo3 mn3 mc3, .string I3, .string U3, .string Y3] 35) = W := ⟨_, rfl⟩
  have hbn : Below w6.heap.size w6 W7 := by rw [← hW]; exact below_new _ _
  have hxn : W7.heap[bl3]? = some (.cells #[.string K3, .bool h3, .int .i64 k3, .string S3, .bool b3, .int .u64 n3, .slice lo3 ln3 lc3, .slice mo3 mn3 mc3, .string I3, .string U3, .string Y3] 35 (0, 0)) := by rw [← hW, ← hbl]; exact heap_alloc_new _ _
  rw [hW, hbl]
  have HB_w_W7 := Lib.hid (below_step HB_w_w6.out (hbn))
  have HB_w2_W7 := Lib.hid (below_step HB_w2_w6.out (hbn))
  have HB_w4_W7 := Lib.hid (below_step HB_w4_w6.out (hbn))
  have HB_w6_W7 := Lib.hid (hbn)
  have HX1_W7 : Hid (W7.heap[bl1]? = some (.cells #[.int .i64 0, .string ⟨#[]⟩, .bool false, .int .u64 0, .slice none 0 0, .slice none 0 0, .string ⟨#[]⟩, .string ⟨#[]⟩] 27 (0, 0))) := Lib.hid (((hbn).block _ (row_lt HX1_w6.out)).trans HX1_w6.out)
  have HX2_W7 : Hid (W7.heap[bl2]? = some (.cells #[.int .i64 0, .string ⟨#[]⟩, .bool false, .int .u64 0, .slice none 0 0, .slice none 0 0, .string ⟨#[]⟩, .string ⟨#[]⟩] 27 (0, 0))) := Lib.hid (((hbn).block _ (row_lt HX2_w6.out)).trans HX2_w6.out)
  have HX3_W7 := Lib.hid hxn
  clear hW hbl hbn hxn
  refine (HRK.out W7).mono ?_; intro e w8 hpost
  obtain ⟨hb, hcase⟩ := hpost
  rw [HK.out] at hcase
  have HB_w_w8 := Lib.hid (below_step HB_w_W7.out (hb))
  have HB_w2_w8 := Lib.hid (below_step HB_w2_W7.out (hb))
  have HB_w4_w8 := Lib.hid (below_step HB_w4_W7.out (hb))
  have HB_w6_w8 := Lib.hid (below_step HB_w6_W7.out (hb))
  have HX1_w8 : Hid (w8.heap[bl1]? = some (.cells #[.int .i64 0, .string ⟨#[]⟩, .bool false, .int .u64 0, .slice none 0 0, .slice none 0 0, .string ⟨#[]⟩, .string ⟨#[]⟩] 27 (0, 0))) := Lib.hid (((hb).block _ (row_lt HX1_W7.out)).trans HX1_W7.out)
  have HX2_w8 : Hid (w8.heap[bl2]? = some (.cells #[.int .i64 0, .string ⟨#[]⟩, .bool false, .int .u64 0, .slice none 0 0, .slice none 0 0, .string ⟨#[]⟩, .string ⟨#[]⟩] 27 (0, 0))) := Lib.hid (((hb).block _ (row_lt HX2_W7.out)).trans HX2_W7.out)
  have HX3_w8 : Hid (w8.heap[bl3]? = some (.cells #[.string K3, .bool h3, .int .i64 k3, .string S3, .bool b3, .int .u64 n3, .slice lo3 ln3 lc3, .slice mo3 mn3 mc3, .string I3, .string U3, .string Y3] 35 (0, 0))) := Lib.hid (((hb).block _ (row_lt HX3_W7.out)).trans HX3_W7.out)
  obtain ⟨cs, rfl, hrel⟩ := hcase
  obtain ⟨K4, h4, k4, S4, b4, n4, lo4, ln4, lc4, mo4, mn4, mc4, I4, U4, Y4, rfl⟩ := hrel.form
  have HREL4 := Lib.hid hrel
  clear hrel hb
  go_wp2_with fail
  obtain ⟨bl4, hbl⟩ : ∃ bx, w8.heap.size = bx := ⟨_, rfl⟩
  obtain ⟨W9, hW⟩ : ∃ W, w8.alloc (.cells #[.string K4, .bool h4, .int .i64 k4, .string S4, .bool b4, .int .u64 n4, .slice lo4 ln4 lc4, .slice mo4 mn4 mc4, .string I4, .string U4, .string Y4] 35) = W := ⟨_, rfl⟩
  have hbn : Below w8.heap.size w8 W9 := by rw [← hW]; exact below_new _ _
  have hxn : W9.heap[bl4]? = some (.cells #[.string K4, .bool h4, .int .i64 k4, .string S4, .bool b4, .int .u64 n4, .slice lo4 ln4 lc4, .slice mo4 mn4 mc4, .string I4, .string U4, .string Y4] 35 (0, 0)) := by rw [← hW, ← hbl]; exact heap_alloc_new _ _
  rw [hW, hbl]
  have HB_w_W9 := Lib.hid (below_step HB_w_w8.out (hbn))
  have HB_w2_W9 := Lib.hid (below_step HB_w2_w8.out (hbn))
  have HB_w4_W9 := Lib.hid (below_step HB_w4_w8.out (hbn))
  have HB_w6_W9 := Lib.hid (below_step HB_w6_w8.out (hbn))
  have HB_w8_W9 := Lib.hid (hbn)
  have HX1_W9 : Hid (W9.heap[bl1]? = some (.cells #[.int .i64 0, .string ⟨#[]⟩, .bool false, .int .u64 0, .slice none 0 0, .slice none 0 0, .string ⟨#[]⟩, .string ⟨#[]⟩] 27 (0, 0))) := Lib.hid (((hbn).block _ (row_lt HX1_w8.out)).trans HX1_w8.out)
  have HX2_W9 : Hid (W9.heap[bl2]? = some (.cells #[.int .i64 0, .string ⟨#[]⟩, .bool false, .int .u64 0, .slice none 0 0, .slice none 0 0, .string ⟨#[]⟩, .string ⟨#[]⟩] 27 (0, 0))) := Lib.hid (((hbn).block _ (row_lt HX2_w8.out)).trans HX2_w8.out)
  have HX3_W9 : Hid (W9.heap[bl3]? = some (.cells #[.string K3, .bool h3, .int .i64 k3, .string S3, .bool b3, .int .u64 n3, .slice lo3 ln3 lc3, .slice mo3 mn3 mc3, .string I3, .string U3, .string Y3] 35 (0, 0))) := Lib.hid (((hbn).block _ (row_lt HX3_w8.out)).trans HX3_w8.out)
  have HX4_W9 := Lib.hid hxn
  clear hW hbl hbn hxn
  refine (first8 W9 (HG.out.below HB_w_W9.out)).mono ?_; rintro e w10 ⟨rfl, hb⟩
  have HB_w_w10 := Lib.hid (below_step HB_w_W9.out (hb))
  have HB_w2_w10 := Lib.hid (below_step HB_w2_W9.out (hb))
  have HB_w4_w10 := Lib.hid (below_step HB_w4_W9.out (hb))
  have HB_w6_w10 := Lib.hid (below_step HB_w6_W9.out (hb))
  have HB_w8_w10 := Lib.hid (below_step HB_w8_W9.out (hb))
  have HX1_w10 : Hid (w10.heap[bl1]? = some (.cells #[.int .i64 0, .string ⟨#[]⟩, .bool false, .int .u64 0, .slice none 0 0, .slice none 0 0, .string ⟨#[]⟩, .string ⟨#[]⟩] 27 (0, 0))) := Lib.hid (((hb).block _ (row_lt HX1_W9.out)).trans HX1_W9.out)
  have HX2_w10 : Hid (w10.heap[bl2]? = some (.cells #[.int .i64 0, .string ⟨#[]⟩, .bool false, .int .u64 0, .slice none 0 0, .slice none 0 0, .string ⟨#[]⟩, .string ⟨#[]⟩] 27 (0, 0))) := Lib.hid (((hb).block _ (row_lt HX2_W9.out)).trans HX2_W9.out)
  have HX3_w10 : Hid (w10.heap[bl3]? = some (.cells #[.string K3, .bool h3, .int .i64 k3, .string S3, .bool b3, .int .u64 n3, .slice lo3 ln3 lc3, .slice mo3 mn3 mc3, .string I3, .string U3, .string Y3] 35 (0, 0))) := Lib.hid (((hb).block _ (row_lt HX3_W9.out)).trans HX3_W9.out)
  have HX4_w10 : Hid (w10.heap[bl4]? = some (.cells #[.string K4, .bool h4, .int .i64 k4, .string S4, .bool b4, .int .u64 n4, .slice lo4 ln4 lc4, .slice mo4 mn4 mc4, .string I4, .string U4, .string Y4] 35 (0, 0))) := Lib.hid (((hb).block _ (row_lt HX4_W9.out)).trans HX4_W9.out)
  clear hb
  go_wp2_with fail
  obtain ⟨ws, he⟩ := (HEW1.out.below HB_w2_w10.out)
  refine (wrong8_any _ s.size c ws _ w10 he (HG.out.below HB_w_w10.out) HQ1.out HCV.out).mono ?_; rintro e w11 ⟨rfl, hb⟩
  have HB_w_w11 := Lib.hid (below_step HB_w_w10.out (hb))
  have HB_w2_w11 := Lib.hid (below_step HB_w2_w10.out (hb))
  have HB_w4_w11 := Lib.hid (below_step HB_w4_w10.out (hb))
  have HB_w6_w11 := Lib.hid (below_step HB_w6_w10.out (hb))
  have HB_w8_w11 := Lib.hid (below_step HB_w8_w10.out (hb))
  have HX1_w11 : Hid (w11.heap[bl1]? = some (.cells #[.int .i64 0, .string ⟨#[]⟩, .bool false, .int .u64 0, .slice none 0 0, .slice none 0 0, .string ⟨#[]⟩, .string ⟨#[]⟩] 27 (0, 0))) := Lib.hid (((hb).block _ (row_lt HX1_w10.out)).trans HX1_w10.out)
  have HX2_w11 : Hid (w11.heap[bl2]? = some (.cells #[.int .i64 0, .string ⟨#[]⟩, .bool false, .int .u64 0, .slice none 0 0, .slice none 0 0, .string ⟨#[]⟩, .string ⟨#[]⟩] 27 (0, 0))) := Lib.hid (((hb).block _ (row_lt HX2_w10.out)).trans HX2_w10.out)
  have HX3_w11 : Hid (w11.heap[bl3]? = some (.cells #[.string K3, .bool h3, .int .i64 k3, .string S3, .bool b3, .int .u64 n3, .slice lo3 ln3 lc3, .slice mo3 mn3 mc3, .string I3, .string U3, .string Y3] 35 (0, 0))) := Lib.hid (((hb).block _ (row_lt HX3_w10.out)).trans HX3_w10.out)
  have HX4_w11 : Hid (w11.heap[bl4]? = some (.cells #[.string K4, .bool h4, .int .i64 k4, .string S4, .bool b4, .int .u64 n4, .slice lo4 ln4 lc4, .slice mo4 mn4 mc4, .string I4, .string U4, .string Y4] 35 (0, 0))) := Lib.hid (((hb).block _ (row_lt HX4_w10.out)).trans HX4_w10.out)
  clear hb he
  have hx1_0 : w11.cell? ⟨bl1, 0, none⟩ = some (.int .i64 0) := row_cell HX1_w11.out (j := 0) rfl
  have hx1_1 : w11.cell? ⟨bl1, 1, none⟩ = some (.string ⟨#[]⟩) := row_cell HX1_w11.out (j := 1) rfl
  have hx1_2 : w11.cell? ⟨bl1, 2, none⟩ = some (.bool false) := row_cell HX1_w11.out (j := 2) rfl
  have hx1_3 : w11.cell? ⟨bl1, 3, none⟩ = some (.int .u64 0) := row_cell HX1_w11.out (j := 3) rfl
  have hx1_4 : w11.cell? ⟨bl1, 4, none⟩ = some (.slice none 0 0) := row_cell HX1_w11.out (j := 4) rfl
  have hx1_5 : w11.cell? ⟨bl1, 5, none⟩ = some (.slice none 0 0) := row_cell HX1_w11.out (j := 5) rfl
  have hx1_6 : w11.cell? ⟨bl1, 6, none⟩ = some (.string ⟨#[]⟩) := row_cell HX1_w11.out (j := 6) rfl
  have hx1_7 : w11.cell? ⟨bl1, 7, none⟩ = some (.string ⟨#[]⟩) := row_cell HX1_w11.out (j := 7) rfl
  have hx2_0 : w11.cell? ⟨bl2, 0, none⟩ = some (.int .i64 0) := row_cell HX2_w11.out (j := 0) rfl
  have hx2_1 : w11.cell? ⟨bl2, 1, none⟩ = some (.string ⟨#[]⟩) := row_cell HX2_w11.out (j := 1) rfl
  have hx2_2 : w11.cell? ⟨bl2, 2, none⟩ = some (.bool false) := row_cell HX2_w11.out (j := 2) rfl
  have hx2_3 : w11.cell? ⟨bl2, 3, none⟩ = some (.int .u64 0) := row_cell HX2_w11.out (j := 3) rfl
  have hx2_4 : w11.cell? ⟨bl2, 4, none⟩ = some (.slice none 0 0) := row_cell HX2_w11.out (j := 4) rfl
  have hx2_5 : w11.cell? ⟨bl2, 5, none⟩ = some (.slice none 0 0) := row_cell HX2_w11.out (j := 5) rfl
  have hx2_6 : w11.cell? ⟨bl2, 6, none⟩ = some (.string ⟨#[]⟩) := row_cell HX2_w11.out (j := 6) rfl
  have hx2_7 : w11.cell? ⟨bl2, 7, none⟩ = some (.string ⟨#[]⟩) := row_cell HX2_w11.out (j := 7) rfl
  go_wp2_with fail
  refine (hval_same (.mk 0 [] false 0 [] [] [] []) (.mk 0 [] false 0 [] [] [] []) [.int .i64 0, .string ⟨#[]⟩, .bool false, .int .u64 0, .slice none 0 0, .slice none 0 0, .string ⟨#[]⟩, .string ⟨#[]⟩] [.int .i64 0, .string ⟨#[]⟩, .bool false, .int .u64 0, .slice none 0 0, .slice none 0 0, .string ⟨#[]⟩, .string ⟨#[]⟩] (fun _ => True) (fun _ => True) w11 vzero_lim (vrel_plain _ _ _ _ _ _) (vrel_plain _ _ _ _ _ _)).mono ?_; rintro e w12 ⟨rfl, hb⟩
  rw [alike_yes rfl]
  have HB_w_w12 := Lib.hid (below_step HB_w_w11.out (hb))
  have HB_w2_w12 := Lib.hid (below_step HB_w2_w11.out (hb))
  have HB_w4_w12 := Lib.hid (below_step HB_w4_w11.out (hb))
  have HB_w6_w12 := Lib.hid (below_step HB_w6_w11.out (hb))
  have HB_w8_w12 := Lib.hid (below_step HB_w8_w11.out (hb))
  have HX1_w12 : Hid (w12.heap[bl1]? = some (.cells #[.int .i64 0, .string ⟨#[]⟩, .bool false, .int .u64 0, .slice none 0 0, .slice none 0 0, .string ⟨#[]⟩, .string ⟨#[]⟩] 27 (0, 0))) := Lib.hid (((hb).block _ (row_lt HX1_w11.out)).trans HX1_w11.out)
  have HX2_w12 : Hid (w12.heap[bl2]? = some (.cells #[.int .i64 0, .string ⟨#[]⟩, .bool false, .int .u64 0, .slice none 0 0, .slice none 0 0, .string ⟨#[]⟩, .string ⟨#[]⟩] 27 (0, 0))) := Lib.hid (((hb).block _ (row_lt HX2_w11.out)).trans HX2_w11.out)
  have HX3_w12 : Hid (w12.heap[bl3]? = some (.cells #[.string K3, .bool h3, .int .i64 k3, .string S3, .bool b3, .int .u64 n3, .slice lo3 ln3 lc3, .slice mo3 mn3 mc3, .string I3, .string U3, .string Y3] 35 (0, 0))) := Lib.hid (((hb).block _ (row_lt HX3_w11.out)).trans HX3_w11.out)
  have HX4_w12 : Hid (w12.heap[bl4]? = some (.cells #[.string K4, .bool h4, .int .i64 k4, .string S4, .bool b4, .int .u64 n4, .slice lo4 ln4 lc4, .slice mo4 mn4 mc4, .string I4, .string U4, .string Y4] 35 (0, 0))) := Lib.hid (((hb).block _ (row_lt HX4_w11.out)).trans HX4_w11.out)
  clear hb hx1_0 hx1_1 hx1_2 hx1_3 hx1_4 hx1_5 hx1_6 hx1_7 hx2_0 hx2_1 hx2_2 hx2_3 hx2_4 hx2_5 hx2_6 hx2_7
  have hx3_0 : w12.cell? ⟨bl3, 0, none⟩ = some (.string K3) := row_cell HX3_w12.out (j := 0) rfl
  have hx3_1 : w12.cell? ⟨bl3, 1, none⟩ = some (.bool h3) := row_cell HX3_w12.out (j := 1) rfl
  have hx3_2 : w12.cell? ⟨bl3, 2, none⟩ = some (.int .i64 k3) := row_cell HX3_w12.out (j := 2) rfl
  have hx3_3 : w12.cell? ⟨bl3, 3, none⟩ = some (.string S3) := row_cell HX3_w12.out (j := 3) rfl
  have hx3_4 : w12.cell? ⟨bl3, 4, none⟩ = some (.bool b3) := row_cell HX3_w12.out (j := 4) rfl
  have hx3_5 : w12.cell? ⟨bl3, 5, none⟩ = some (.int .u64 n3) := row_cell HX3_w12.out (j := 5) rfl
  have hx3_6 : w12.cell? ⟨bl3, 6, none⟩ = some (.slice lo3 ln3 lc3) := row_cell HX3_w12.out (j := 6) rfl
  have hx3_7 : w12.cell? ⟨bl3, 7, none⟩ = some (.slice mo3 mn3 mc3) := row_cell HX3_w12.out (j := 7) rfl
  have hx3_8 : w12.cell? ⟨bl3, 8, none⟩ = some (.string I3) := row_cell HX3_w12.out (j := 8) rfl
  have hx3_9 : w12.cell? ⟨bl3, 9, none⟩ = some (.string U3) := row_cell HX3_w12.out (j := 9) rfl
  have hx3_10 : w12.cell? ⟨bl3, 10, none⟩ = some (.string Y3) := row_cell HX3_w12.out (j := 10) rfl
  have hx4_0 : w12.cell? ⟨bl4, 0, none⟩ = some (.string K4) := row_cell HX4_w12.out (j := 0) rfl
  have hx4_1 : w12.cell? ⟨bl4, 1, none⟩ = some (.bool h4) := row_cell HX4_w12.out (j := 1) rfl
  have hx4_2 : w12.cell? ⟨bl4, 2, none⟩ = some (.int .i64 k4) := row_cell HX4_w12.out (j := 2) rfl
  have hx4_3 : w12.cell? ⟨bl4, 3, none⟩ = some (.string S4) := row_cell HX4_w12.out (j := 3) rfl
  have hx4_4 : w12.cell? ⟨bl4, 4, none⟩ = some (.bool b4) := row_cell HX4_w12.out (j := 4) rfl
  have hx4_5 : w12.cell? ⟨bl4, 5, none⟩ = some (.int .u64 n4) := row_cell HX4_w12.out (j := 5) rfl
  have hx4_6 : w12.cell? ⟨bl4, 6, none⟩ = some (.slice lo4 ln4 lc4) := row_cell HX4_w12.out (j := 6) rfl
  have hx4_7 : w12.cell? ⟨bl4, 7, none⟩ = some (.slice mo4 mn4 mc4) := row_cell HX4_w12.out (j := 7) rfl
  have hx4_8 : w12.cell? ⟨bl4, 8, none⟩ = some (.string I4) := row_cell HX4_w12.out (j := 8) rfl
  have hx4_9 : w12.cell? ⟨bl4, 9, none⟩ = some (.string U4) := row_cell HX4_w12.out (j := 9) rfl
  have hx4_10 : w12.cell? ⟨bl4, 10, none⟩ = some (.string Y4) := row_cell HX4_w12.out (j := 10) rfl
  go_wp2_with fail
  refine (hkey_same y y _ _ _ _ w12 HLK.out (HREL3.out.below HB_w6_w12.out) (HREL4.out.below HB_w8_w12.out)).mono ?_; rintro e w14 ⟨rfl, hb⟩
  rw [alike_yes rfl]
  have HB_w_w14 := Lib.hid (below_step HB_w_w12.out (hb))
  have HB_w2_w14 := Lib.hid (below_step HB_w2_w12.out (hb))
  have HB_w4_w14 := Lib.hid (below_step HB_w4_w12.out (hb))
  have HB_w6_w14 := Lib.hid (below_step HB_w6_w12.out (hb))
  have HB_w8_w14 := Lib.hid (below_step HB_w8_w12.out (hb))
  clear hb
  go_wp2_with fail
  go_ret
  exact ⟨rfl, HB_w_w14.out⟩
set_option maxRecDepth 1000000 in
set_option maxHeartbeats 16000000 in
theorem vreads_walk_oe (s : ByteArray) (d : Int) (w : World) (hs : s.size ≤ 4000) (hd : -9223372036854775808 ≤ d ∧ d ≤ 9223372036854775807) (hg : Glob w) {x : Val} (hv : vread 4001 s.data.toList d = .ok x) {c2 : Nat} (hk : kread 4001 s.data.toList d = .error c2) :
    Calls Tryz.prog 3 #[.string s, .int .i64 d] w fun e w' => e = .returned (.bool true) ∧ Below w.heap.size w w' := by
  have HG := Lib.hid hg
  have HU := Lib.hid (fun w' => (both_any 4001 s d w' (by omega) (by omega) hd).1)
  have HUK := Lib.hid (fun w' => (both_any 4001 s d w' (by omega) (by omega) hd).2)
  have HR := Lib.hid (fun w' => (both8_any 4001 s d w' (by omega) (by omega) hd).1)
  have HRK := Lib.hid (fun w' => (both8_any 4001 s d w' (by omega) (by omega) hd).2)
  have hsl : s.data.toList.length = s.size := by simp
  have HLV := Lib.hid ((both_lim 4001).1 _ _ _ (by omega) hv)
  have HCK := Lib.hid ((both_code 4001).2 _ _ _ hk)
  have HV := Lib.hid hv
  have HK := Lib.hid hk
  have d0 : decide ((4000 : Int) < (s.size : Int)) = false := decide_eq_false (by omega)
  clear hg hd hv hk hsl
  go_enter Tryz.func3, Tryz.ntmps3
  go_wp2_with fail
  refine (first8 w HG.out).mono ?_; rintro e w1 ⟨rfl, hb1⟩
  have HB_w_w1 := Lib.hid (hb1)
  clear hb1
  go_wp2_with fail
  refine (HU.out w1).mono ?_; intro e w2 hpost
  obtain ⟨hb, hcase⟩ := hpost
  rw [HV.out] at hcase
  have HB_w_w2 := Lib.hid (below_step HB_w_w1.out (hb))
  obtain ⟨cs, rfl, hrel⟩ := hcase
  obtain ⟨k1, S1, b1, n1, lo1, ln1, lc1, mo1, mn1, mc1, I1, U1, rfl⟩ := hrel.form
  have HREL1 := Lib.hid hrel
  clear hrel hb
  go_wp2_with fail
  obtain ⟨bl1, hbl⟩ : ∃ bx, w2.heap.size = bx := ⟨_, rfl⟩
  obtain ⟨W3, hW⟩ : ∃ W, w2.alloc (.cells #[.int .i64 k1, .string S1, .bool b1, .int .u64 n1, .slice lo1 ln1 lc1, .slice mo1 mn1 mc1, .string I1, .string U1] 27) = W := ⟨_, rfl⟩
  have hbn : Below w2.heap.size w2 W3 := by rw [← hW]; exact below_new _ _
  have hxn : W3.heap[bl1]? = some (.cells #[.int .i64 k1, .string S1, .bool b1, .int .u64 n1, .slice lo1 ln1 lc1, .slice mo1 mn1 mc1, .string I1, .string U1] 27 (0, 0)) := by rw [← hW, ← hbl]; exact heap_alloc_new _ _
  rw [hW, hbl]
  have HB_w_W3 := Lib.hid (below_step HB_w_w2.out (hbn))
  have HB_w2_W3 := Lib.hid (hbn)
  have HX1_W3 := Lib.hid hxn
  clear hW hbl hbn hxn
  refine (HR.out W3).mono ?_; intro e w4 hpost
  obtain ⟨hb, hcase⟩ := hpost
  rw [HV.out] at hcase
  have HB_w_w4 := Lib.hid (below_step HB_w_W3.out (hb))
  have HB_w2_w4 := Lib.hid (below_step HB_w2_W3.out (hb))
  have HX1_w4 : Hid (w4.heap[bl1]? = some (.cells #[.int .i64 k1, .string S1, .bool b1, .int .u64 n1, .slice lo1 ln1 lc1, .slice mo1 mn1 mc1, .string I1, .string U1] 27 (0, 0))) := Lib.hid (((hb).block _ (row_lt HX1_W3.out)).trans HX1_W3.out)
  obtain ⟨cs, rfl, hrel⟩ := hcase
  obtain ⟨k2, S2, b2, n2, lo2, ln2, lc2, mo2, mn2, mc2, I2, U2, rfl⟩ := hrel.form
  have HREL2 := Lib.hid hrel
  clear hrel hb
  go_wp2_with fail
  obtain ⟨bl2, hbl⟩ : ∃ bx, w4.heap.size = bx := ⟨_, rfl⟩
  obtain ⟨W5, hW⟩ : ∃ W, w4.alloc (.cells #[.int .i64 k2, .string S2, .bool b2, .int .u64 n2, .slice lo2 ln2 lc2, .slice mo2 mn2 mc2, .string I2, .string U2] 27) = W := ⟨_, rfl⟩
  have hbn : Below w4.heap.size w4 W5 := by rw [← hW]; exact below_new _ _
  have hxn : W5.heap[bl2]? = some (.cells #[.int .i64 k2, .string S2, .bool b2, .int .u64 n2, .slice lo2 ln2 lc2, .slice mo2 mn2 mc2, .string I2, .string U2] 27 (0, 0)) := by rw [← hW, ← hbl]; exact heap_alloc_new _ _
  rw [hW, hbl]
  have HB_w_W5 := Lib.hid (below_step HB_w_w4.out (hbn))
  have HB_w2_W5 := Lib.hid (below_step HB_w2_w4.out (hbn))
  have HB_w4_W5 := Lib.hid (hbn)
  have HX1_W5 : Hid (W5.heap[bl1]? = some (.cells #[.int .i64 k1, .string S1, .bool b1, .int .u64 n1, .slice lo1 ln1 lc1, .slice mo1 mn1 mc1, .string I1, .string U1] 27 (0, 0))) := Lib.hid (((hbn).block _ (row_lt HX1_w4.out)).trans HX1_w4.out)
  have HX2_W5 := Lib.hid hxn
  clear hW hbl hbn hxn
  refine (HUK.out W5).mono ?_; intro e w6 hpost
  obtain ⟨hb, hcase⟩ := hpost
  rw [HK.out] at hcase
  have HB_w_w6 := Lib.hid (below_step HB_w_W5.out (hb))
  have HB_w2_w6 := Lib.hid (below_step HB_w2_W5.out (hb))
  have HB_w4_w6 := Lib.hid (below_step HB_w4_W5.out (hb))
  have HX1_w6 : Hid (w6.heap[bl1]? = some (.cells #[.int .i64 k1, .string S1, .bool b1, .int .u64 n1, .slice lo1 ln1 lc1, .slice mo1 mn1 mc1, .string I1, .string U1] 27 (0, 0))) := Lib.hid (((hb).block _ (row_lt HX1_W5.out)).trans HX1_W5.out)
  have HX2_w6 : Hid (w6.heap[bl2]? = some (.cells #[.int .i64 k2, .string S2, .bool b2, .int .u64 n2, .slice lo2 ln2 lc2, .slice mo2 mn2 mc2, .string I2, .string U2] 27 (0, 0))) := Lib.hid (((hb).block _ (row_lt HX2_W5.out)).trans HX2_W5.out)
  obtain ⟨v, q, rfl, hq, hew⟩ := hcase
  obtain ⟨TT3, y3, rfl⟩ := hew.iface
  have HEW3 := Lib.hid hew
  have HQ3 := Lib.hid hq
  clear hew hq
  clear hb
  unfold kzero
  go_wp2_with fail
  obtain ⟨bl3, hbl⟩ : ∃ bx, w6.heap.size = bx := ⟨_, rfl⟩
  obtain ⟨W7, hW⟩ : ∃ W, w6.alloc (.cells #[.string ⟨#[]⟩, .bool false, .int .i64 0, .string ⟨#[]⟩, .bool false, .int .u64 0, .slice none 0 0, .slice none 0 0, .string ⟨#[]⟩, .string ⟨#[]⟩, .string ⟨#[]⟩] 35) = W := ⟨_, rfl⟩
  have hbn : Below w6.heap.size w6 W7 := by rw [← hW]; exact below_new _ _
  have hxn : W7.heap[bl3]? = some (.cells #[.string ⟨#[]⟩, .bool false, .int .i64 0, .string ⟨#[]⟩, .bool false, .int .u64 0, .slice none 0 0, .slice none 0 0, .string ⟨#[]⟩, .string ⟨#[]⟩, .string ⟨#[]⟩] 35 (0, 0)) := by rw [← hW, ← hbl]; exact heap_alloc_new _ _
  rw [hW, hbl]
  have HB_w_W7 := Lib.hid (below_step HB_w_w6.out (hbn))
  have HB_w2_W7 := Lib.hid (below_step HB_w2_w6.out (hbn))
  have HB_w4_W7 := Lib.hid (below_step HB_w4_w6.out (hbn))
  have HB_w6_W7 := Lib.hid (hbn)
  have HX1_W7 : Hid (W7.heap[bl1]? = some (.cells #[.int .i64 k1, .string S1, .bool b1, .int .u64 n1, .slice lo1 ln1 lc1, .slice mo1 mn1 mc1, .string I1, .string U1] 27 (0, 0))) := Lib.hid (((hbn).block _ (row_lt HX1_w6.out)).trans HX1_w6.out)
  have HX2_W7 : Hid (W7.heap[bl2]? = some (.cells #[.int .i64 k2, .string S2, .bool b2, .int .u64 n2, .slice lo2 ln2 lc2, .slice mo2 mn2 mc2, .string I2, .string U2] 27 (0, 0))) := Lib.hid (((hbn).block _ (row_lt HX2_w6.out)).trans HX2_w6.out)
  have HX3_W7 := Lib.hid hxn
  clear hW hbl hbn hxn
  refine (HRK.out W7).mono ?_; intro e w8 hpost
  obtain ⟨hb, hcase⟩ := hpost
  rw [HK.out] at hcase
  have HB_w_w8 := Lib.hid (below_step HB_w_W7.out (hb))
  have HB_w2_w8 := Lib.hid (below_step HB_w2_W7.out (hb))
  have HB_w4_w8 := Lib.hid (below_step HB_w4_W7.out (hb))
  have HB_w6_w8 := Lib.hid (below_step HB_w6_W7.out (hb))
  have HX1_w8 : Hid (w8.heap[bl1]? = some (.cells #[.int .i64 k1, .string S1, .bool b1, .int .u64 n1, .slice lo1 ln1 lc1, .slice mo1 mn1 mc1, .string I1, .string U1] 27 (0, 0))) := Lib.hid (((hb).block _ (row_lt HX1_W7.out)).trans HX1_W7.out)
  have HX2_w8 : Hid (w8.heap[bl2]? = some (.cells #[.int .i64 k2, .string S2, .bool b2, .int .u64 n2, .slice lo2 ln2 lc2, .slice mo2 mn2 mc2, .string I2, .string U2] 27 (0, 0))) := Lib.hid (((hb).block _ (row_lt HX2_W7.out)).trans HX2_W7.out)
  have HX3_w8 : Hid (w8.heap[bl3]? = some (.cells #[.string ⟨#[]⟩, .bool false, .int .i64 0, .string ⟨#[]⟩, .bool false, .int .u64 0, .slice none 0 0, .slice none 0 0, .string ⟨#[]⟩, .string ⟨#[]⟩, .string ⟨#[]⟩] 35 (0, 0))) := Lib.hid (((hb).block _ (row_lt HX3_W7.out)).trans HX3_W7.out)
  subst hcase
  clear hb
  unfold kzero
  go_wp2_with fail
  obtain ⟨bl4, hbl⟩ : ∃ bx, w8.heap.size = bx := ⟨_, rfl⟩
  obtain ⟨W9, hW⟩ : ∃ W, w8.alloc (.cells #[.string ⟨#[]⟩, .bool false, .int .i64 0, .string ⟨#[]⟩, .bool false, .int .u64 0, .slice none 0 0, .slice none 0 0, .string ⟨#[]⟩, .string ⟨#[]⟩, .string ⟨#[]⟩] 35) = W := ⟨_, rfl⟩
  have hbn : Below w8.heap.size w8 W9 := by rw [← hW]; exact below_new _ _
  have hxn : W9.heap[bl4]? = some (.cells #[.string ⟨#[]⟩, .bool false, .int .i64 0, .string ⟨#[]⟩, .bool false, .int .u64 0, .slice none 0 0, .slice none 0 0, .string ⟨#[]⟩, .string ⟨#[]⟩, .string ⟨#[]⟩] 35 (0, 0)) := by rw [← hW, ← hbl]; exact heap_alloc_new _ _
  rw [hW, hbl]
  have HB_w_W9 := Lib.hid (below_step HB_w_w8.out (hbn))
  have HB_w2_W9 := Lib.hid (below_step HB_w2_w8.out (hbn))
  have HB_w4_W9 := Lib.hid (below_step HB_w4_w8.out (hbn))
  have HB_w6_W9 := Lib.hid (below_step HB_w6_w8.out (hbn))
  have HB_w8_W9 := Lib.hid (hbn)
  have HX1_W9 : Hid (W9.heap[bl1]? = some (.cells #[.int .i64 k1, .string S1, .bool b1, .int .u64 n1, .slice lo1 ln1 lc1, .slice mo1 mn1 mc1, .string I1, .string U1] 27 (0, 0))) := Lib.hid (((hbn).block _ (row_lt HX1_w8.out)).trans HX1_w8.out)
  have HX2_W9 : Hid (W9.heap[bl2]? = some (.cells #[.int .i64 k2, .string S2, .bool b2, .int .u64 n2, .slice lo2 ln2 lc2, .slice mo2 mn2 mc2, .string I2, .string U2] 27 (0, 0))) := Lib.hid (((hbn).block _ (row_lt HX2_w8.out)).trans HX2_w8.out)
  have HX3_W9 : Hid (W9.heap[bl3]? = some (.cells #[.string ⟨#[]⟩, .bool false, .int .i64 0, .string ⟨#[]⟩, .bool false, .int .u64 0, .slice none 0 0, .slice none 0 0, .string ⟨#[]⟩, .string ⟨#[]⟩, .string ⟨#[]⟩] 35 (0, 0))) := Lib.hid (((hbn).block _ (row_lt HX3_w8.out)).trans HX3_w8.out)
  have HX4_W9 := Lib.hid hxn
  clear hW hbl hbn hxn
  refine (first8 W9 (HG.out.below HB_w_W9.out)).mono ?_; rintro e w10 ⟨rfl, hb⟩
  have HB_w_w10 := Lib.hid (below_step HB_w_W9.out (hb))
  have HB_w2_w10 := Lib.hid (below_step HB_w2_W9.out (hb))
  have HB_w4_w10 := Lib.hid (below_step HB_w4_W9.out (hb))
  have HB_w6_w10 := Lib.hid (below_step HB_w6_W9.out (hb))
  have HB_w8_w10 := Lib.hid (below_step HB_w8_W9.out (hb))
  have HX1_w10 : Hid (w10.heap[bl1]? = some (.cells #[.int .i64 k1, .string S1, .bool b1, .int .u64 n1, .slice lo1 ln1 lc1, .slice mo1 mn1 mc1, .string I1, .string U1] 27 (0, 0))) := Lib.hid (((hb).block _ (row_lt HX1_W9.out)).trans HX1_W9.out)
  have HX2_w10 : Hid (w10.heap[bl2]? = some (.cells #[.int .i64 k2, .string S2, .bool b2, .int .u64 n2, .slice lo2 ln2 lc2, .slice mo2 mn2 mc2, .string I2, .string U2] 27 (0, 0))) := Lib.hid (((hb).block _ (row_lt HX2_W9.out)).trans HX2_W9.out)
  have HX3_w10 : Hid (w10.heap[bl3]? = some (.cells #[.string ⟨#[]⟩, .bool false, .int .i64 0, .string ⟨#[]⟩, .bool false, .int .u64 0, .slice none 0 0, .slice none 0 0, .string ⟨#[]⟩, .string ⟨#[]⟩, .string ⟨#[]⟩] 35 (0, 0))) := Lib.hid (((hb).block _ (row_lt HX3_W9.out)).trans HX3_W9.out)
  have HX4_w10 : Hid (w10.heap[bl4]? = some (.cells #[.string ⟨#[]⟩, .bool false, .int .i64 0, .string ⟨#[]⟩, .bool false, .int .u64 0, .slice none 0 0, .slice none 0 0, .string ⟨#[]⟩, .string ⟨#[]⟩, .string ⟨#[]⟩] 35 (0, 0))) := Lib.hid (((hb).block _ (row_lt HX4_W9.out)).trans HX4_W9.out)
  clear hb
  have hx1_0 : w10.cell? ⟨bl1, 0, none⟩ = some (.int .i64 k1) := row_cell HX1_w10.out (j := 0) rfl
  have hx1_1 : w10.cell? ⟨bl1, 1, none⟩ = some (.string S1) := row_cell HX1_w10.out (j := 1) rfl
  have hx1_2 : w10.cell? ⟨bl1, 2, none⟩ = some (.bool b1) := row_cell HX1_w10.out (j := 2) rfl
  have hx1_3 : w10.cell? ⟨bl1, 3, none⟩ = some (.int .u64 n1) := row_cell HX1_w10.out (j := 3) rfl
  have hx1_4 : w10.cell? ⟨bl1, 4, none⟩ = some (.slice lo1 ln1 lc1) := row_cell HX1_w10.out (j := 4) rfl
  have hx1_5 : w10.cell? ⟨bl1, 5, none⟩ = some (.slice mo1 mn1 mc1) := row_cell HX1_w10.out (j := 5) rfl
  have hx1_6 : w10.cell? ⟨bl1, 6, none⟩ = some (.string I1) := row_cell HX1_w10.out (j := 6) rfl
  have hx1_7 : w10.cell? ⟨bl1, 7, none⟩ = some (.string U1) := row_cell HX1_w10.out (j := 7) rfl
  have hx2_0 : w10.cell? ⟨bl2, 0, none⟩ = some (.int .i64 k2) := row_cell HX2_w10.out (j := 0) rfl
  have hx2_1 : w10.cell? ⟨bl2, 1, none⟩ = some (.string S2) := row_cell HX2_w10.out (j := 1) rfl
  have hx2_2 : w10.cell? ⟨bl2, 2, none⟩ = some (.bool b2) := row_cell HX2_w10.out (j := 2) rfl
  have hx2_3 : w10.cell? ⟨bl2, 3, none⟩ = some (.int .u64 n2) := row_cell HX2_w10.out (j := 3) rfl
  have hx2_4 : w10.cell? ⟨bl2, 4, none⟩ = some (.slice lo2 ln2 lc2) := row_cell HX2_w10.out (j := 4) rfl
  have hx2_5 : w10.cell? ⟨bl2, 5, none⟩ = some (.slice mo2 mn2 mc2) := row_cell HX2_w10.out (j := 5) rfl
  have hx2_6 : w10.cell? ⟨bl2, 6, none⟩ = some (.string I2) := row_cell HX2_w10.out (j := 6) rfl
  have hx2_7 : w10.cell? ⟨bl2, 7, none⟩ = some (.string U2) := row_cell HX2_w10.out (j := 7) rfl
  go_wp2_with fail
  refine (hval_same x x _ _ _ _ w10 HLV.out (HREL1.out.below HB_w2_w10.out) (HREL2.out.below HB_w4_w10.out)).mono ?_; rintro e w12 ⟨rfl, hb⟩
  rw [alike_yes rfl]
  have HB_w_w12 := Lib.hid (below_step HB_w_w10.out (hb))
  have HB_w2_w12 := Lib.hid (below_step HB_w2_w10.out (hb))
  have HB_w4_w12 := Lib.hid (below_step HB_w4_w10.out (hb))
  have HB_w6_w12 := Lib.hid (below_step HB_w6_w10.out (hb))
  have HB_w8_w12 := Lib.hid (below_step HB_w8_w10.out (hb))
  have HX1_w12 : Hid (w12.heap[bl1]? = some (.cells #[.int .i64 k1, .string S1, .bool b1, .int .u64 n1, .slice lo1 ln1 lc1, .slice mo1 mn1 mc1, .string I1, .string U1] 27 (0, 0))) := Lib.hid (((hb).block _ (row_lt HX1_w10.out)).trans HX1_w10.out)
  have HX2_w12 : Hid (w12.heap[bl2]? = some (.cells #[.int .i64 k2, .string S2, .bool b2, .int .u64 n2, .slice lo2 ln2 lc2, .slice mo2 mn2 mc2, .string I2, .string U2] 27 (0, 0))) := Lib.hid (((hb).block _ (row_lt HX2_w10.out)).trans HX2_w10.out)
  have HX3_w12 : Hid (w12.heap[bl3]? = some (.cells #[.string ⟨#[]⟩, .bool false, .int .i64 0, .string ⟨#[]⟩, .bool false, .int .u64 0, .slice none 0 0, .slice none 0 0, .string ⟨#[]⟩, .string ⟨#[]⟩, .string ⟨#[]⟩] 35 (0, 0))) := Lib.hid (((hb).block _ (row_lt HX3_w10.out)).trans HX3_w10.out)
  have HX4_w12 : Hid (w12.heap[bl4]? = some (.cells #[.string ⟨#[]⟩, .bool false, .int .i64 0, .string ⟨#[]⟩, .bool false, .int .u64 0, .slice none 0 0, .slice none 0 0, .string ⟨#[]⟩, .string ⟨#[]⟩, .string ⟨#[]⟩] 35 (0, 0))) := Lib.hid (((hb).block _ (row_lt HX4_w10.out)).trans HX4_w10.out)
  clear hb hx1_0 hx1_1 hx1_2 hx1_3 hx1_4 hx1_5 hx1_6 hx1_7 hx2_0 hx2_1 hx2_2 hx2_3 hx2_4 hx2_5 hx2_6 hx2_7
  go_wp2_with fail
  obtain ⟨ws, he⟩ := (HEW3.out.below HB_w6_w12.out)
  refine (wrong8_any _ s.size c2 ws _ w12 he (HG.out.below HB_w_w12.out) HQ3.out HCK.out).mono ?_; rintro e w13 ⟨rfl, hb⟩
  have HB_w_w13 := Lib.hid (below_step HB_w_w12.out (hb))
  have HB_w2_w13 := Lib.hid (below_step HB_w2_w12.out (hb))
  have HB_w4_w13 := Lib.hid (below_step HB_w4_w12.out (hb))
  have HB_w6_w13 := Lib.hid (below_step HB_w6_w12.out (hb))
  have HB_w8_w13 := Lib.hid (below_step HB_w8_w12.out (hb))
  have HX1_w13 : Hid (w13.heap[bl1]? = some (.cells #[.int .i64 k1, .string S1, .bool b1, .int .u64 n1, .slice lo1 ln1 lc1, .slice mo1 mn1 mc1, .string I1, .string U1] 27 (0, 0))) := Lib.hid (((hb).block _ (row_lt HX1_w12.out)).trans HX1_w12.out)
  have HX2_w13 : Hid (w13.heap[bl2]? = some (.cells #[.int .i64 k2, .string S2, .bool b2, .int .u64 n2, .slice lo2 ln2 lc2, .slice mo2 mn2 mc2, .string I2, .string U2] 27 (0, 0))) := Lib.hid (((hb).block _ (row_lt HX2_w12.out)).trans HX2_w12.out)
  have HX3_w13 : Hid (w13.heap[bl3]? = some (.cells #[.string ⟨#[]⟩, .bool false, .int .i64 0, .string ⟨#[]⟩, .bool false, .int .u64 0, .slice none 0 0, .slice none 0 0, .string ⟨#[]⟩, .string ⟨#[]⟩, .string ⟨#[]⟩] 35 (0, 0))) := Lib.hid (((hb).block _ (row_lt HX3_w12.out)).trans HX3_w12.out)
  have HX4_w13 : Hid (w13.heap[bl4]? = some (.cells #[.string ⟨#[]⟩, .bool false, .int .i64 0, .string ⟨#[]⟩, .bool false, .int .u64 0, .slice none 0 0, .slice none 0 0, .string ⟨#[]⟩, .string ⟨#[]⟩, .string ⟨#[]⟩] 35 (0, 0))) := Lib.hid (((hb).block _ (row_lt HX4_w12.out)).trans HX4_w12.out)
  clear hb he
  have hx3_0 : w13.cell? ⟨bl3, 0, none⟩ = some (.string ⟨#[]⟩) := row_cell HX3_w13.out (j := 0) rfl
  have hx3_1 : w13.cell? ⟨bl3, 1, none⟩ = some (.bool false) := row_cell HX3_w13.out (j := 1) rfl
  have hx3_2 : w13.cell? ⟨bl3, 2, none⟩ = some (.int .i64 0) := row_cell HX3_w13.out (j := 2) rfl
  have hx3_3 : w13.cell? ⟨bl3, 3, none⟩ = some (.string ⟨#[]⟩) := row_cell HX3_w13.out (j := 3) rfl
  have hx3_4 : w13.cell? ⟨bl3, 4, none⟩ = some (.bool false) := row_cell HX3_w13.out (j := 4) rfl
  have hx3_5 : w13.cell? ⟨bl3, 5, none⟩ = some (.int .u64 0) := row_cell HX3_w13.out (j := 5) rfl
  have hx3_6 : w13.cell? ⟨bl3, 6, none⟩ = some (.slice none 0 0) := row_cell HX3_w13.out (j := 6) rfl
  have hx3_7 : w13.cell? ⟨bl3, 7, none⟩ = some (.slice none 0 0) := row_cell HX3_w13.out (j := 7) rfl
  have hx3_8 : w13.cell? ⟨bl3, 8, none⟩ = some (.string ⟨#[]⟩) := row_cell HX3_w13.out (j := 8) rfl
  have hx3_9 : w13.cell? ⟨bl3, 9, none⟩ = some (.string ⟨#[]⟩) := row_cell HX3_w13.out (j := 9) rfl
  have hx3_10 : w13.cell? ⟨bl3, 10, none⟩ = some (.string ⟨#[]⟩) := row_cell HX3_w13.out (j := 10) rfl
  have hx4_0 : w13.cell? ⟨bl4, 0, none⟩ = some (.string ⟨#[]⟩) := row_cell HX4_w13.out (j := 0) rfl
  have hx4_1 : w13.cell? ⟨bl4, 1, none⟩ = some (.bool false) := row_cell HX4_w13.out (j := 1) rfl
  have hx4_2 : w13.cell? ⟨bl4, 2, none⟩ = some (.int .i64 0) := row_cell HX4_w13.out (j := 2) rfl
  have hx4_3 : w13.cell? ⟨bl4, 3, none⟩ = some (.string ⟨#[]⟩) := row_cell HX4_w13.out (j := 3) rfl
  have hx4_4 : w13.cell? ⟨bl4, 4, none⟩ = some (.bool false) := row_cell HX4_w13.out (j := 4) rfl
  have hx4_5 : w13.cell? ⟨bl4, 5, none⟩ = some (.int .u64 0) := row_cell HX4_w13.out (j := 5) rfl
  have hx4_6 : w13.cell? ⟨bl4, 6, none⟩ = some (.slice none 0 0) := row_cell HX4_w13.out (j := 6) rfl
  have hx4_7 : w13.cell? ⟨bl4, 7, none⟩ = some (.slice none 0 0) := row_cell HX4_w13.out (j := 7) rfl
  have hx4_8 : w13.cell? ⟨bl4, 8, none⟩ = some (.string ⟨#[]⟩) := row_cell HX4_w13.out (j := 8) rfl
  have hx4_9 : w13.cell? ⟨bl4, 9, none⟩ = some (.string ⟨#[]⟩) := row_cell HX4_w13.out (j := 9) rfl
  have hx4_10 : w13.cell? ⟨bl4, 10, none⟩ = some (.string ⟨#[]⟩) := row_cell HX4_w13.out (j := 10) rfl
  go_wp2_with fail
  refine (hkey_same (.mk [] false (.mk 0 [] false 0 [] [] [] []) []) (.mk [] false (.mk 0 [] false 0 [] [] [] []) []) [.string ⟨#[]⟩, .bool false, .int .i64 0, .string ⟨#[]⟩, .bool false, .int .u64 0, .slice none 0 0, .slice none 0 0, .string ⟨#[]⟩, .string ⟨#[]⟩, .string ⟨#[]⟩] [.string ⟨#[]⟩, .bool false, .int .i64 0, .string ⟨#[]⟩, .bool false, .int .u64 0, .slice none 0 0, .slice none 0 0, .string ⟨#[]⟩, .string ⟨#[]⟩, .string ⟨#[]⟩] (fun _ => True) (fun _ => True) w13 kzero_lim (kzero_rel _ _) (kzero_rel _ _)).mono ?_; rintro e w14 ⟨rfl, hb⟩
  rw [alike_yes rfl]
  have HB_w_w14 := Lib.hid (below_step HB_w_w13.out (hb))
  have HB_w2_w14 := Lib.hid (below_step HB_w2_w13.out (hb))
  have HB_w4_w14 := Lib.hid (below_step HB_w4_w13.out (hb))
  have HB_w6_w14 := Lib.hid (below_step HB_w6_w13.out (hb))
  have HB_w8_w14 := Lib.hid (below_step HB_w8_w13.out (hb))
  clear hb
  go_wp2_with fail
  go_ret
  exact ⟨rfl, HB_w_w14.out⟩
set_option maxRecDepth 1000000 in
set_option maxHeartbeats 16000000 in
theorem vreads_walk_oo (s : ByteArray) (d : Int) (w : World) (hs : s.size ≤ 4000) (hd : -9223372036854775808 ≤ d ∧ d ≤ 9223372036854775807) (hg : Glob w) {x : Val} (hv : vread 4001 s.data.toList d = .ok x) {y : KV} (hk : kread 4001 s.data.toList d = .ok y) :
    Calls Tryz.prog 3 #[.string s, .int .i64 d] w fun e w' => e = .returned (.bool true) ∧ Below w.heap.size w w' := by
  have HG := Lib.hid hg
  have HU := Lib.hid (fun w' => (both_any 4001 s d w' (by omega) (by omega) hd).1)
  have HUK := Lib.hid (fun w' => (both_any 4001 s d w' (by omega) (by omega) hd).2)
  have HR := Lib.hid (fun w' => (both8_any 4001 s d w' (by omega) (by omega) hd).1)
  have HRK := Lib.hid (fun w' => (both8_any 4001 s d w' (by omega) (by omega) hd).2)
  have hsl : s.data.toList.length = s.size := by simp
  have HLV := Lib.hid ((both_lim 4001).1 _ _ _ (by omega) hv)
  have HLK := Lib.hid ((both_lim 4001).2 _ _ _ (by omega) hk)
  have HV := Lib.hid hv
  have HK := Lib.hid hk
  have d0 : decide ((4000 : Int) < (s.size : Int)) = false := decide_eq_false (by omega)
  clear hg hd hv hk hsl
  go_enter Tryz.func3, Tryz.ntmps3
  go_wp2_with fail
  refine (first8 w HG.out).mono ?_; rintro e w1 ⟨rfl, hb1⟩
  have HB_w_w1 := Lib.hid (hb1)
  clear hb1
  go_wp2_with fail
  refine (HU.out w1).mono ?_; intro e w2 hpost
  obtain ⟨hb, hcase⟩ := hpost
  rw [HV.out] at hcase
  have HB_w_w2 := Lib.hid (below_step HB_w_w1.out (hb))
  obtain ⟨cs, rfl, hrel⟩ := hcase
  obtain ⟨k1, S1, b1, n1, lo1, ln1, lc1, mo1, mn1, mc1, I1, U1, rfl⟩ := hrel.form
  have HREL1 := Lib.hid hrel
  clear hrel hb
  go_wp2_with fail
  obtain ⟨bl1, hbl⟩ : ∃ bx, w2.heap.size = bx := ⟨_, rfl⟩
  obtain ⟨W3, hW⟩ : ∃ W, w2.alloc (.cells #[.int .i64 k1, .string S1, .bool b1, .int .u64 n1, .slice lo1 ln1 lc1, .slice mo1 mn1 mc1, .string I1, .string U1] 27) = W := ⟨_, rfl⟩
  have hbn : Below w2.heap.size w2 W3 := by rw [← hW]; exact below_new _ _
  have hxn : W3.heap[bl1]? = some (.cells #[.int .i64 k1, .string S1, .bool b1, .int .u64 n1, .slice lo1 ln1 lc1, .slice mo1 mn1 mc1, .string I1, .string U1] 27 (0, 0)) := by rw [← hW, ← hbl]; exact heap_alloc_new _ _
  rw [hW, hbl]
  have HB_w_W3 := Lib.hid (below_step HB_w_w2.out (hbn))
  have HB_w2_W3 := Lib.hid (hbn)
  have HX1_W3 := Lib.hid hxn
  clear hW hbl hbn hxn
  refine (HR.out W3).mono ?_; intro e w4 hpost
  obtain ⟨hb, hcase⟩ := hpost
  rw [HV.out] at hcase
  have HB_w_w4 := Lib.hid (below_step HB_w_W3.out (hb))
  have HB_w2_w4 := Lib.hid (below_step HB_w2_W3.out (hb))
  have HX1_w4 : Hid (w4.heap[bl1]? = some (.cells #[.int .i64 k1, .string S1, .bool b1, .int .u64 n1, .slice lo1 ln1 lc1, .slice mo1 mn1 mc1, .string I1, .string U1] 27 (0, 0))) := Lib.hid (((hb).block _ (row_lt HX1_W3.out)).trans HX1_W3.out)
  obtain ⟨cs, rfl, hrel⟩ := hcase
  obtain ⟨k2, S2, b2, n2, lo2, ln2, lc2, mo2, mn2, mc2, I2, U2, rfl⟩ := hrel.form
  have HREL2 := Lib.hid hrel
  clear hrel hb
  go_wp2_with fail
  obtain ⟨bl2, hbl⟩ : ∃ bx, w4.heap.size = bx := ⟨_, rfl⟩
  obtain ⟨W5, hW⟩ : ∃ W, w4.alloc (.cells #[.int .i64 k2, .string S2, .bool b2, .int .u64 n2, .slice lo2 ln2 lc2, .slice mo2 mn2 mc2, .string I2, .string U2] 27) = W := ⟨_, rfl⟩
  have hbn : Below w4.heap.size w4 W5 := by rw [← hW]; exact below_new _ _
  have hxn : W5.heap[bl2]? = some (.cells #[.int .i64 k2, .string S2, .bool b2, .int .u64 n2, .slice lo2 ln2 lc2, .slice mo2 mn2 mc2, .string I2, .string U2] 27 (0, 0)) := by rw [← hW, ← hbl]; exact heap_alloc_new _ _
  rw [hW, hbl]
  have HB_w_W5 := Lib.hid (below_step HB_w_w4.out (hbn))
  have HB_w2_W5 := Lib.hid (below_step HB_w2_w4.out (hbn))
  have HB_w4_W5 := Lib.hid (hbn)
  have HX1_W5 : Hid (W5.heap[bl1]? = some (.cells #[.int .i64 k1, .string S1, .bool b1, .int .u64 n1, .slice lo1 ln1 lc1, .slice mo1 mn1 mc1, .string I1, .string U1] 27 (0, 0))) := Lib.hid (((hbn).block _ (row_lt HX1_w4.out)).trans HX1_w4.out)
  have HX2_W5 := Lib.hid hxn
  clear hW hbl hbn hxn
  refine (HUK.out W5).mono ?_; intro e w6 hpost
  obtain ⟨hb, hcase⟩ := hpost
  rw [HK.out] at hcase
  have HB_w_w6 := Lib.hid (below_step HB_w_W5.out (hb))
  have HB_w2_w6 := Lib.hid (below_step HB_w2_W5.out (hb))
  have HB_w4_w6 := Lib.hid (below_step HB_w4_W5.out (hb))
  have HX1_w6 : Hid (w6.heap[bl1]? = some (.cells #[.int .i64 k1, .string S1, .bool b1, .int .u64 n1, .slice lo1 ln1 lc1, .slice mo1 mn1 mc1, .string I1, .string U1] 27 (0, 0))) := Lib.hid (((hb).block _ (row_lt HX1_W5.out)).trans HX1_W5.out)
  have HX2_w6 : Hid (w6.heap[bl2]? = some (.cells #[.int .i64 k2, .string S2, .bool b2, .int .u64 n2, .slice lo2 ln2 lc2, .slice mo2 mn2 mc2, .string I2, .string U2] 27 (0, 0))) := Lib.hid (((hb).block _ (row_lt HX2_W5.out)).trans HX2_W5.out)
  obtain ⟨cs, rfl, hrel⟩ := hcase
  obtain ⟨K3, h3, k3, S3, b3, n3, lo3, ln3, lc3, mo3, mn3, mc3, I3, U3, Y3, rfl⟩ := hrel.form
  have HREL3 := Lib.hid hrel
  clear hrel hb
  go_wp2_with fail
  obtain ⟨bl3, hbl⟩ : ∃ bx, w6.heap.size = bx := ⟨_, rfl⟩
  obtain ⟨W7, hW⟩ : ∃ W, w6.alloc (.cells #[.string K3, .bool h3, .int .i64 k3, .string S3, .bool b3, .int .u64 n3, .slice lo3 ln3 lc3, .slice mo3 mn3 mc3, .string I3, .string U3, .string Y3] 35) = W := ⟨_, rfl⟩
  have hbn : Below w6.heap.size w6 W7 := by rw [← hW]; exact below_new _ _
  have hxn : W7.heap[bl3]? = some (.cells #[.string K3, .bool h3, .int .i64 k3, .string S3, .bool b3, .int .u64 n3, .slice lo3 ln3 lc3, .slice mo3 mn3 mc3, .string I3, .string U3, .string Y3] 35 (0, 0)) := by rw [← hW, ← hbl]; exact heap_alloc_new _ _
  rw [hW, hbl]
  have HB_w_W7 := Lib.hid (below_step HB_w_w6.out (hbn))
  have HB_w2_W7 := Lib.hid (below_step HB_w2_w6.out (hbn))
  have HB_w4_W7 := Lib.hid (below_step HB_w4_w6.out (hbn))
  have HB_w6_W7 := Lib.hid (hbn)
  have HX1_W7 : Hid (W7.heap[bl1]? = some (.cells #[.int .i64 k1, .string S1, .bool b1, .int .u64 n1, .slice lo1 ln1 lc1, .slice mo1 mn1 mc1, .string I1, .string U1] 27 (0, 0))) := Lib.hid (((hbn).block _ (row_lt HX1_w6.out)).trans HX1_w6.out)
  have HX2_W7 : Hid (W7.heap[bl2]? = some (.cells #[.int .i64 k2, .string S2, .bool b2, .int .u64 n2, .slice lo2 ln2 lc2, .slice mo2 mn2 mc2, .string I2, .string U2] 27 (0, 0))) := Lib.hid (((hbn).block _ (row_lt HX2_w6.out)).trans HX2_w6.out)
  have HX3_W7 := Lib.hid hxn
  clear hW hbl hbn hxn
  refine (HRK.out W7).mono ?_; intro e w8 hpost
  obtain ⟨hb, hcase⟩ := hpost
  rw [HK.out] at hcase
  have HB_w_w8 := Lib.hid (below_step HB_w_W7.out (hb))
  have HB_w2_w8 := Lib.hid (below_step HB_w2_W7.out (hb))
  have HB_w4_w8 := Lib.hid (below_step HB_w4_W7.out (hb))
  have HB_w6_w8 := Lib.hid (below_step HB_w6_W7.out (hb))
  have HX1_w8 : Hid (w8.heap[bl1]? = some (.cells #[.int .i64 k1, .string S1, .bool b1, .int .u64 n1, .slice lo1 ln1 lc1, .slice mo1 mn1 mc1, .string I1, .string U1] 27 (0, 0))) := Lib.hid (((hb).block _ (row_lt HX1_W7.out)).trans HX1_W7.out)
  have HX2_w8 : Hid (w8.heap[bl2]? = some (.cells #[.int .i64 k2, .string S2, .bool b2, .int .u64 n2, .slice lo2 ln2 lc2, .slice mo2 mn2 mc2, .string I2, .string U2] 27 (0, 0))) := Lib.hid (((hb).block _ (row_lt HX2_W7.out)).trans HX2_W7.out)
  have HX3_w8 : Hid (w8.heap[bl3]? = some (.cells #[.string K3, .bool h3, .int .i64 k3, .string S3, .bool b3, .int .u64 n3, .slice lo3 ln3 lc3, .slice mo3 mn3 mc3, .string I3, .string U3, .string Y3] 35 (0, 0))) := Lib.hid (((hb).block _ (row_lt HX3_W7.out)).trans HX3_W7.out)
  obtain ⟨cs, rfl, hrel⟩ := hcase
  obtain ⟨K4, h4, k4, S4, b4, n4, lo4, ln4, lc4, mo4, mn4, mc4, I4, U4, Y4, rfl⟩ := hrel.form
  have HREL4 := Lib.hid hrel
  clear hrel hb
  go_wp2_with fail
  obtain ⟨bl4, hbl⟩ : ∃ bx, w8.heap.size = bx := ⟨_, rfl⟩
  obtain ⟨W9, hW⟩ : ∃ W, w8.alloc (.cells #[.string K4, .bool h4, .int .i64 k4, .string S4, .bool b4, .int .u64 n4, .slice lo4 ln4 lc4, .slice mo4 mn4 mc4, .string I4, .string U4, .string Y4] 35) = W := ⟨_, rfl⟩
  have hbn : Below w8.heap.size w8 W9 := by rw [← hW]; exact below_new _ _
  have hxn : W9.heap[bl4]? = some (.cells #[.string K4, .bool h4, .int .i64 k4, .string S4, .bool b4, .int .u64 n4, .slice lo4 ln4 lc4, .slice mo4 mn4 mc4, .string I4, .string U4, .string Y4] 35 (0, 0)) := by rw [← hW, ← hbl]; exact heap_alloc_new _ _
  rw [hW, hbl]
  have HB_w_W9 := Lib.hid (below_step HB_w_w8.out (hbn))
  have HB_w2_W9 := Lib.hid (below_step HB_w2_w8.out (hbn))
  have HB_w4_W9 := Lib.hid (below_step HB_w4_w8.out (hbn))
  have HB_w6_W9 := Lib.hid (below_step HB_w6_w8.out (hbn))
  have HB_w8_W9 := Lib.hid (hbn)
  have HX1_W9 : Hid (W9.heap[bl1]? = some (.cells #[.int .i64 k1, .string S1, .bool b1, .int .u64 n1, .slice lo1 ln1 lc1, .slice mo1 mn1 mc1, .string I1, .string U1] 27 (0, 0))) := Lib.hid (((hbn).block _ (row_lt HX1_w8.out)).trans HX1_w8.out)
  have HX2_W9 : Hid (W9.heap[bl2]? = some (.cells #[.int .i64 k2, .string S2, .bool b2, .int .u64 n2, .slice lo2 ln2 lc2, .slice mo2 mn2 mc2, .string I2, .string U2] 27 (0, 0))) := Lib.hid (((hbn).block _ (row_lt HX2_w8.out)).trans HX2_w8.out)
  have HX3_W9 : Hid (W9.heap[bl3]? = some (.cells #[.string K3, .bool h3, .int .i64 k3, .string S3, .bool b3, .int .u64 n3, .slice lo3 ln3 lc3, .slice mo3 mn3 mc3, .string I3, .string U3, .string Y3] 35 (0, 0))) := Lib.hid (((hbn).block _ (row_lt HX3_w8.out)).trans HX3_w8.out)
  have HX4_W9 := Lib.hid hxn
  clear hW hbl hbn hxn
  refine (first8 W9 (HG.out.below HB_w_W9.out)).mono ?_; rintro e w10 ⟨rfl, hb⟩
  have HB_w_w10 := Lib.hid (below_step HB_w_W9.out (hb))
  have HB_w2_w10 := Lib.hid (below_step HB_w2_W9.out (hb))
  have HB_w4_w10 := Lib.hid (below_step HB_w4_W9.out (hb))
  have HB_w6_w10 := Lib.hid (below_step HB_w6_W9.out (hb))
  have HB_w8_w10 := Lib.hid (below_step HB_w8_W9.out (hb))
  have HX1_w10 : Hid (w10.heap[bl1]? = some (.cells #[.int .i64 k1, .string S1, .bool b1, .int .u64 n1, .slice lo1 ln1 lc1, .slice mo1 mn1 mc1, .string I1, .string U1] 27 (0, 0))) := Lib.hid (((hb).block _ (row_lt HX1_W9.out)).trans HX1_W9.out)
  have HX2_w10 : Hid (w10.heap[bl2]? = some (.cells #[.int .i64 k2, .string S2, .bool b2, .int .u64 n2, .slice lo2 ln2 lc2, .slice mo2 mn2 mc2, .string I2, .string U2] 27 (0, 0))) := Lib.hid (((hb).block _ (row_lt HX2_W9.out)).trans HX2_W9.out)
  have HX3_w10 : Hid (w10.heap[bl3]? = some (.cells #[.string K3, .bool h3, .int .i64 k3, .string S3, .bool b3, .int .u64 n3, .slice lo3 ln3 lc3, .slice mo3 mn3 mc3, .string I3, .string U3, .string Y3] 35 (0, 0))) := Lib.hid (((hb).block _ (row_lt HX3_W9.out)).trans HX3_W9.out)
  have HX4_w10 : Hid (w10.heap[bl4]? = some (.cells #[.string K4, .bool h4, .int .i64 k4, .string S4, .bool b4, .int .u64 n4, .slice lo4 ln4 lc4, .slice mo4 mn4 mc4, .string I4, .string U4, .string Y4] 35 (0, 0))) := Lib.hid (((hb).block _ (row_lt HX4_W9.out)).trans HX4_W9.out)
  clear hb
  have hx1_0 : w10.cell? ⟨bl1, 0, none⟩ = some (.int .i64 k1) := row_cell HX1_w10.out (j := 0) rfl
  have hx1_1 : w10.cell? ⟨bl1, 1, none⟩ = some (.string S1) := row_cell HX1_w10.out (j := 1) rfl
  have hx1_2 : w10.cell? ⟨bl1, 2, none⟩ = some (.bool b1) := row_cell HX1_w10.out (j := 2) rfl
  have hx1_3 : w10.cell? ⟨bl1, 3, none⟩ = some (.int .u64 n1) := row_cell HX1_w10.out (j := 3) rfl
  have hx1_4 : w10.cell? ⟨bl1, 4, none⟩ = some (.slice lo1 ln1 lc1) := row_cell HX1_w10.out (j := 4) rfl
  have hx1_5 : w10.cell? ⟨bl1, 5, none⟩ = some (.slice mo1 mn1 mc1) := row_cell HX1_w10.out (j := 5) rfl
  have hx1_6 : w10.cell? ⟨bl1, 6, none⟩ = some (.string I1) := row_cell HX1_w10.out (j := 6) rfl
  have hx1_7 : w10.cell? ⟨bl1, 7, none⟩ = some (.string U1) := row_cell HX1_w10.out (j := 7) rfl
  have hx2_0 : w10.cell? ⟨bl2, 0, none⟩ = some (.int .i64 k2) := row_cell HX2_w10.out (j := 0) rfl
  have hx2_1 : w10.cell? ⟨bl2, 1, none⟩ = some (.string S2) := row_cell HX2_w10.out (j := 1) rfl
  have hx2_2 : w10.cell? ⟨bl2, 2, none⟩ = some (.bool b2) := row_cell HX2_w10.out (j := 2) rfl
  have hx2_3 : w10.cell? ⟨bl2, 3, none⟩ = some (.int .u64 n2) := row_cell HX2_w10.out (j := 3) rfl
  have hx2_4 : w10.cell? ⟨bl2, 4, none⟩ = some (.slice lo2 ln2 lc2) := row_cell HX2_w10.out (j := 4) rfl
  have hx2_5 : w10.cell? ⟨bl2, 5, none⟩ = some (.slice mo2 mn2 mc2) := row_cell HX2_w10.out (j := 5) rfl
  have hx2_6 : w10.cell? ⟨bl2, 6, none⟩ = some (.string I2) := row_cell HX2_w10.out (j := 6) rfl
  have hx2_7 : w10.cell? ⟨bl2, 7, none⟩ = some (.string U2) := row_cell HX2_w10.out (j := 7) rfl
  go_wp2_with fail
  refine (hval_same x x _ _ _ _ w10 HLV.out (HREL1.out.below HB_w2_w10.out) (HREL2.out.below HB_w4_w10.out)).mono ?_; rintro e w12 ⟨rfl, hb⟩
  rw [alike_yes rfl]
  have HB_w_w12 := Lib.hid (below_step HB_w_w10.out (hb))
  have HB_w2_w12 := Lib.hid (below_step HB_w2_w10.out (hb))
  have HB_w4_w12 := Lib.hid (below_step HB_w4_w10.out (hb))
  have HB_w6_w12 := Lib.hid (below_step HB_w6_w10.out (hb))
  have HB_w8_w12 := Lib.hid (below_step HB_w8_w10.out (hb))
  have HX1_w12 : Hid (w12.heap[bl1]? = some (.cells #[.int .i64 k1, .string S1, .bool b1, .int .u64 n1, .slice lo1 ln1 lc1, .slice mo1 mn1 mc1, .string I1, .string U1] 27 (0, 0))) := Lib.hid (((hb).block _ (row_lt HX1_w10.out)).trans HX1_w10.out)
  have HX2_w12 : Hid (w12.heap[bl2]? = some (.cells #[.int .i64 k2, .string S2, .bool b2, .int .u64 n2, .slice lo2 ln2 lc2, .slice mo2 mn2 mc2, .string I2, .string U2] 27 (0, 0))) := Lib.hid (((hb).block _ (row_lt HX2_w10.out)).trans HX2_w10.out)
  have HX3_w12 : Hid (w12.heap[bl3]? = some (.cells #[.string K3, .bool h3, .int .i64 k3, .string S3, .bool b3, .int .u64 n3, .slice lo3 ln3 lc3, .slice mo3 mn3 mc3, .string I3, .string U3, .string Y3] 35 (0, 0))) := Lib.hid (((hb).block _ (row_lt HX3_w10.out)).trans HX3_w10.out)
  have HX4_w12 : Hid (w12.heap[bl4]? = some (.cells #[.string K4, .bool h4, .int .i64 k4, .string S4, .bool b4, .int .u64 n4, .slice lo4 ln4 lc4, .slice mo4 mn4 mc4, .string I4, .string U4, .string Y4] 35 (0, 0))) := Lib.hid (((hb).block _ (row_lt HX4_w10.out)).trans HX4_w10.out)
  clear hb hx1_0 hx1_1 hx1_2 hx1_3 hx1_4 hx1_5 hx1_6 hx1_7 hx2_0 hx2_1 hx2_2 hx2_3 hx2_4 hx2_5 hx2_6 hx2_7
  have hx3_0 : w12.cell? ⟨bl3, 0, none⟩ = some (.string K3) := row_cell HX3_w12.out (j := 0) rfl
  have hx3_1 : w12.cell? ⟨bl3, 1, none⟩ = some (.bool h3) := row_cell HX3_w12.out (j := 1) rfl
  have hx3_2 : w12.cell? ⟨bl3, 2, none⟩ = some (.int .i64 k3) := row_cell HX3_w12.out (j := 2) rfl
  have hx3_3 : w12.cell? ⟨bl3, 3, none⟩ = some (.string S3) := row_cell HX3_w12.out (j := 3) rfl
  have hx3_4 : w12.cell? ⟨bl3, 4, none⟩ = some (.bool b3) := row_cell HX3_w12.out (j := 4) rfl
  have hx3_5 : w12.cell? ⟨bl3, 5, none⟩ = some (.int .u64 n3) := row_cell HX3_w12.out (j := 5) rfl
  have hx3_6 : w12.cell? ⟨bl3, 6, none⟩ = some (.slice lo3 ln3 lc3) := row_cell HX3_w12.out (j := 6) rfl
  have hx3_7 : w12.cell? ⟨bl3, 7, none⟩ = some (.slice mo3 mn3 mc3) := row_cell HX3_w12.out (j := 7) rfl
  have hx3_8 : w12.cell? ⟨bl3, 8, none⟩ = some (.string I3) := row_cell HX3_w12.out (j := 8) rfl
  have hx3_9 : w12.cell? ⟨bl3, 9, none⟩ = some (.string U3) := row_cell HX3_w12.out (j := 9) rfl
  have hx3_10 : w12.cell? ⟨bl3, 10, none⟩ = some (.string Y3) := row_cell HX3_w12.out (j := 10) rfl
  have hx4_0 : w12.cell? ⟨bl4, 0, none⟩ = some (.string K4) := row_cell HX4_w12.out (j := 0) rfl
  have hx4_1 : w12.cell? ⟨bl4, 1, none⟩ = some (.bool h4) := row_cell HX4_w12.out (j := 1) rfl
  have hx4_2 : w12.cell? ⟨bl4, 2, none⟩ = some (.int .i64 k4) := row_cell HX4_w12.out (j := 2) rfl
  have hx4_3 : w12.cell? ⟨bl4, 3, none⟩ = some (.string S4) := row_cell HX4_w12.out (j := 3) rfl
  have hx4_4 : w12.cell? ⟨bl4, 4, none⟩ = some (.bool b4) := row_cell HX4_w12.out (j := 4) rfl
  have hx4_5 : w12.cell? ⟨bl4, 5, none⟩ = some (.int .u64 n4) := row_cell HX4_w12.out (j := 5) rfl
  have hx4_6 : w12.cell? ⟨bl4, 6, none⟩ = some (.slice lo4 ln4 lc4) := row_cell HX4_w12.out (j := 6) rfl
  have hx4_7 : w12.cell? ⟨bl4, 7, none⟩ = some (.slice mo4 mn4 mc4) := row_cell HX4_w12.out (j := 7) rfl
  have hx4_8 : w12.cell? ⟨bl4, 8, none⟩ = some (.string I4) := row_cell HX4_w12.out (j := 8) rfl
  have hx4_9 : w12.cell? ⟨bl4, 9, none⟩ = some (.string U4) := row_cell HX4_w12.out (j := 9) rfl
  have hx4_10 : w12.cell? ⟨bl4, 10, none⟩ = some (.string Y4) := row_cell HX4_w12.out (j := 10) rfl
  go_wp2_with fail
  refine (hkey_same y y _ _ _ _ w12 HLK.out (HREL3.out.below HB_w6_w12.out) (HREL4.out.below HB_w8_w12.out)).mono ?_; rintro e w14 ⟨rfl, hb⟩
  rw [alike_yes rfl]
  have HB_w_w14 := Lib.hid (below_step HB_w_w12.out (hb))
  have HB_w2_w14 := Lib.hid (below_step HB_w2_w12.out (hb))
  have HB_w4_w14 := Lib.hid (below_step HB_w4_w12.out (hb))
  have HB_w6_w14 := Lib.hid (below_step HB_w6_w12.out (hb))
  have HB_w8_w14 := Lib.hid (below_step HB_w8_w12.out (hb))
  clear hb
  go_wp2_with fail
  go_ret
  exact ⟨rfl, HB_w_w14.out⟩
set_option maxRecDepth 1000000 in
set_option maxHeartbeats 8000000 in
theorem vreads_any (s : ByteArray) (d : Int) (w : World) (hd : -9223372036854775808 ≤ d ∧ d ≤ 9223372036854775807) (hg : Glob w) :
    Calls Tryz.prog 3 #[.string s, .int .i64 d] w fun e w' => e = .returned (.bool true) ∧ Below w.heap.size w w' := by
  by_cases hs : s.size ≤ 4000
  · cases hv : vread 4001 s.data.toList d with
    | error c => cases hk : kread 4001 s.data.toList d with
      | error c2 => exact vreads_walk_ee s d w hs hd hg hv hk
      | ok y => exact vreads_walk_eo s d w hs hd hg hv hk
    | ok x => cases hk : kread 4001 s.data.toList d with
      | error c2 => exact vreads_walk_oe s d w hs hd hg hv hk
      | ok y => exact vreads_walk_oo s d w hs hd hg hv hk
  · have d0 : decide ((4000 : Int) < (s.size : Int)) = true := decide_eq_true (by omega)
    have HG := Lib.hid hg
    clear hs hd hg
    go_enter Tryz.func3, Tryz.ntmps3
    go_wp2_with fail
    refine (first8 w HG.out).mono ?_; rintro e w1 ⟨rfl, hb1⟩
    have HB1 := Lib.hid hb1
    clear hb1
    go_wp2_with fail
    refine (first8 w1 (HG.out.below HB1.out)).mono ?_; rintro e w2 ⟨rfl, hb2⟩
    have HB2 := Lib.hid (below_step HB1.out hb2)
    clear hb2
    go_wp2_with fail
    go_ret
    exact ⟨rfl, HB2.out⟩
end Go.Proofs.YteknippgiljgeaaGreatDoor
