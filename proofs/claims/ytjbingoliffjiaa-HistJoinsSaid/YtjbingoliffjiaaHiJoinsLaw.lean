/-
  hyglaw13.HistJoins.
-/
import Derived.Test.YtjbingoliffjiaaHiFirst
set_option maxRecDepth 1000000
set_option maxHeartbeats 16000000
namespace Go.Proofs.Ytjbingoliffjiaa
open Go.RowKit
theorem row15 {w : World} {g : Nat} {c0 c1 c2 c3 c4 c5 c6 c7 c8 c9 c10 c11 c12 c13 c14 : Value} {T : TypeId} {fr : Nat × Nat} (h : w.heap[g]? = some (.cells #[c0, c1, c2, c3, c4, c5, c6, c7, c8, c9, c10, c11, c12, c13, c14] T fr)) : w.cell? ⟨g, 0, none⟩ = some c0 ∧ w.cell? ⟨g, 1, none⟩ = some c1 ∧ w.cell? ⟨g, 2, none⟩ = some c2 ∧ w.cell? ⟨g, 3, none⟩ = some c3 ∧ w.cell? ⟨g, 4, none⟩ = some c4 ∧ w.cell? ⟨g, 5, none⟩ = some c5 ∧ w.cell? ⟨g, 6, none⟩ = some c6 ∧ w.cell? ⟨g, 7, none⟩ = some c7 ∧ w.cell? ⟨g, 8, none⟩ = some c8 ∧ w.cell? ⟨g, 9, none⟩ = some c9 ∧ w.cell? ⟨g, 10, none⟩ = some c10 ∧ w.cell? ⟨g, 11, none⟩ = some c11 ∧ w.cell? ⟨g, 12, none⟩ = some c12 ∧ w.cell? ⟨g, 13, none⟩ = some c13 ∧ w.cell? ⟨g, 14, none⟩ = some c14 := ⟨row_cell h (j := 0) rfl, row_cell h (j := 1) rfl, row_cell h (j := 2) rfl, row_cell h (j := 3) rfl, row_cell h (j := 4) rfl, row_cell h (j := 5) rfl, row_cell h (j := 6) rfl, row_cell h (j := 7) rfl, row_cell h (j := 8) rfl, row_cell h (j := 9) rfl, row_cell h (j := 10) rfl, row_cell h (j := 11) rfl, row_cell h (j := 12) rfl, row_cell h (j := 13) rfl, row_cell h (j := 14) rfl⟩
theorem hijoin_long1 (s t : ByteArray) (d : Int) (w : World) (h1 : 3000 < s.size) :
 Calls Try.prog 3 #[.string s, .string t, .int .i64 d] w fun e w' => e = .returned (.bool true) ∧ Below w.heap.size w w' := by
 have q0 : decide ((3000 : Int) < (s.size : Int)) = true := decide_eq_true (by omega)
 clear h1
 have hb : Below w.heap.size w w := Below.refl _ _
 have H1 := Lib.hid (Fx.nil w)
 have H2 := Lib.hid (H1.out.base (hb))
 clear H1
 clear hb
 go_enter Try.func3, Try.ntmps3
 go_wp2_with fail
 refine (first13 w).mono ?_; rintro e w1 ⟨rfl, hb⟩
 have H3 := Lib.hid (H2.out.below hb)
 clear hb H2
 go_wp2_with fail
 refine (first13 w1).mono ?_; rintro e w2 ⟨rfl, hb⟩
 have H4 := Lib.hid (H3.out.below hb)
 clear hb H3
 go_wp2_with fail
 go_ret
 exact ⟨rfl, H4.out.is.1⟩
theorem hijoin_long2 (s t : ByteArray) (d : Int) (w : World) (h1 : ¬ 3000 < s.size) (h2 : 3000 < t.size) :
 Calls Try.prog 3 #[.string s, .string t, .int .i64 d] w fun e w' => e = .returned (.bool true) ∧ Below w.heap.size w w' := by
 have q0 : decide ((3000 : Int) < (s.size : Int)) = false := decide_eq_false (by omega)
 have q1 : decide ((3000 : Int) < (t.size : Int)) = true := decide_eq_true (by omega)
 clear h1 h2
 have hb : Below w.heap.size w w := Below.refl _ _
 have H1 := Lib.hid (Fx.nil w)
 have H2 := Lib.hid (H1.out.base (hb))
 clear H1
 clear hb
 go_enter Try.func3, Try.ntmps3
 go_wp2_with fail
 refine (first13 w).mono ?_; rintro e w1 ⟨rfl, hb⟩
 have H3 := Lib.hid (H2.out.below hb)
 clear hb H2
 go_wp2_with fail
 refine (first13 w1).mono ?_; rintro e w2 ⟨rfl, hb⟩
 have H4 := Lib.hid (H3.out.below hb)
 clear hb H3
 go_wp2_with fail
 go_ret
 exact ⟨rfl, H4.out.is.1⟩
theorem hijoin_A (s t : ByteArray) (d : Int) (w : World) (hd : -9223372036854775808 ≤ d ∧ d ≤ 9223372036854775807) (hs : s.size ≤ 3000) (ht : t.size ≤ 3000) {c : Nat} (h1 : hird s.data.toList d = .error c) :
 Calls Try.prog 3 #[.string s, .string t, .int .i64 d] w fun e w' => e = .returned (.bool true) ∧ Below w.heap.size w w' := by
 have q0 : decide ((3000 : Int) < (s.size : Int)) = false := decide_eq_false (by omega)
 have q1 : decide ((3000 : Int) < (t.size : Int)) = false := decide_eq_false (by omega)
 have q2 : ¬ 9223372036854775807 < s.size + t.size := by omega
 have HS1 := Lib.hid (fun w' => hi_un s d w' (by omega) hd)
 have HS2 := Lib.hid (fun w' => hi_un t d w' (by omega) hd)
 obtain ⟨ST, hST⟩ : ∃ S, s ++ t = S := ⟨_, rfl⟩
 have hSTL : ST.data.toList = s.data.toList ++ t.data.toList := by rw [← hST]; simp
 have HS3 := Lib.hid (fun w' => hi_un ST d w' (by rw [← hST, ByteArray.size_append]; omega) hd)
 have HST := Lib.hid hST
 rw [h1] at HS1
 clear hd hs ht hST hSTL h1
 have hb : Below w.heap.size w w := Below.refl _ _
 have H1 := Lib.hid (Fx.nil w)
 have H2 := Lib.hid (H1.out.base (hb))
 clear H1
 clear hb
 go_enter Try.func3, Try.ntmps3
 go_wp2_with fail
 refine (first13 w).mono ?_; rintro e w1 ⟨rfl, hb⟩
 have H3 := Lib.hid (H2.out.below hb)
 clear hb H2
 go_wp2_with fail
 refine (HS1.out w1).mono ?_; rintro e w2 ⟨hb, v1, q1, rfl, _, hew⟩
 obtain ⟨T1, y1, rfl⟩ := hew.iface
 clear HS1
 unfold hizero
 have H4 := Lib.hid (H3.out.below hb)
 clear hb H3
 clear hew
 go_wp2_with fail
 obtain ⟨blr1, hbl⟩ : ∃ b, w2.heap.size = b := ⟨_, rfl⟩
 obtain ⟨W3, hW⟩ : ∃ W, w2.alloc (.cells #[.slice none 0 0, .int .u64 0, .int .u64 0, .int .u64 0, .bool false, .int .u64 0, .bool false, .int .u64 0, .bool false, .int .u64 0, .slice none 0 0, .slice none 0 0, .slice none 0 0, .int .u32 0, .string ⟨#[]⟩] 31) = W := ⟨_, rfl⟩
 have hb : Below w2.heap.size w2 W3 := by rw [← hW]; exact below_new _ _
 have hr : W3.heap[blr1]? = some (.cells #[.slice none 0 0, .int .u64 0, .int .u64 0, .int .u64 0, .bool false, .int .u64 0, .bool false, .int .u64 0, .bool false, .int .u64 0, .slice none 0 0, .slice none 0 0, .slice none 0 0, .int .u32 0, .string ⟨#[]⟩] 31 (0, 0)) := by rw [← hW, ← hbl]; exact new_row _ _ _
 rw [hW, hbl]
 clear hW hbl
 have H5 := Lib.hid (H4.out.below hb)
 clear hb H4
 have H6 := Lib.hid (H5.out.row (hr))
 clear H5
 clear hr
 refine (HS2.out W3).mono ?_; intro e w4 hpost
 obtain ⟨hb, lo2, llo2, lc2, ja2, jt2, jk2, jph2, jpn2, jmh2, jmn2, jgh2, jgn2, nco2, lnco2, ncc2, nbo2, lnbo2, nbc2, eo2, leo2, ec2, jf2, Xu2, v2, rfl⟩ := hi_form hpost
 clear hpost HS2
 have H7 := Lib.hid (H6.out.below hb)
 clear hb H6
 go_wp2_with fail
 obtain ⟨blr2, hbl⟩ : ∃ b, w4.heap.size = b := ⟨_, rfl⟩
 obtain ⟨W5, hW⟩ : ∃ W, w4.alloc (.cells #[.slice lo2 llo2 lc2, .int .u64 ja2, .int .u64 jt2, .int .u64 jk2, .bool jph2, .int .u64 jpn2, .bool jmh2, .int .u64 jmn2, .bool jgh2, .int .u64 jgn2, .slice nco2 lnco2 ncc2, .slice nbo2 lnbo2 nbc2, .slice eo2 leo2 ec2, .int .u32 jf2, .string Xu2] 31) = W := ⟨_, rfl⟩
 have hb : Below w4.heap.size w4 W5 := by rw [← hW]; exact below_new _ _
 have hr : W5.heap[blr2]? = some (.cells #[.slice lo2 llo2 lc2, .int .u64 ja2, .int .u64 jt2, .int .u64 jk2, .bool jph2, .int .u64 jpn2, .bool jmh2, .int .u64 jmn2, .bool jgh2, .int .u64 jgn2, .slice nco2 lnco2 ncc2, .slice nbo2 lnbo2 nbc2, .slice eo2 leo2 ec2, .int .u32 jf2, .string Xu2] 31 (0, 0)) := by rw [← hW, ← hbl]; exact new_row _ _ _
 rw [hW, hbl]
 clear hW hbl
 have H8 := Lib.hid (H7.out.below hb)
 clear hb H7
 have H9 := Lib.hid (H8.out.row (hr))
 clear H8
 clear hr
 rw [HST.out]
 refine (HS3.out W5).mono ?_; intro e w6 hpost
 obtain ⟨hb, lo3, llo3, lc3, ja3, jt3, jk3, jph3, jpn3, jmh3, jmn3, jgh3, jgn3, nco3, lnco3, ncc3, nbo3, lnbo3, nbc3, eo3, leo3, ec3, jf3, Xu3, v3, rfl⟩ := hi_form hpost
 clear hpost HS3
 have H10 := Lib.hid (H9.out.below hb)
 clear hb H9
 go_wp2_with fail
 obtain ⟨blr3, hbl⟩ : ∃ b, w6.heap.size = b := ⟨_, rfl⟩
 obtain ⟨W7, hW⟩ : ∃ W, w6.alloc (.cells #[.slice lo3 llo3 lc3, .int .u64 ja3, .int .u64 jt3, .int .u64 jk3, .bool jph3, .int .u64 jpn3, .bool jmh3, .int .u64 jmn3, .bool jgh3, .int .u64 jgn3, .slice nco3 lnco3 ncc3, .slice nbo3 lnbo3 nbc3, .slice eo3 leo3 ec3, .int .u32 jf3, .string Xu3] 31) = W := ⟨_, rfl⟩
 have hb : Below w6.heap.size w6 W7 := by rw [← hW]; exact below_new _ _
 have hr : W7.heap[blr3]? = some (.cells #[.slice lo3 llo3 lc3, .int .u64 ja3, .int .u64 jt3, .int .u64 jk3, .bool jph3, .int .u64 jpn3, .bool jmh3, .int .u64 jmn3, .bool jgh3, .int .u64 jgn3, .slice nco3 lnco3 ncc3, .slice nbo3 lnbo3 nbc3, .slice eo3 leo3 ec3, .int .u32 jf3, .string Xu3] 31 (0, 0)) := by rw [← hW, ← hbl]; exact new_row _ _ _
 rw [hW, hbl]
 clear hW hbl
 have H11 := Lib.hid (H10.out.below hb)
 clear hb H10
 have H12 := Lib.hid (H11.out.row (hr))
 clear H11
 clear hr
 refine (first13 W7).mono ?_; rintro e w8 ⟨rfl, hb⟩
 have H13 := Lib.hid (H12.out.below hb)
 clear hb H12
 go_wp2_with fail
 go_ret
 exact ⟨rfl, H13.out.is.2.2.2.1⟩
theorem hijoin_B (s t : ByteArray) (d : Int) (w : World) (hd : -9223372036854775808 ≤ d ∧ d ≤ 9223372036854775807) (hs : s.size ≤ 3000) (ht : t.size ≤ 3000) {x : Hi} {c : Nat} (h1 : hird s.data.toList d = .ok x) (h2 : hird t.data.toList d = .error c) :
 Calls Try.prog 3 #[.string s, .string t, .int .i64 d] w fun e w' => e = .returned (.bool true) ∧ Below w.heap.size w w' := by
 have q0 : decide ((3000 : Int) < (s.size : Int)) = false := decide_eq_false (by omega)
 have q1 : decide ((3000 : Int) < (t.size : Int)) = false := decide_eq_false (by omega)
 have q2 : ¬ 9223372036854775807 < s.size + t.size := by omega
 have HS1 := Lib.hid (fun w' => hi_un s d w' (by omega) hd)
 have HS2 := Lib.hid (fun w' => hi_un t d w' (by omega) hd)
 obtain ⟨ST, hST⟩ : ∃ S, s ++ t = S := ⟨_, rfl⟩
 have hSTL : ST.data.toList = s.data.toList ++ t.data.toList := by rw [← hST]; simp
 have HS3 := Lib.hid (fun w' => hi_un ST d w' (by rw [← hST, ByteArray.size_append]; omega) hd)
 have HST := Lib.hid hST
 rw [h1] at HS1
 rw [h2] at HS2
 obtain ⟨⟨a1, ⟨t1, ⟨k1, ⟨⟨ph1, pn1⟩, ⟨nc1, ⟨nb1, ⟨es1, ⟨l1, ⟨f1, ⟨⟨mh1, mn1⟩, ⟨gh1, gn1⟩⟩⟩⟩⟩⟩⟩⟩⟩⟩⟩, u1⟩ := x
 clear hd hs ht hST hSTL h1 h2
 have hb : Below w.heap.size w w := Below.refl _ _
 have H1 := Lib.hid (Fx.nil w)
 have H2 := Lib.hid (H1.out.base (hb))
 clear H1
 clear hb
 go_enter Try.func3, Try.ntmps3
 go_wp2_with fail
 refine (first13 w).mono ?_; rintro e w1 ⟨rfl, hb⟩
 have H3 := Lib.hid (H2.out.below hb)
 clear hb H2
 go_wp2_with fail
 refine (HS1.out w1).mono ?_; rintro e w2 ⟨hb, cs, rfl, lo1, lc1, nco1, ncc1, nbo1, nbc1, eo1, ec1, rfl, _, _, _, _⟩
 clear HS1
 obtain ⟨Xu1, eu1⟩ : ∃ X : ByteArray, (⟨u1.toArray⟩ : ByteArray) = X := ⟨_, rfl⟩
 have HNu1 := Lib.hid eu1
 clear eu1
 dsimp only [strV]
 rw [HNu1.out]
 have H4 := Lib.hid (H3.out.below hb)
 clear hb H3
 go_wp2_with fail
 obtain ⟨blr1, hbl⟩ : ∃ b, w2.heap.size = b := ⟨_, rfl⟩
 obtain ⟨W3, hW⟩ : ∃ W, w2.alloc (.cells #[.slice lo1 l1.length lc1, .int .u64 (a1 : Int), .int .u64 (t1 : Int), .int .u64 (k1 : Int), .bool ph1, .int .u64 (pn1 : Int), .bool mh1, .int .u64 (mn1 : Int), .bool gh1, .int .u64 (gn1 : Int), .slice nco1 nc1.length ncc1, .slice nbo1 nb1.length nbc1, .slice eo1 es1.length ec1, .int .u32 (f1 : Int), .string Xu1] 31) = W := ⟨_, rfl⟩
 have hb : Below w2.heap.size w2 W3 := by rw [← hW]; exact below_new _ _
 have hr : W3.heap[blr1]? = some (.cells #[.slice lo1 l1.length lc1, .int .u64 (a1 : Int), .int .u64 (t1 : Int), .int .u64 (k1 : Int), .bool ph1, .int .u64 (pn1 : Int), .bool mh1, .int .u64 (mn1 : Int), .bool gh1, .int .u64 (gn1 : Int), .slice nco1 nc1.length ncc1, .slice nbo1 nb1.length nbc1, .slice eo1 es1.length ec1, .int .u32 (f1 : Int), .string Xu1] 31 (0, 0)) := by rw [← hW, ← hbl]; exact new_row _ _ _
 rw [hW, hbl]
 clear hW hbl
 have H5 := Lib.hid (H4.out.below hb)
 clear hb H4
 have H6 := Lib.hid (H5.out.row (hr))
 clear H5
 clear hr
 refine (HS2.out W3).mono ?_; rintro e w4 ⟨hb, v2, q2, rfl, _, hew⟩
 obtain ⟨T2, y2, rfl⟩ := hew.iface
 clear HS2
 unfold hizero
 have H7 := Lib.hid (H6.out.below hb)
 clear hb H6
 clear hew
 go_wp2_with fail
 obtain ⟨blr2, hbl⟩ : ∃ b, w4.heap.size = b := ⟨_, rfl⟩
 obtain ⟨W5, hW⟩ : ∃ W, w4.alloc (.cells #[.slice none 0 0, .int .u64 0, .int .u64 0, .int .u64 0, .bool false, .int .u64 0, .bool false, .int .u64 0, .bool false, .int .u64 0, .slice none 0 0, .slice none 0 0, .slice none 0 0, .int .u32 0, .string ⟨#[]⟩] 31) = W := ⟨_, rfl⟩
 have hb : Below w4.heap.size w4 W5 := by rw [← hW]; exact below_new _ _
 have hr : W5.heap[blr2]? = some (.cells #[.slice none 0 0, .int .u64 0, .int .u64 0, .int .u64 0, .bool false, .int .u64 0, .bool false, .int .u64 0, .bool false, .int .u64 0, .slice none 0 0, .slice none 0 0, .slice none 0 0, .int .u32 0, .string ⟨#[]⟩] 31 (0, 0)) := by rw [← hW, ← hbl]; exact new_row _ _ _
 rw [hW, hbl]
 clear hW hbl
 have H8 := Lib.hid (H7.out.below hb)
 clear hb H7
 have H9 := Lib.hid (H8.out.row (hr))
 clear H8
 clear hr
 rw [HST.out]
 refine (HS3.out W5).mono ?_; intro e w6 hpost
 obtain ⟨hb, lo3, llo3, lc3, ja3, jt3, jk3, jph3, jpn3, jmh3, jmn3, jgh3, jgn3, nco3, lnco3, ncc3, nbo3, lnbo3, nbc3, eo3, leo3, ec3, jf3, Xu3, v3, rfl⟩ := hi_form hpost
 clear hpost HS3
 have H10 := Lib.hid (H9.out.below hb)
 clear hb H9
 go_wp2_with fail
 obtain ⟨blr3, hbl⟩ : ∃ b, w6.heap.size = b := ⟨_, rfl⟩
 obtain ⟨W7, hW⟩ : ∃ W, w6.alloc (.cells #[.slice lo3 llo3 lc3, .int .u64 ja3, .int .u64 jt3, .int .u64 jk3, .bool jph3, .int .u64 jpn3, .bool jmh3, .int .u64 jmn3, .bool jgh3, .int .u64 jgn3, .slice nco3 lnco3 ncc3, .slice nbo3 lnbo3 nbc3, .slice eo3 leo3 ec3, .int .u32 jf3, .string Xu3] 31) = W := ⟨_, rfl⟩
 have hb : Below w6.heap.size w6 W7 := by rw [← hW]; exact below_new _ _
 have hr : W7.heap[blr3]? = some (.cells #[.slice lo3 llo3 lc3, .int .u64 ja3, .int .u64 jt3, .int .u64 jk3, .bool jph3, .int .u64 jpn3, .bool jmh3, .int .u64 jmn3, .bool jgh3, .int .u64 jgn3, .slice nco3 lnco3 ncc3, .slice nbo3 lnbo3 nbc3, .slice eo3 leo3 ec3, .int .u32 jf3, .string Xu3] 31 (0, 0)) := by rw [← hW, ← hbl]; exact new_row _ _ _
 rw [hW, hbl]
 clear hW hbl
 have H11 := Lib.hid (H10.out.below hb)
 clear hb H10
 have H12 := Lib.hid (H11.out.row (hr))
 clear H11
 clear hr
 refine (first13 W7).mono ?_; rintro e w8 ⟨rfl, hb⟩
 have H13 := Lib.hid (H12.out.below hb)
 clear hb H12
 go_wp2_with fail
 go_ret
 exact ⟨rfl, H13.out.is.2.2.2.1⟩
theorem hijoin_C (s t : ByteArray) (d : Int) (w : World) (hd : -9223372036854775808 ≤ d ∧ d ≤ 9223372036854775807) (hs : s.size ≤ 3000) (ht : t.size ≤ 3000) {x y : Hi} (h1 : hird s.data.toList d = .ok x) (h2 : hird t.data.toList d = .ok y) :
 Calls Try.prog 3 #[.string s, .string t, .int .i64 d] w fun e w' => e = .returned (.bool true) ∧ Below w.heap.size w w' := by
 have q0 : decide ((3000 : Int) < (s.size : Int)) = false := decide_eq_false (by omega)
 have q1 : decide ((3000 : Int) < (t.size : Int)) = false := decide_eq_false (by omega)
 have q2 : ¬ 9223372036854775807 < s.size + t.size := by omega
 have HS1 := Lib.hid (fun w' => hi_un s d w' (by omega) hd)
 have HS2 := Lib.hid (fun w' => hi_un t d w' (by omega) hd)
 obtain ⟨ST, hST⟩ : ∃ S, s ++ t = S := ⟨_, rfl⟩
 have hSTL : ST.data.toList = s.data.toList ++ t.data.toList := by rw [← hST]; simp
 have HS3 := Lib.hid (fun w' => hi_un ST d w' (by rw [← hST, ByteArray.size_append]; omega) hd)
 have HST := Lib.hid hST
 rw [h1] at HS1
 rw [h2] at HS2
 obtain ⟨⟨a1, ⟨t1, ⟨k1, ⟨⟨ph1, pn1⟩, ⟨nc1, ⟨nb1, ⟨es1, ⟨l1, ⟨f1, ⟨⟨mh1, mn1⟩, ⟨gh1, gn1⟩⟩⟩⟩⟩⟩⟩⟩⟩⟩⟩, u1⟩ := x
 obtain ⟨⟨a2, ⟨t2, ⟨k2, ⟨⟨ph2, pn2⟩, ⟨nc2, ⟨nb2, ⟨es2, ⟨l2, ⟨f2, ⟨⟨mh2, mn2⟩, ⟨gh2, gn2⟩⟩⟩⟩⟩⟩⟩⟩⟩⟩⟩, u2⟩ := y
 obtain ⟨a3, t3, k3, ph3, pn3, nc3, nb3, es3, l3, f3, mh3, mn3, gh3, gn3, h3, hopt, hlen_nc, hlen_nb, hlen_es, hlen_l⟩ := hi_join h1 h2
 rw [hSTL, h3] at HS3
 have hu1 := mread_unk h1
 have hu2 := mread_unk h2
 obtain ⟨_, _, _, _, _, _, _, _, _, _, _, hwa⟩ := (hi_twice (by simp; omega) h1).2
 obtain ⟨_, _, _, _, _, _, _, _, _, _, _, hwb⟩ := (hi_twice (by simp; omega) h2).2
 have hka0 := ksw_len l1
 have hkb0 := ksw_len l2
 have hka3 := exs_len es1
 have hkb3 := exs_len es2
 have q3l : IntKind.i64.wrap ((l1.length : Int) + (l2.length : Int)) = (l1.length : Int) + (l2.length : Int) := i64_wrap_id (by omega) (by omega)
 have q4l : ((l3.length : Int) == (l1.length : Int) + (l2.length : Int)) = true := by rw [beq_iff_eq, hlen_l]; omega
 have q3nc : IntKind.i64.wrap ((nc1.length : Int) + (nc2.length : Int)) = (nc1.length : Int) + (nc2.length : Int) := i64_wrap_id (by omega) (by omega)
 have q4nc : ((nc3.length : Int) == (nc1.length : Int) + (nc2.length : Int)) = true := by rw [beq_iff_eq, hlen_nc]; omega
 have q3nb : IntKind.i64.wrap ((nb1.length : Int) + (nb2.length : Int)) = (nb1.length : Int) + (nb2.length : Int) := i64_wrap_id (by omega) (by omega)
 have q4nb : ((nb3.length : Int) == (nb1.length : Int) + (nb2.length : Int)) = true := by rw [beq_iff_eq, hlen_nb]; omega
 have q3es : IntKind.i64.wrap ((es1.length : Int) + (es2.length : Int)) = (es1.length : Int) + (es2.length : Int) := i64_wrap_id (by omega) (by omega)
 have q4es : ((es3.length : Int) == (es1.length : Int) + (es2.length : Int)) = true := by rw [beq_iff_eq, hlen_es]; omega
 have hsz1 : s.data.toList.length = s.size := by simp
 have hsz2 : t.data.toList.length = t.size := by simp
 have HLU := Lib.hid (And.intro (show u1.length ≤ 3000 by omega) (show u2.length ≤ 3000 by omega))
 have HOPT := Lib.hid hopt
 clear hu1 hu2 hwa hwb hka0 hkb0 hka3 hkb3 hlen_l hlen_nc hlen_nb hlen_es hsz1 hsz2 h3 hopt
 clear hd hs ht hST hSTL h1 h2
 have hb : Below w.heap.size w w := Below.refl _ _
 have H1 := Lib.hid (Fx.nil w)
 have H2 := Lib.hid (H1.out.base (hb))
 clear H1
 clear hb
 go_enter Try.func3, Try.ntmps3
 go_wp2_with fail
 refine (first13 w).mono ?_; rintro e w1 ⟨rfl, hb⟩
 have H3 := Lib.hid (H2.out.below hb)
 clear hb H2
 go_wp2_with fail
 refine (HS1.out w1).mono ?_; rintro e w2 ⟨hb, cs, rfl, lo1, lc1, nco1, ncc1, nbo1, nbc1, eo1, ec1, rfl, _, _, _, _⟩
 clear HS1
 obtain ⟨Xu1, eu1⟩ : ∃ X : ByteArray, (⟨u1.toArray⟩ : ByteArray) = X := ⟨_, rfl⟩
 have HNu1 := Lib.hid eu1
 clear eu1
 dsimp only [strV]
 rw [HNu1.out]
 have H4 := Lib.hid (H3.out.below hb)
 clear hb H3
 go_wp2_with fail
 obtain ⟨blr1, hbl⟩ : ∃ b, w2.heap.size = b := ⟨_, rfl⟩
 obtain ⟨W3, hW⟩ : ∃ W, w2.alloc (.cells #[.slice lo1 l1.length lc1, .int .u64 (a1 : Int), .int .u64 (t1 : Int), .int .u64 (k1 : Int), .bool ph1, .int .u64 (pn1 : Int), .bool mh1, .int .u64 (mn1 : Int), .bool gh1, .int .u64 (gn1 : Int), .slice nco1 nc1.length ncc1, .slice nbo1 nb1.length nbc1, .slice eo1 es1.length ec1, .int .u32 (f1 : Int), .string Xu1] 31) = W := ⟨_, rfl⟩
 have hb : Below w2.heap.size w2 W3 := by rw [← hW]; exact below_new _ _
 have hr : W3.heap[blr1]? = some (.cells #[.slice lo1 l1.length lc1, .int .u64 (a1 : Int), .int .u64 (t1 : Int), .int .u64 (k1 : Int), .bool ph1, .int .u64 (pn1 : Int), .bool mh1, .int .u64 (mn1 : Int), .bool gh1, .int .u64 (gn1 : Int), .slice nco1 nc1.length ncc1, .slice nbo1 nb1.length nbc1, .slice eo1 es1.length ec1, .int .u32 (f1 : Int), .string Xu1] 31 (0, 0)) := by rw [← hW, ← hbl]; exact new_row _ _ _
 rw [hW, hbl]
 clear hW hbl
 have H5 := Lib.hid (H4.out.below hb)
 clear hb H4
 have H6 := Lib.hid (H5.out.row (hr))
 clear H5
 clear hr
 refine (HS2.out W3).mono ?_; rintro e w4 ⟨hb, cs, rfl, lo2, lc2, nco2, ncc2, nbo2, nbc2, eo2, ec2, rfl, _, _, _, _⟩
 clear HS2
 obtain ⟨Xu2, eu2⟩ : ∃ X : ByteArray, (⟨u2.toArray⟩ : ByteArray) = X := ⟨_, rfl⟩
 have HNu2 := Lib.hid eu2
 clear eu2
 dsimp only [strV]
 rw [HNu2.out]
 have H7 := Lib.hid (H6.out.below hb)
 clear hb H6
 go_wp2_with fail
 obtain ⟨blr2, hbl⟩ : ∃ b, w4.heap.size = b := ⟨_, rfl⟩
 obtain ⟨W5, hW⟩ : ∃ W, w4.alloc (.cells #[.slice lo2 l2.length lc2, .int .u64 (a2 : Int), .int .u64 (t2 : Int), .int .u64 (k2 : Int), .bool ph2, .int .u64 (pn2 : Int), .bool mh2, .int .u64 (mn2 : Int), .bool gh2, .int .u64 (gn2 : Int), .slice nco2 nc2.length ncc2, .slice nbo2 nb2.length nbc2, .slice eo2 es2.length ec2, .int .u32 (f2 : Int), .string Xu2] 31) = W := ⟨_, rfl⟩
 have hb : Below w4.heap.size w4 W5 := by rw [← hW]; exact below_new _ _
 have hr : W5.heap[blr2]? = some (.cells #[.slice lo2 l2.length lc2, .int .u64 (a2 : Int), .int .u64 (t2 : Int), .int .u64 (k2 : Int), .bool ph2, .int .u64 (pn2 : Int), .bool mh2, .int .u64 (mn2 : Int), .bool gh2, .int .u64 (gn2 : Int), .slice nco2 nc2.length ncc2, .slice nbo2 nb2.length nbc2, .slice eo2 es2.length ec2, .int .u32 (f2 : Int), .string Xu2] 31 (0, 0)) := by rw [← hW, ← hbl]; exact new_row _ _ _
 rw [hW, hbl]
 clear hW hbl
 have H8 := Lib.hid (H7.out.below hb)
 clear hb H7
 have H9 := Lib.hid (H8.out.row (hr))
 clear H8
 clear hr
 rw [HST.out]
 refine (HS3.out W5).mono ?_; rintro e w6 ⟨hb, cs, rfl, lo3, lc3, nco3, ncc3, nbo3, nbc3, eo3, ec3, rfl, _, _, _, _⟩
 clear HS3
 obtain ⟨Xu3, eu3⟩ : ∃ X : ByteArray, (⟨(u1 ++ u2).toArray⟩ : ByteArray) = X := ⟨_, rfl⟩
 have HNu3 := Lib.hid eu3
 clear eu3
 dsimp only [strV]
 rw [HNu3.out]
 have H10 := Lib.hid (H9.out.below hb)
 clear hb H9
 go_wp2_with fail
 obtain ⟨blr3, hbl⟩ : ∃ b, w6.heap.size = b := ⟨_, rfl⟩
 obtain ⟨W7, hW⟩ : ∃ W, w6.alloc (.cells #[.slice lo3 l3.length lc3, .int .u64 (a3 : Int), .int .u64 (t3 : Int), .int .u64 (k3 : Int), .bool ph3, .int .u64 (pn3 : Int), .bool mh3, .int .u64 (mn3 : Int), .bool gh3, .int .u64 (gn3 : Int), .slice nco3 nc3.length ncc3, .slice nbo3 nb3.length nbc3, .slice eo3 es3.length ec3, .int .u32 (f3 : Int), .string Xu3] 31) = W := ⟨_, rfl⟩
 have hb : Below w6.heap.size w6 W7 := by rw [← hW]; exact below_new _ _
 have hr : W7.heap[blr3]? = some (.cells #[.slice lo3 l3.length lc3, .int .u64 (a3 : Int), .int .u64 (t3 : Int), .int .u64 (k3 : Int), .bool ph3, .int .u64 (pn3 : Int), .bool mh3, .int .u64 (mn3 : Int), .bool gh3, .int .u64 (gn3 : Int), .slice nco3 nc3.length ncc3, .slice nbo3 nb3.length nbc3, .slice eo3 es3.length ec3, .int .u32 (f3 : Int), .string Xu3] 31 (0, 0)) := by rw [← hW, ← hbl]; exact new_row _ _ _
 rw [hW, hbl]
 clear hW hbl
 have H11 := Lib.hid (H10.out.below hb)
 clear hb H10
 have H12 := Lib.hid (H11.out.row (hr))
 clear H11
 clear hr
 refine (first13 W7).mono ?_; rintro e w8 ⟨rfl, hb⟩
 have H13 := Lib.hid (H12.out.below hb)
 clear hb H12
 obtain rfl : Xu1 ++ Xu2 = Xu3 := by rw [← HNu1.out, ← HNu2.out, ← HNu3.out]; exact ByteArray.ext (Array.ext' (by simp))
 have q5 : ¬ 9223372036854775807 < Xu1.size + Xu2.size := by
  have e1 : Xu1.size = u1.length := by rw [← HNu1.out]; simp [ByteArray.size]
  have e2 : Xu2.size = u2.length := by rw [← HNu2.out]; simp [ByteArray.size]
  have := HLU.out
  omega
 obtain ⟨xa0, xa1, xa2, xa3, xa4, xa5, xa6, xa7, xa8, xa9, xa10, xa11, xa12, xa13, xa14⟩ := row15 (H13.out.is.2.2.1)
 obtain ⟨xb0, xb1, xb2, xb3, xb4, xb5, xb6, xb7, xb8, xb9, xb10, xb11, xb12, xb13, xb14⟩ := row15 (H13.out.is.2.1)
 obtain ⟨xc0, xc1, xc2, xc3, xc4, xc5, xc6, xc7, xc8, xc9, xc10, xc11, xc12, xc13, xc14⟩ := row15 (H13.out.is.1)
 rcases HOPT.out with ⟨rfl, rfl⟩ | ⟨rfl, rfl, rfl⟩
 case' inl => cases ph3
 case' inr => cases ph1
 all_goals
  go_wp2_with fail
  go_ret
  exact ⟨rfl, H13.out.is.2.2.2.1⟩
theorem hijoin_any (s t : ByteArray) (d : Int) (w : World) (hd : -9223372036854775808 ≤ d ∧ d ≤ 9223372036854775807) :
 Calls Try.prog 3 #[.string s, .string t, .int .i64 d] w fun e w' => e = .returned (.bool true) ∧ Below w.heap.size w w' := by
 by_cases hs : 3000 < s.size
 · exact hijoin_long1 s t d w hs
 by_cases ht : 3000 < t.size
 · exact hijoin_long2 s t d w hs ht
 cases h1 : hird s.data.toList d with
 | error c => exact hijoin_A s t d w hd (by omega) (by omega) h1
 | ok x => cases h2 : hird t.data.toList d with
  | error c => exact hijoin_B s t d w hd (by omega) (by omega) h1 h2
  | ok y => exact hijoin_C s t d w hd (by omega) (by omega) h1 h2
end Go.Proofs.Ytjbingoliffjiaa
