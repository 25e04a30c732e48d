/-
  hyglaw15.SummJoins.
-/
import Derived.Test.YthpngihcjbmmkaaGreatDoorSuFirst
import Derived.Test.YthpngihcjbmmkaaGreatDoorSuSame
namespace Go.Proofs.YthpngihcjbmmkaaGreatDoor
open Go.RowKit

set_option maxRecDepth 1000000 in
set_option maxHeartbeats 16000000 in
theorem sujoin_long1 (s t : ByteArray) (d : Int) (w : World) (HGL : Hid (Glob w)) (h1 : 3000 < s.size) :
 Calls Tryz.prog 11 #[.string s, .string t, .int .i64 d] w fun e w' => e = .returned (.bool true) ∧ Below w.heap.size w w' := by
 have q0 : decide ((3000 : Int) < (s.size : Int)) = true := decide_eq_true (by omega)
 clear h1
 have hb : Below w.heap.size w w := Below.refl _ _
 have H1 := Lib.hid (Fx.nil w)
 have H2 := Lib.hid (H1.out.base (hb))
 clear H1
 clear hb
 go_enter Tryz.func11, Tryz.ntmps11
 go_wp2_with fail
 refine (first15 w (Lib.hid (HGL.out.below (H2.out.is.1)))).mono ?_; rintro e w1 ⟨rfl, hb⟩
 have H3 := Lib.hid (H2.out.below hb)
 clear hb H2
 go_wp2_with fail
 refine (first15 w1 (Lib.hid (HGL.out.below (H3.out.is.1)))).mono ?_; rintro e w2 ⟨rfl, hb⟩
 have H4 := Lib.hid (H3.out.below hb)
 clear hb H3
 go_wp2_with fail
 go_ret
 exact ⟨rfl, H4.out.is.1⟩
set_option maxRecDepth 1000000 in
set_option maxHeartbeats 16000000 in
theorem sujoin_long2 (s t : ByteArray) (d : Int) (w : World) (HGL : Hid (Glob w)) (h1 : ¬ 3000 < s.size) (h2 : 3000 < t.size) :
 Calls Tryz.prog 11 #[.string s, .string t, .int .i64 d] w fun e w' => e = .returned (.bool true) ∧ Below w.heap.size w w' := by
 have q0 : decide ((3000 : Int) < (s.size : Int)) = false := decide_eq_false (by omega)
 have q1 : decide ((3000 : Int) < (t.size : Int)) = true := decide_eq_true (by omega)
 clear h1 h2
 have hb : Below w.heap.size w w := Below.refl _ _
 have H1 := Lib.hid (Fx.nil w)
 have H2 := Lib.hid (H1.out.base (hb))
 clear H1
 clear hb
 go_enter Tryz.func11, Tryz.ntmps11
 go_wp2_with fail
 refine (first15 w (Lib.hid (HGL.out.below (H2.out.is.1)))).mono ?_; rintro e w1 ⟨rfl, hb⟩
 have H3 := Lib.hid (H2.out.below hb)
 clear hb H2
 go_wp2_with fail
 refine (first15 w1 (Lib.hid (HGL.out.below (H3.out.is.1)))).mono ?_; rintro e w2 ⟨rfl, hb⟩
 have H4 := Lib.hid (H3.out.below hb)
 clear hb H3
 go_wp2_with fail
 go_ret
 exact ⟨rfl, H4.out.is.1⟩
set_option maxRecDepth 1000000 in
set_option maxHeartbeats 16000000 in
theorem sujoin_A (s t : ByteArray) (d : Int) (w : World) (HGL : Hid (Glob w)) (hd : -9223372036854775808 ≤ d ∧ d ≤ 9223372036854775807) (hs : s.size ≤ 3000) (ht : t.size ≤ 3000) {c : Nat} (h1 : surd s.data.toList d = .error c) :
 Calls Tryz.prog 11 #[.string s, .string t, .int .i64 d] w fun e w' => e = .returned (.bool true) ∧ Below w.heap.size w w' := by
 have q0 : decide ((3000 : Int) < (s.size : Int)) = false := decide_eq_false (by omega)
 have q1 : decide ((3000 : Int) < (t.size : Int)) = false := decide_eq_false (by omega)
 have q2 : ¬ 9223372036854775807 < s.size + t.size := by omega
 have HS1 := Lib.hid (fun w' => su_un s d w' (by omega) hd)
 have HS2 := Lib.hid (fun w' => su_un t d w' (by omega) hd)
 obtain ⟨ST, hST⟩ : ∃ S, s ++ t = S := ⟨_, rfl⟩
 have hSTL : ST.data.toList = s.data.toList ++ t.data.toList := by rw [← hST]; simp
 have HS3 := Lib.hid (fun w' => su_un ST d w' (by rw [← hST, ByteArray.size_append]; omega) hd)
 have HST := Lib.hid hST
 rw [h1] at HS1
 clear hd hs ht hST hSTL h1
 have hb : Below w.heap.size w w := Below.refl _ _
 have H1 := Lib.hid (Fx.nil w)
 have H2 := Lib.hid (H1.out.base (hb))
 clear H1
 clear hb
 go_enter Tryz.func11, Tryz.ntmps11
 go_wp2_with fail
 refine (first15 w (Lib.hid (HGL.out.below (H2.out.is.1)))).mono ?_; rintro e w1 ⟨rfl, hb⟩
 have H3 := Lib.hid (H2.out.below hb)
 clear hb H2
 go_wp2_with fail
 refine (HS1.out w1).mono ?_; rintro e w2 ⟨hb, v1, q1, rfl, _, hew⟩
 obtain ⟨T1, y1, rfl⟩ := hew.iface
 clear HS1
 unfold suzero
 have H4 := Lib.hid (H3.out.below hb)
 clear hb H3
 clear hew
 go_wp2_with fail
 obtain ⟨blr1, hbl⟩ : ∃ b, w2.heap.size = b := ⟨_, rfl⟩
 obtain ⟨W3, hW⟩ : ∃ W, w2.alloc (.cells #[.slice none 0 0, .int .u64 0, .int .u64 0, .int .u64 0, .int .u64 0, .slice none 0 0, .int .u32 0, .string ⟨#[]⟩] 52) = W := ⟨_, rfl⟩
 have hb : Below w2.heap.size w2 W3 := by rw [← hW]; exact below_new _ _
 have hr : W3.heap[blr1]? = some (.cells #[.slice none 0 0, .int .u64 0, .int .u64 0, .int .u64 0, .int .u64 0, .slice none 0 0, .int .u32 0, .string ⟨#[]⟩] 52 (0, 0)) := by rw [← hW, ← hbl]; exact new_row _ _ _
 rw [hW, hbl]
 clear hW hbl
 have H5 := Lib.hid (H4.out.below hb)
 clear hb H4
 have H6 := Lib.hid (H5.out.row (hr))
 clear H5
 clear hr
 refine (HS2.out W3).mono ?_; intro e w4 hpost
 obtain ⟨hb, lo2, llo2, lc2, ja2, jt2, jk2, jn2, qo2, lqo2, qc2, jf2, Xu2, v2, rfl⟩ := su_form hpost
 clear hpost HS2
 have H7 := Lib.hid (H6.out.below hb)
 clear hb H6
 go_wp2_with fail
 obtain ⟨blr2, hbl⟩ : ∃ b, w4.heap.size = b := ⟨_, rfl⟩
 obtain ⟨W5, hW⟩ : ∃ W, w4.alloc (.cells #[.slice lo2 llo2 lc2, .int .u64 ja2, .int .u64 jt2, .int .u64 jk2, .int .u64 jn2, .slice qo2 lqo2 qc2, .int .u32 jf2, .string Xu2] 52) = W := ⟨_, rfl⟩
 have hb : Below w4.heap.size w4 W5 := by rw [← hW]; exact below_new _ _
 have hr : W5.heap[blr2]? = some (.cells #[.slice lo2 llo2 lc2, .int .u64 ja2, .int .u64 jt2, .int .u64 jk2, .int .u64 jn2, .slice qo2 lqo2 qc2, .int .u32 jf2, .string Xu2] 52 (0, 0)) := by rw [← hW, ← hbl]; exact new_row _ _ _
 rw [hW, hbl]
 clear hW hbl
 have H8 := Lib.hid (H7.out.below hb)
 clear hb H7
 have H9 := Lib.hid (H8.out.row (hr))
 clear H8
 clear hr
 rw [HST.out]
 refine (HS3.out W5).mono ?_; intro e w6 hpost
 obtain ⟨hb, lo3, llo3, lc3, ja3, jt3, jk3, jn3, qo3, lqo3, qc3, jf3, Xu3, v3, rfl⟩ := su_form hpost
 clear hpost HS3
 have H10 := Lib.hid (H9.out.below hb)
 clear hb H9
 go_wp2_with fail
 obtain ⟨blr3, hbl⟩ : ∃ b, w6.heap.size = b := ⟨_, rfl⟩
 obtain ⟨W7, hW⟩ : ∃ W, w6.alloc (.cells #[.slice lo3 llo3 lc3, .int .u64 ja3, .int .u64 jt3, .int .u64 jk3, .int .u64 jn3, .slice qo3 lqo3 qc3, .int .u32 jf3, .string Xu3] 52) = W := ⟨_, rfl⟩
 have hb : Below w6.heap.size w6 W7 := by rw [← hW]; exact below_new _ _
 have hr : W7.heap[blr3]? = some (.cells #[.slice lo3 llo3 lc3, .int .u64 ja3, .int .u64 jt3, .int .u64 jk3, .int .u64 jn3, .slice qo3 lqo3 qc3, .int .u32 jf3, .string Xu3] 52 (0, 0)) := by rw [← hW, ← hbl]; exact new_row _ _ _
 rw [hW, hbl]
 clear hW hbl
 have H11 := Lib.hid (H10.out.below hb)
 clear hb H10
 have H12 := Lib.hid (H11.out.row (hr))
 clear H11
 clear hr
 refine (first15 W7 (Lib.hid (HGL.out.below (H12.out.is.2.2.2.1)))).mono ?_; rintro e w8 ⟨rfl, hb⟩
 have H13 := Lib.hid (H12.out.below hb)
 clear hb H12
 go_wp2_with fail
 go_ret
 exact ⟨rfl, H13.out.is.2.2.2.1⟩
set_option maxRecDepth 1000000 in
set_option maxHeartbeats 16000000 in
theorem sujoin_B (s t : ByteArray) (d : Int) (w : World) (HGL : Hid (Glob w)) (hd : -9223372036854775808 ≤ d ∧ d ≤ 9223372036854775807) (hs : s.size ≤ 3000) (ht : t.size ≤ 3000) {x : Su} {c : Nat} (h1 : surd s.data.toList d = .ok x) (h2 : surd t.data.toList d = .error c) :
 Calls Tryz.prog 11 #[.string s, .string t, .int .i64 d] w fun e w' => e = .returned (.bool true) ∧ Below w.heap.size w w' := by
 have q0 : decide ((3000 : Int) < (s.size : Int)) = false := decide_eq_false (by omega)
 have q1 : decide ((3000 : Int) < (t.size : Int)) = false := decide_eq_false (by omega)
 have q2 : ¬ 9223372036854775807 < s.size + t.size := by omega
 have HS1 := Lib.hid (fun w' => su_un s d w' (by omega) hd)
 have HS2 := Lib.hid (fun w' => su_un t d w' (by omega) hd)
 obtain ⟨ST, hST⟩ : ∃ S, s ++ t = S := ⟨_, rfl⟩
 have hSTL : ST.data.toList = s.data.toList ++ t.data.toList := by rw [← hST]; simp
 have HS3 := Lib.hid (fun w' => su_un ST d w' (by rw [← hST, ByteArray.size_append]; omega) hd)
 have HST := Lib.hid hST
 rw [h1] at HS1
 rw [h2] at HS2
 obtain ⟨⟨a1, ⟨t1, ⟨k1, ⟨n1, ⟨qs1, ⟨l1, f1⟩⟩⟩⟩⟩⟩, u1⟩ := x
 clear hd hs ht hST hSTL h1 h2
 have hb : Below w.heap.size w w := Below.refl _ _
 have H1 := Lib.hid (Fx.nil w)
 have H2 := Lib.hid (H1.out.base (hb))
 clear H1
 clear hb
 go_enter Tryz.func11, Tryz.ntmps11
 go_wp2_with fail
 refine (first15 w (Lib.hid (HGL.out.below (H2.out.is.1)))).mono ?_; rintro e w1 ⟨rfl, hb⟩
 have H3 := Lib.hid (H2.out.below hb)
 clear hb H2
 go_wp2_with fail
 refine (HS1.out w1).mono ?_; rintro e w2 ⟨hb, cs, rfl, lo1, lc1, qo1, qc1, rfl, _, _⟩
 clear HS1
 obtain ⟨Xu1, eu1⟩ : ∃ X : ByteArray, (⟨u1.toArray⟩ : ByteArray) = X := ⟨_, rfl⟩
 have HNu1 := Lib.hid eu1
 clear eu1
 dsimp only [strV]
 rw [HNu1.out]
 have H4 := Lib.hid (H3.out.below hb)
 clear hb H3
 go_wp2_with fail
 obtain ⟨blr1, hbl⟩ : ∃ b, w2.heap.size = b := ⟨_, rfl⟩
 obtain ⟨W3, hW⟩ : ∃ W, w2.alloc (.cells #[.slice lo1 l1.length lc1, .int .u64 (a1 : Int), .int .u64 (t1 : Int), .int .u64 (k1 : Int), .int .u64 (n1 : Int), .slice qo1 qs1.length qc1, .int .u32 (f1 : Int), .string Xu1] 52) = W := ⟨_, rfl⟩
 have hb : Below w2.heap.size w2 W3 := by rw [← hW]; exact below_new _ _
 have hr : W3.heap[blr1]? = some (.cells #[.slice lo1 l1.length lc1, .int .u64 (a1 : Int), .int .u64 (t1 : Int), .int .u64 (k1 : Int), .int .u64 (n1 : Int), .slice qo1 qs1.length qc1, .int .u32 (f1 : Int), .string Xu1] 52 (0, 0)) := by rw [← hW, ← hbl]; exact new_row _ _ _
 rw [hW, hbl]
 clear hW hbl
 have H5 := Lib.hid (H4.out.below hb)
 clear hb H4
 have H6 := Lib.hid (H5.out.row (hr))
 clear H5
 clear hr
 refine (HS2.out W3).mono ?_; rintro e w4 ⟨hb, v2, q2, rfl, _, hew⟩
 obtain ⟨T2, y2, rfl⟩ := hew.iface
 clear HS2
 unfold suzero
 have H7 := Lib.hid (H6.out.below hb)
 clear hb H6
 clear hew
 go_wp2_with fail
 obtain ⟨blr2, hbl⟩ : ∃ b, w4.heap.size = b := ⟨_, rfl⟩
 obtain ⟨W5, hW⟩ : ∃ W, w4.alloc (.cells #[.slice none 0 0, .int .u64 0, .int .u64 0, .int .u64 0, .int .u64 0, .slice none 0 0, .int .u32 0, .string ⟨#[]⟩] 52) = W := ⟨_, rfl⟩
 have hb : Below w4.heap.size w4 W5 := by rw [← hW]; exact below_new _ _
 have hr : W5.heap[blr2]? = some (.cells #[.slice none 0 0, .int .u64 0, .int .u64 0, .int .u64 0, .int .u64 0, .slice none 0 0, .int .u32 0, .string ⟨#[]⟩] 52 (0, 0)) := by rw [← hW, ← hbl]; exact new_row _ _ _
 rw [hW, hbl]
 clear hW hbl
 have H8 := Lib.hid (H7.out.below hb)
 clear hb H7
 have H9 := Lib.hid (H8.out.row (hr))
 clear H8
 clear hr
 rw [HST.out]
 refine (HS3.out W5).mono ?_; intro e w6 hpost
 obtain ⟨hb, lo3, llo3, lc3, ja3, jt3, jk3, jn3, qo3, lqo3, qc3, jf3, Xu3, v3, rfl⟩ := su_form hpost
 clear hpost HS3
 have H10 := Lib.hid (H9.out.below hb)
 clear hb H9
 go_wp2_with fail
 obtain ⟨blr3, hbl⟩ : ∃ b, w6.heap.size = b := ⟨_, rfl⟩
 obtain ⟨W7, hW⟩ : ∃ W, w6.alloc (.cells #[.slice lo3 llo3 lc3, .int .u64 ja3, .int .u64 jt3, .int .u64 jk3, .int .u64 jn3, .slice qo3 lqo3 qc3, .int .u32 jf3, .string Xu3] 52) = W := ⟨_, rfl⟩
 have hb : Below w6.heap.size w6 W7 := by rw [← hW]; exact below_new _ _
 have hr : W7.heap[blr3]? = some (.cells #[.slice lo3 llo3 lc3, .int .u64 ja3, .int .u64 jt3, .int .u64 jk3, .int .u64 jn3, .slice qo3 lqo3 qc3, .int .u32 jf3, .string Xu3] 52 (0, 0)) := by rw [← hW, ← hbl]; exact new_row _ _ _
 rw [hW, hbl]
 clear hW hbl
 have H11 := Lib.hid (H10.out.below hb)
 clear hb H10
 have H12 := Lib.hid (H11.out.row (hr))
 clear H11
 clear hr
 refine (first15 W7 (Lib.hid (HGL.out.below (H12.out.is.2.2.2.1)))).mono ?_; rintro e w8 ⟨rfl, hb⟩
 have H13 := Lib.hid (H12.out.below hb)
 clear hb H12
 go_wp2_with fail
 go_ret
 exact ⟨rfl, H13.out.is.2.2.2.1⟩
set_option maxRecDepth 1000000 in
set_option maxHeartbeats 16000000 in
theorem sujoin_C (s t : ByteArray) (d : Int) (w : World) (HGL : Hid (Glob w)) (hd : -9223372036854775808 ≤ d ∧ d ≤ 9223372036854775807) (hs : s.size ≤ 3000) (ht : t.size ≤ 3000) {x y : Su} (h1 : surd s.data.toList d = .ok x) (h2 : surd t.data.toList d = .ok y) :
 Calls Tryz.prog 11 #[.string s, .string t, .int .i64 d] w fun e w' => e = .returned (.bool true) ∧ Below w.heap.size w w' := by
 have q0 : decide ((3000 : Int) < (s.size : Int)) = false := decide_eq_false (by omega)
 have q1 : decide ((3000 : Int) < (t.size : Int)) = false := decide_eq_false (by omega)
 have q2 : ¬ 9223372036854775807 < s.size + t.size := by omega
 have HS1 := Lib.hid (fun w' => su_un s d w' (by omega) hd)
 have HS2 := Lib.hid (fun w' => su_un t d w' (by omega) hd)
 obtain ⟨ST, hST⟩ : ∃ S, s ++ t = S := ⟨_, rfl⟩
 have hSTL : ST.data.toList = s.data.toList ++ t.data.toList := by rw [← hST]; simp
 have HS3 := Lib.hid (fun w' => su_un ST d w' (by rw [← hST, ByteArray.size_append]; omega) hd)
 have HST := Lib.hid hST
 rw [h1] at HS1
 rw [h2] at HS2
 obtain ⟨⟨a1, ⟨t1, ⟨k1, ⟨n1, ⟨qs1, ⟨l1, f1⟩⟩⟩⟩⟩⟩, u1⟩ := x
 obtain ⟨⟨a2, ⟨t2, ⟨k2, ⟨n2, ⟨qs2, ⟨l2, f2⟩⟩⟩⟩⟩⟩, u2⟩ := y
 obtain ⟨a3, t3, k3, n3, qs3, l3, f3, h3, hjn, hlen_qs, hlen_l⟩ := su_join h1 h2
 rw [hSTL, h3] at HS3
 have hu1 := mread_unk h1
 have hu2 := mread_unk h2
 obtain ⟨_, _, _, _, _, _, _, hwa⟩ := (su_twice (by simp; omega) h1).2
 obtain ⟨_, _, _, _, _, _, _, hwb⟩ := (su_twice (by simp; omega) h2).2
 have hka0 := ksw_len l1
 have hkb0 := ksw_len l2
 have hka1 := qus_len qs1
 have hkb1 := qus_len qs2
 have q3l : IntKind.i64.wrap ((l1.length : Int) + (l2.length : Int)) = (l1.length : Int) + (l2.length : Int) := i64_wrap_id (by omega) (by omega)
 have q4l : ((l3.length : Int) == (l1.length : Int) + (l2.length : Int)) = true := by rw [beq_iff_eq, hlen_l]; omega
 have q3qs : IntKind.i64.wrap ((qs1.length : Int) + (qs2.length : Int)) = (qs1.length : Int) + (qs2.length : Int) := i64_wrap_id (by omega) (by omega)
 have q4qs : ((qs3.length : Int) == (qs1.length : Int) + (qs2.length : Int)) = true := by rw [beq_iff_eq, hlen_qs]; omega
 have hsz1 : s.data.toList.length = s.size := by simp
 have hsz2 : t.data.toList.length = t.size := by simp
 have HLU := Lib.hid (And.intro (show u1.length ≤ 3000 by omega) (show u2.length ≤ 3000 by omega))
 have HJN := Lib.hid hjn
 clear hu1 hu2 hwa hwb hka0 hkb0 hka1 hkb1 hlen_l hlen_qs hsz1 hsz2 h3 hjn
 clear hd hs ht hST hSTL h1 h2
 have hb : Below w.heap.size w w := Below.refl _ _
 have H1 := Lib.hid (Fx.nil w)
 have H2 := Lib.hid (H1.out.base (hb))
 clear H1
 clear hb
 go_enter Tryz.func11, Tryz.ntmps11
 go_wp2_with fail
 refine (first15 w (Lib.hid (HGL.out.below (H2.out.is.1)))).mono ?_; rintro e w1 ⟨rfl, hb⟩
 have H3 := Lib.hid (H2.out.below hb)
 clear hb H2
 go_wp2_with fail
 refine (HS1.out w1).mono ?_; rintro e w2 ⟨hb, cs, rfl, lo1, lc1, qo1, qc1, rfl, _, _⟩
 clear HS1
 obtain ⟨Xu1, eu1⟩ : ∃ X : ByteArray, (⟨u1.toArray⟩ : ByteArray) = X := ⟨_, rfl⟩
 have HNu1 := Lib.hid eu1
 clear eu1
 dsimp only [strV]
 rw [HNu1.out]
 have H4 := Lib.hid (H3.out.below hb)
 clear hb H3
 go_wp2_with fail
 obtain ⟨blr1, hbl⟩ : ∃ b, w2.heap.size = b := ⟨_, rfl⟩
 obtain ⟨W3, hW⟩ : ∃ W, w2.alloc (.cells #[.slice lo1 l1.length lc1, .int .u64 (a1 : Int), .int .u64 (t1 : Int), .int .u64 (k1 : Int), .int .u64 (n1 : Int), .slice qo1 qs1.length qc1, .int .u32 (f1 : Int), .string Xu1] 52) = W := ⟨_, rfl⟩
 have hb : Below w2.heap.size w2 W3 := by rw [← hW]; exact below_new _ _
 have hr : W3.heap[blr1]? = some (.cells #[.slice lo1 l1.length lc1, .int .u64 (a1 : Int), .int .u64 (t1 : Int), .int .u64 (k1 : Int), .int .u64 (n1 : Int), .slice qo1 qs1.length qc1, .int .u32 (f1 : Int), .string Xu1] 52 (0, 0)) := by rw [← hW, ← hbl]; exact new_row _ _ _
 rw [hW, hbl]
 clear hW hbl
 have H5 := Lib.hid (H4.out.below hb)
 clear hb H4
 have H6 := Lib.hid (H5.out.row (hr))
 clear H5
 clear hr
 refine (HS2.out W3).mono ?_; rintro e w4 ⟨hb, cs, rfl, lo2, lc2, qo2, qc2, rfl, _, _⟩
 clear HS2
 obtain ⟨Xu2, eu2⟩ : ∃ X : ByteArray, (⟨u2.toArray⟩ : ByteArray) = X := ⟨_, rfl⟩
 have HNu2 := Lib.hid eu2
 clear eu2
 dsimp only [strV]
 rw [HNu2.out]
 have H7 := Lib.hid (H6.out.below hb)
 clear hb H6
 go_wp2_with fail
 obtain ⟨blr2, hbl⟩ : ∃ b, w4.heap.size = b := ⟨_, rfl⟩
 obtain ⟨W5, hW⟩ : ∃ W, w4.alloc (.cells #[.slice lo2 l2.length lc2, .int .u64 (a2 : Int), .int .u64 (t2 : Int), .int .u64 (k2 : Int), .int .u64 (n2 : Int), .slice qo2 qs2.length qc2, .int .u32 (f2 : Int), .string Xu2] 52) = W := ⟨_, rfl⟩
 have hb : Below w4.heap.size w4 W5 := by rw [← hW]; exact below_new _ _
 have hr : W5.heap[blr2]? = some (.cells #[.slice lo2 l2.length lc2, .int .u64 (a2 : Int), .int .u64 (t2 : Int), .int .u64 (k2 : Int), .int .u64 (n2 : Int), .slice qo2 qs2.length qc2, .int .u32 (f2 : Int), .string Xu2] 52 (0, 0)) := by rw [← hW, ← hbl]; exact new_row _ _ _
 rw [hW, hbl]
 clear hW hbl
 have H8 := Lib.hid (H7.out.below hb)
 clear hb H7
 have H9 := Lib.hid (H8.out.row (hr))
 clear H8
 clear hr
 rw [HST.out]
 refine (HS3.out W5).mono ?_; rintro e w6 ⟨hb, cs, rfl, lo3, lc3, qo3, qc3, rfl, _, _⟩
 clear HS3
 obtain ⟨Xu3, eu3⟩ : ∃ X : ByteArray, (⟨(u1 ++ u2).toArray⟩ : ByteArray) = X := ⟨_, rfl⟩
 have HNu3 := Lib.hid eu3
 clear eu3
 dsimp only [strV]
 rw [HNu3.out]
 have H10 := Lib.hid (H9.out.below hb)
 clear hb H9
 go_wp2_with fail
 obtain ⟨blr3, hbl⟩ : ∃ b, w6.heap.size = b := ⟨_, rfl⟩
 obtain ⟨W7, hW⟩ : ∃ W, w6.alloc (.cells #[.slice lo3 l3.length lc3, .int .u64 (a3 : Int), .int .u64 (t3 : Int), .int .u64 (k3 : Int), .int .u64 (n3 : Int), .slice qo3 qs3.length qc3, .int .u32 (f3 : Int), .string Xu3] 52) = W := ⟨_, rfl⟩
 have hb : Below w6.heap.size w6 W7 := by rw [← hW]; exact below_new _ _
 have hr : W7.heap[blr3]? = some (.cells #[.slice lo3 l3.length lc3, .int .u64 (a3 : Int), .int .u64 (t3 : Int), .int .u64 (k3 : Int), .int .u64 (n3 : Int), .slice qo3 qs3.length qc3, .int .u32 (f3 : Int), .string Xu3] 52 (0, 0)) := by rw [← hW, ← hbl]; exact new_row _ _ _
 rw [hW, hbl]
 clear hW hbl
 have H11 := Lib.hid (H10.out.below hb)
 clear hb H10
 have H12 := Lib.hid (H11.out.row (hr))
 clear H11
 clear hr
 refine (first15 W7 (Lib.hid (HGL.out.below (H12.out.is.2.2.2.1)))).mono ?_; rintro e w8 ⟨rfl, hb⟩
 have H13 := Lib.hid (H12.out.below hb)
 clear hb H12
 obtain rfl : Xu1 ++ Xu2 = Xu3 := by rw [← HNu1.out, ← HNu2.out, ← HNu3.out]; exact ByteArray.ext (Array.ext' (by simp))
 have q5 : ¬ 9223372036854775807 < Xu1.size + Xu2.size := by
  have e1 : Xu1.size = u1.length := by rw [← HNu1.out]; simp [ByteArray.size]
  have e2 : Xu2.size = u2.length := by rw [← HNu2.out]; simp [ByteArray.size]
  have := HLU.out
  omega
 obtain ⟨xa0, xa1, xa2, xa3, xa4, xa5, xa6, xa7⟩ := row8 (H13.out.is.2.2.1)
 obtain ⟨xb0, xb1, xb2, xb3, xb4, xb5, xb6, xb7⟩ := row8 (H13.out.is.2.1)
 obtain ⟨xc0, xc1, xc2, xc3, xc4, xc5, xc6, xc7⟩ := row8 (H13.out.is.1)
 by_cases e1 : n2 = 0
 case pos =>
  have dk1 : ((n2 : Int) == 0) = true := by rw [beq_iff_eq]; omega
  clear e1
  go_wp2_with fail
  all_goals
   go_ret
   exact ⟨rfl, H13.out.is.2.2.2.1⟩
 case neg =>
  have dk1 : ((n2 : Int) == 0) = false := by rw [beq_eq_false_iff_ne]; omega
  have dk2 : ((n3 : Int) == (n2 : Int)) = true := by have := HJN.out; rw [beq_iff_eq]; omega
  clear e1
  go_wp2_with fail
  all_goals
   go_ret
   exact ⟨rfl, H13.out.is.2.2.2.1⟩
set_option maxRecDepth 1000000 in
set_option maxHeartbeats 16000000 in
theorem sujoin_any (s t : ByteArray) (d : Int) (w : World) (HGL : Hid (Glob w)) (hd : -9223372036854775808 ≤ d ∧ d ≤ 9223372036854775807) :
 Calls Tryz.prog 11 #[.string s, .string t, .int .i64 d] w fun e w' => e = .returned (.bool true) ∧ Below w.heap.size w w' := by
 by_cases hs : 3000 < s.size
 · exact sujoin_long1 s t d w HGL hs
 by_cases ht : 3000 < t.size
 · exact sujoin_long2 s t d w HGL hs ht
 cases h1 : surd s.data.toList d with
 | error c => exact sujoin_A s t d w HGL hd (by omega) (by omega) h1
 | ok x => cases h2 : surd t.data.toList d with
  | error c => exact sujoin_B s t d w HGL hd (by omega) (by omega) h1 h2
  | ok y => exact sujoin_C s t d w HGL hd (by omega) (by omega) h1 h2
end Go.Proofs.YthpngihcjbmmkaaGreatDoor
