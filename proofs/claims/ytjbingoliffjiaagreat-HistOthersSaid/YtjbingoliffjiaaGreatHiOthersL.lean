/-
  hyglaw13.HistOthers.
-/
import Derived.Test.YtjbingoliffjiaaGreatHiFirst
import Derived.Test.YtjbingoliffjiaaGreatHiSame
set_option maxRecDepth 1000000
set_option maxHeartbeats 16000000
namespace Go.Proofs.YtjbingoliffjiaaGreat
open Go.RowKit
theorem hioth_L1 (s : ByteArray) (d : Int) (w : World) (kn v : Int) (h1 : 6000 < s.size) :
 Calls Tryz.prog 6 #[.string s, .int .i64 d, .int .i64 kn, .int .u64 v] w fun e w' => e = .returned (.bool true) ∧ Below w.heap.size w w' := by
 have q0 : decide ((s.size : Int) > 6000) = true := decide_eq_true (by omega)
 clear h1
 have hb : Below w.heap.size w w := Below.refl _ _
 have H1 := Lib.hid (Fx.nil w)
 have H2 := Lib.hid (H1.out.base (hb))
 clear H1
 clear hb
 go_enter Tryz.func6, Tryz.ntmps6
 go_wp2_with fail
 refine (first13 w).mono ?_; rintro e w1 ⟨rfl, hb⟩
 have H3 := Lib.hid (H2.out.below hb)
 clear hb H2
 go_wp2_with fail
 refine (first13 w1).mono ?_; rintro e w2 ⟨rfl, hb⟩
 have H4 := Lib.hid (H3.out.below hb)
 clear hb H3
 go_wp2_with fail
 go_ret
 exact ⟨rfl, H4.out.is.1⟩
theorem hioth_L2 (s : ByteArray) (d : Int) (w : World) (kn v : Int) (h1 : ¬ 6000 < s.size) (h2 : kn < 1) :
 Calls Tryz.prog 6 #[.string s, .int .i64 d, .int .i64 kn, .int .u64 v] w fun e w' => e = .returned (.bool true) ∧ Below w.heap.size w w' := by
 have q0 : decide ((s.size : Int) > 6000) = false := decide_eq_false (by omega)
 have q1 : decide (kn < 1) = true := decide_eq_true h2
 clear h1 h2
 have hb : Below w.heap.size w w := Below.refl _ _
 have H1 := Lib.hid (Fx.nil w)
 have H2 := Lib.hid (H1.out.base (hb))
 clear H1
 clear hb
 go_enter Tryz.func6, Tryz.ntmps6
 go_wp2_with fail
 refine (first13 w).mono ?_; rintro e w1 ⟨rfl, hb⟩
 have H3 := Lib.hid (H2.out.below hb)
 clear hb H2
 go_wp2_with fail
 refine (first13 w1).mono ?_; rintro e w2 ⟨rfl, hb⟩
 have H4 := Lib.hid (H3.out.below hb)
 clear hb H3
 go_wp2_with fail
 go_ret
 exact ⟨rfl, H4.out.is.1⟩
theorem hioth_L3 (s : ByteArray) (d : Int) (w : World) (kn v : Int) (h1 : ¬ 6000 < s.size) (h2 : ¬ kn < 1) (h3 : 536870912 ≤ kn) :
 Calls Tryz.prog 6 #[.string s, .int .i64 d, .int .i64 kn, .int .u64 v] w fun e w' => e = .returned (.bool true) ∧ Below w.heap.size w w' := by
 have q0 : decide ((s.size : Int) > 6000) = false := decide_eq_false (by omega)
 have q1 : decide (kn < 1) = false := decide_eq_false h2
 have q2 : decide (kn ≥ 536870912) = true := decide_eq_true (by omega)
 clear h1 h2 h3
 have hb : Below w.heap.size w w := Below.refl _ _
 have H1 := Lib.hid (Fx.nil w)
 have H2 := Lib.hid (H1.out.base (hb))
 clear H1
 clear hb
 go_enter Tryz.func6, Tryz.ntmps6
 go_wp2_with fail
 refine (first13 w).mono ?_; rintro e w1 ⟨rfl, hb⟩
 have H3 := Lib.hid (H2.out.below hb)
 clear hb H2
 go_wp2_with fail
 refine (first13 w1).mono ?_; rintro e w2 ⟨rfl, hb⟩
 have H4 := Lib.hid (H3.out.below hb)
 clear hb H3
 go_wp2_with fail
 go_ret
 exact ⟨rfl, H4.out.is.1⟩
theorem hioth_A (s : ByteArray) (d : Int) (w : World) (hd : -9223372036854775808 ≤ d ∧ d ≤ 9223372036854775807) (kn v : Nat) (hs : s.size ≤ 6000) (hk1 : 1 ≤ kn) (hk2 : kn ≤ 536870911) (hv : v < 2 ^ 64) {c : Nat} (hx : hird s.data.toList d = .error c) :
 Calls Tryz.prog 6 #[.string s, .int .i64 d, .int .i64 (kn : Int), .int .u64 (v : Int)] w fun e w' => e = .returned (.bool true) ∧ Below w.heap.size w w' := by
 have d1 : decide ((s.size : Int) > 6000) = false := decide_eq_false (by omega)
 have d2 : decide ((kn : Int) < 1) = false := decide_eq_false (by omega)
 have d3 : decide ((kn : Int) ≥ 536870912) = false := decide_eq_false (by omega)
 have hsl : s.data.toList.length = s.size := by simp
 obtain ⟨r4, L4, t4, TG, U, hT, hU, HUL, hTs, hUs, I4⟩ := oth_four kn hk1 hk2
 obtain ⟨r1, N1, L, hL, HLL, hLs, I1⟩ := oth_one v hv
 have hb4 : hiF.tk r4 = false := hi_tko r4 (.inl t4)
 have hb1 : hiF.tk r1 = false := hi_tko r1 (.inr N1)
 obtain ⟨sU, hsU⟩ : ∃ X : ByteArray, s ++ U = X := ⟨_, rfl⟩
 obtain ⟨Us, hUs'⟩ : ∃ X : ByteArray, U ++ s = X := ⟨_, rfl⟩
 obtain ⟨Lq, hLq⟩ : ∃ X : ByteArray, L ++ s = X := ⟨_, rfl⟩
 obtain ⟨LL, hLL⟩ : ∃ X : ByteArray, Lq ++ L = X := ⟨_, rfl⟩
 have hsUl : sU.data.toList = s.data.toList ++ r4.raw := by rw [← hsU, ← HUL]; simp [ByteArray.data_append]
 have hUsl : Us.data.toList = r4.raw ++ s.data.toList := by rw [← hUs', ← HUL]; simp [ByteArray.data_append]
 have hLLl : LL.data.toList = r1.raw ++ (s.data.toList ++ r1.raw) := by rw [← hLL, ← hLq, ← HLL]; simp [ByteArray.data_append]
 have z1 : sU.size ≤ 6020 := by rw [← hsU, ByteArray.size_append]; omega
 have z2 : Us.size ≤ 6020 := by rw [← hUs', ByteArray.size_append]; omega
 have z3 : Lq.size ≤ 6020 := by rw [← hLq, ByteArray.size_append]; omega
 have z4 : LL.size ≤ 6040 := by rw [← hLL, ByteArray.size_append]; omega
 have HS1 := Lib.hid (fun w' => hi_un s d w' (by omega) hd)
 have HS2 := Lib.hid (fun w' => hi_un sU d w' (by omega) hd)
 have HS3 := Lib.hid (fun w' => hi_un Us d w' (by omega) hd)
 have HS4 := Lib.hid (fun w' => hi_un LL d w' (by omega) hd)
 rw [hx] at HS1
 rw [hUsl] at HS3
 obtain ⟨c', hc'⟩ := mread_before_no (σ := Nat × Nat × Nat × (Bool × Nat) × List Nat × List Nat × List Ex × List KV × Nat × (Bool × Nat) × Bool × Nat) r4 I4 hb4 hx
 rw [show hird (r4.raw ++ s.data.toList) d = .error c' from hc'] at HS3
 clear hc'
 have o1 : ¬ 9223372036854775807 < TG.size + (ByteArray.mk #[97, 98, 99, 100]).size := by
  have : (ByteArray.mk #[97, 98, 99, 100]).size = 4 := rfl
  omega
 have o2 : ¬ 9223372036854775807 < s.size + U.size := by omega
 have o3 : ¬ 9223372036854775807 < U.size + s.size := by omega
 have o6 : ¬ 9223372036854775807 < L.size + s.size := by omega
 have o7 : ¬ 9223372036854775807 < Lq.size + L.size := by omega
 have HT := Lib.hid hT
 have HU := Lib.hid hU
 have HL := Lib.hid hL
 have HsU := Lib.hid hsU
 have HUs := Lib.hid hUs'
 have HLq := Lib.hid hLq
 have HLQL := Lib.hid hLL
 have HK1 := Lib.hid hk1
 have HK2 := Lib.hid hk2
 have HV := Lib.hid hv
 clear hd hk1 hk2 hv hx hsl hT hU hL HUL HLL hsU hUs' hLq hLL hsUl hUsl hLLl hb4 hb1 t4 N1 I4 I1
 have hb : Below w.heap.size w w := Below.refl _ _
 have H1 := Lib.hid (Fx.nil w)
 have H2 := Lib.hid (H1.out.base (hb))
 clear H1
 clear hb
 go_enter Tryz.func6, Tryz.ntmps6
 go_wp2_with fail
 refine (first13 w).mono ?_; rintro e w1 ⟨rfl, hb⟩
 have H3 := Lib.hid (H2.out.below hb)
 clear hb H2
 go_wp2_with fail
 refine (HS1.out w1).mono ?_; rintro e w2 ⟨hb, v1, q1, rfl, _, hew⟩
 obtain ⟨T1, y1, rfl⟩ := hew.iface
 clear HS1
 unfold hizero
 have H4 := Lib.hid (H3.out.below hb)
 clear hb H3
 clear hew
 go_wp2_with fail
 obtain ⟨bl1, hbl⟩ : ∃ b, w2.heap.size = b := ⟨_, rfl⟩
 obtain ⟨W3, hW⟩ : ∃ W, w2.alloc (.cells #[.slice none 0 0, .int .u64 0, .int .u64 0, .int .u64 0, .bool false, .int .u64 0, .bool false, .int .u64 0, .bool false, .int .u64 0, .slice none 0 0, .slice none 0 0, .slice none 0 0, .int .u32 0, .string ⟨#[]⟩] 30) = W := ⟨_, rfl⟩
 have hb : Below w2.heap.size w2 W3 := by rw [← hW]; exact below_new _ _
 have hr : W3.heap[bl1]? = some (.cells #[.slice none 0 0, .int .u64 0, .int .u64 0, .int .u64 0, .bool false, .int .u64 0, .bool false, .int .u64 0, .bool false, .int .u64 0, .slice none 0 0, .slice none 0 0, .slice none 0 0, .int .u32 0, .string ⟨#[]⟩] 30 (0, 0)) := by rw [← hW, ← hbl]; exact new_row _ _ _
 rw [hW, hbl]
 have HBL1 : Hid (w2.heap.size = bl1) := Lib.hid hbl
 have HZB1 : Hid (w.heap.size ≤ bl1) := Lib.hid (by have := (H4.out.is.1).size; omega)
 clear hW hbl
 have H5 := Lib.hid (H4.out.below hb)
 clear hb H4
 have H6 := Lib.hid (H5.out.row (hr))
 clear H5
 clear hr
 have HLT1 : Hid (bl1 < W3.heap.size) := Lib.hid (row_lt (H6.out.is.1))
 refine (tag_any (kn : Int) 5 W3 (by have := HK1.out; omega) (by have := HK2.out; omega) (by omega) (by omega)).mono ?_; rintro e w4 ⟨rfl, hb⟩
 rw [HT.out]
 have H7 := Lib.hid (H6.out.below hb)
 clear hb H6
 go_wp2_with fail
 rw [HU.out]
 go_wp2_with fail
 rw [HsU.out]
 refine (HS2.out w4).mono ?_; intro e w5 hpost
 obtain ⟨hb, lo2, llo2, lc2, ja2, jt2, jk2, jph2, jpn2, jmh2, jmn2, jgh2, jgn2, nco2, lnco2, ncc2, nbo2, lnbo2, nbc2, eo2, leo2, ec2, jf2, Xu2, v2, rfl⟩ := hi_form hpost
 clear hpost HS2
 have H8 := Lib.hid (H7.out.below hb)
 clear hb H7
 go_wp2_with fail
 obtain ⟨bl2, hbl⟩ : ∃ b, w5.heap.size = b := ⟨_, rfl⟩
 obtain ⟨W6, hW⟩ : ∃ W, w5.alloc (.cells #[.slice lo2 llo2 lc2, .int .u64 ja2, .int .u64 jt2, .int .u64 jk2, .bool jph2, .int .u64 jpn2, .bool jmh2, .int .u64 jmn2, .bool jgh2, .int .u64 jgn2, .slice nco2 lnco2 ncc2, .slice nbo2 lnbo2 nbc2, .slice eo2 leo2 ec2, .int .u32 jf2, .string Xu2] 30) = W := ⟨_, rfl⟩
 have hb : Below w5.heap.size w5 W6 := by rw [← hW]; exact below_new _ _
 have hr : W6.heap[bl2]? = some (.cells #[.slice lo2 llo2 lc2, .int .u64 ja2, .int .u64 jt2, .int .u64 jk2, .bool jph2, .int .u64 jpn2, .bool jmh2, .int .u64 jmn2, .bool jgh2, .int .u64 jgn2, .slice nco2 lnco2 ncc2, .slice nbo2 lnbo2 nbc2, .slice eo2 leo2 ec2, .int .u32 jf2, .string Xu2] 30 (0, 0)) := by rw [← hW, ← hbl]; exact new_row _ _ _
 rw [hW, hbl]
 have HBL2 : Hid (w5.heap.size = bl2) := Lib.hid hbl
 have HZB2 : Hid (w.heap.size ≤ bl2) := Lib.hid (by have := (H8.out.is.2.1).size; omega)
 clear hW hbl
 have HNE2 : Hid (bl1 < bl2) := Lib.hid (by have := row_lt (H8.out.is.1); have := HBL2.out; omega)
 have H9 := Lib.hid (H8.out.below hb)
 clear hb H8
 have H10 := Lib.hid (H9.out.row (hr))
 clear H9
 clear hr
 have HLT2 : Hid (bl2 < W6.heap.size) := Lib.hid (row_lt (H10.out.is.1))
 go_wp2_with fail
 rw [HUs.out]
 refine (HS3.out W6).mono ?_; rintro e w7 ⟨hb, v3, q3, rfl, _, hew⟩
 obtain ⟨T3, y3, rfl⟩ := hew.iface
 clear HS3
 unfold hizero
 have H11 := Lib.hid (H10.out.below hb)
 clear hb H10
 clear hew
 go_wp2_with fail
 obtain ⟨bl3, hbl⟩ : ∃ b, w7.heap.size = b := ⟨_, rfl⟩
 obtain ⟨W8, hW⟩ : ∃ W, w7.alloc (.cells #[.slice none 0 0, .int .u64 0, .int .u64 0, .int .u64 0, .bool false, .int .u64 0, .bool false, .int .u64 0, .bool false, .int .u64 0, .slice none 0 0, .slice none 0 0, .slice none 0 0, .int .u32 0, .string ⟨#[]⟩] 30) = W := ⟨_, rfl⟩
 have hb : Below w7.heap.size w7 W8 := by rw [← hW]; exact below_new _ _
 have hr : W8.heap[bl3]? = some (.cells #[.slice none 0 0, .int .u64 0, .int .u64 0, .int .u64 0, .bool false, .int .u64 0, .bool false, .int .u64 0, .bool false, .int .u64 0, .slice none 0 0, .slice none 0 0, .slice none 0 0, .int .u32 0, .string ⟨#[]⟩] 30 (0, 0)) := by rw [← hW, ← hbl]; exact new_row _ _ _
 rw [hW, hbl]
 have HBL3 : Hid (w7.heap.size = bl3) := Lib.hid hbl
 have HZB3 : Hid (w.heap.size ≤ bl3) := Lib.hid (by have := (H11.out.is.2.2.1).size; omega)
 clear hW hbl
 have HNE3 : Hid (bl2 < bl3) := Lib.hid (by have := row_lt (H11.out.is.1); have := HBL3.out; omega)
 have H12 := Lib.hid (H11.out.below hb)
 clear hb H11
 have H13 := Lib.hid (H12.out.row (hr))
 clear H12
 clear hr
 refine (first13 W8).mono ?_; rintro e w9 ⟨rfl, hb⟩
 have H14 := Lib.hid (H13.out.below hb)
 clear hb H13
 go_wp2_with fail
 go_ret
 exact ⟨rfl, H14.out.is.2.2.2.1⟩
theorem hioth_C (s : ByteArray) (d : Int) (w : World) (hd : -9223372036854775808 ≤ d ∧ d ≤ 9223372036854775807) (kn v : Nat) (hs : s.size ≤ 6000) (hk1 : 1 ≤ kn) (hk2 : kn ≤ 536870911) (hv : v < 2 ^ 64) {x : Hi} (hx : hird s.data.toList d = .ok x) :
 Calls Tryz.prog 6 #[.string s, .int .i64 d, .int .i64 (kn : Int), .int .u64 (v : Int)] w fun e w' => e = .returned (.bool true) ∧ Below w.heap.size w w' := by
 have d1 : decide ((s.size : Int) > 6000) = false := decide_eq_false (by omega)
 have d2 : decide ((kn : Int) < 1) = false := decide_eq_false (by omega)
 have d3 : decide ((kn : Int) ≥ 536870912) = false := decide_eq_false (by omega)
 have hsl : s.data.toList.length = s.size := by simp
 obtain ⟨r4, L4, t4, TG, U, hT, hU, HUL, hTs, hUs, I4⟩ := oth_four kn hk1 hk2
 obtain ⟨r1, N1, L, hL, HLL, hLs, I1⟩ := oth_one v hv
 have hb4 : hiF.tk r4 = false := hi_tko r4 (.inl t4)
 have hb1 : hiF.tk r1 = false := hi_tko r1 (.inr N1)
 obtain ⟨sU, hsU⟩ : ∃ X : ByteArray, s ++ U = X := ⟨_, rfl⟩
 obtain ⟨Us, hUs'⟩ : ∃ X : ByteArray, U ++ s = X := ⟨_, rfl⟩
 obtain ⟨Lq, hLq⟩ : ∃ X : ByteArray, L ++ s = X := ⟨_, rfl⟩
 obtain ⟨LL, hLL⟩ : ∃ X : ByteArray, Lq ++ L = X := ⟨_, rfl⟩
 have hsUl : sU.data.toList = s.data.toList ++ r4.raw := by rw [← hsU, ← HUL]; simp [ByteArray.data_append]
 have hUsl : Us.data.toList = r4.raw ++ s.data.toList := by rw [← hUs', ← HUL]; simp [ByteArray.data_append]
 have hLLl : LL.data.toList = r1.raw ++ (s.data.toList ++ r1.raw) := by rw [← hLL, ← hLq, ← HLL]; simp [ByteArray.data_append]
 have z1 : sU.size ≤ 6020 := by rw [← hsU, ByteArray.size_append]; omega
 have z2 : Us.size ≤ 6020 := by rw [← hUs', ByteArray.size_append]; omega
 have z3 : Lq.size ≤ 6020 := by rw [← hLq, ByteArray.size_append]; omega
 have z4 : LL.size ≤ 6040 := by rw [← hLL, ByteArray.size_append]; omega
 have HS1 := Lib.hid (fun w' => hi_un s d w' (by omega) hd)
 have HS2 := Lib.hid (fun w' => hi_un sU d w' (by omega) hd)
 have HS3 := Lib.hid (fun w' => hi_un Us d w' (by omega) hd)
 have HS4 := Lib.hid (fun w' => hi_un LL d w' (by omega) hd)
 rw [hx] at HS1
 rw [hUsl] at HS3
 obtain ⟨⟨a, ⟨t, ⟨k, ⟨⟨ph, pn⟩, ⟨nc, ⟨nb, ⟨es, ⟨l, ⟨f, ⟨⟨mh, mn⟩, ⟨gh, gn⟩⟩⟩⟩⟩⟩⟩⟩⟩⟩⟩, u⟩ := x
 rw [hsUl, show hird (s.data.toList ++ r4.raw) d = .ok ((a, (t, (k, ((ph, pn), (nc, (nb, (es, (l, (f, ((mh, mn), (gh, gn))))))))))), u ++ r4.raw) from mread_behind (σ := Nat × Nat × Nat × (Bool × Nat) × List Nat × List Nat × List Ex × List KV × Nat × (Bool × Nat) × Bool × Nat) r4 I4 hb4 hx] at HS2
 rw [show hird (r4.raw ++ s.data.toList) d = .ok ((a, (t, (k, ((ph, pn), (nc, (nb, (es, (l, (f, ((mh, mn), (gh, gn))))))))))), r4.raw ++ u) from mread_before (σ := Nat × Nat × Nat × (Bool × Nat) × List Nat × List Nat × List Ex × List KV × Nat × (Bool × Nat) × Bool × Nat) r4 I4 hb4 hx] at HS3
 rw [hLLl, show hird (r1.raw ++ (s.data.toList ++ r1.raw)) d = .ok ((a, (t, (k, ((ph, pn), (nc, (nb, (es, (l, (f, ((mh, mn), (gh, gn))))))))))), r1.raw ++ (u ++ r1.raw)) from mread_before (σ := Nat × Nat × Nat × (Bool × Nat) × List Nat × List Nat × List Ex × List KV × Nat × (Bool × Nat) × Bool × Nat) r1 I1 hb1 (mread_behind (σ := Nat × Nat × Nat × (Bool × Nat) × List Nat × List Nat × List Ex × List KV × Nat × (Bool × Nat) × Bool × Nat) r1 I1 hb1 hx)] at HS4
 obtain ⟨T1, hT1⟩ : ∃ X : ByteArray, (⟨(u ++ r4.raw).toArray⟩ : ByteArray) = X := ⟨_, rfl⟩
 obtain ⟨V1, hV1⟩ : ∃ X : ByteArray, (⟨(r4.raw ++ u).toArray⟩ : ByteArray) = X := ⟨_, rfl⟩
 obtain ⟨F1, hF1⟩ : ∃ X : ByteArray, (⟨(r1.raw ++ (u ++ r1.raw)).toArray⟩ : ByteArray) = X := ⟨_, rfl⟩
 obtain ⟨Xu, eu⟩ : ∃ X : ByteArray, (⟨u.toArray⟩ : ByteArray) = X := ⟨_, rfl⟩
 have HNu := Lib.hid eu
 clear eu
 obtain ⟨LS, hLS⟩ : ∃ X : ByteArray, L ++ Xu = X := ⟨_, rfl⟩
 have hSs : Xu.size ≤ 6000 := by
  have h1 := mread_unk (σ := Nat × Nat × Nat × (Bool × Nat) × List Nat × List Nat × List Ex × List KV × Nat × (Bool × Nat) × Bool × Nat) hx
  have : Xu.size = u.length := by rw [← HNu.out]; simp [ByteArray.size]
  omega
 have hLSs : LS.size ≤ 6020 := by rw [← hLS, ByteArray.size_append]; omega
 have e1 : T1 = Xu ++ U := by rw [← hT1, ← HNu.out]; exact ByteArray.ext (Array.ext' (by simp [HUL]))
 have e2 : V1 = U ++ Xu := by rw [← hV1, ← HNu.out]; exact ByteArray.ext (Array.ext' (by simp [HUL]))
 have e3 : F1 = LS ++ L := by rw [← hF1, ← hLS, ← HNu.out]; exact ByteArray.ext (Array.ext' (by simp [HLL]))
 have ht1 : (T1.toList == (Xu ++ U).toList) = true := by rw [e1]; simp
 have ht2 : (V1.toList == (U ++ Xu).toList) = true := by rw [e2]; simp
 have ht3 : (F1.toList == (LS ++ L).toList) = true := by rw [e3]; simp
 have o4 : ¬ 9223372036854775807 < Xu.size + U.size := by omega
 have o5 : ¬ 9223372036854775807 < U.size + Xu.size := by omega
 have o8 : ¬ 9223372036854775807 < L.size + Xu.size := by omega
 have o9 : ¬ 9223372036854775807 < LS.size + L.size := by omega
 obtain ⟨hmay, hfit⟩ := hi_twice (by omega) hx
 have HARG := Lib.hid (hi_arg_of hfit)
 have HTN := Lib.hid hT1
 have HVN := Lib.hid hV1
 have HFN := Lib.hid hF1
 have HLSN := Lib.hid hLS
 clear hmay hfit e1 e2 e3 hT1 hV1 hF1 hLS
 have o1 : ¬ 9223372036854775807 < TG.size + (ByteArray.mk #[97, 98, 99, 100]).size := by
  have : (ByteArray.mk #[97, 98, 99, 100]).size = 4 := rfl
  omega
 have o2 : ¬ 9223372036854775807 < s.size + U.size := by omega
 have o3 : ¬ 9223372036854775807 < U.size + s.size := by omega
 have o6 : ¬ 9223372036854775807 < L.size + s.size := by omega
 have o7 : ¬ 9223372036854775807 < Lq.size + L.size := by omega
 have HT := Lib.hid hT
 have HU := Lib.hid hU
 have HL := Lib.hid hL
 have HsU := Lib.hid hsU
 have HUs := Lib.hid hUs'
 have HLq := Lib.hid hLq
 have HLQL := Lib.hid hLL
 have HK1 := Lib.hid hk1
 have HK2 := Lib.hid hk2
 have HV := Lib.hid hv
 clear hd hk1 hk2 hv hx hsl hT hU hL HUL HLL hsU hUs' hLq hLL hsUl hUsl hLLl hb4 hb1 t4 N1 I4 I1
 have hb : Below w.heap.size w w := Below.refl _ _
 have H1 := Lib.hid (Fx.nil w)
 have H2 := Lib.hid (H1.out.base (hb))
 clear H1
 clear hb
 go_enter Tryz.func6, Tryz.ntmps6
 go_wp2_with fail
 refine (first13 w).mono ?_; rintro e w1 ⟨rfl, hb⟩
 have H3 := Lib.hid (H2.out.below hb)
 clear hb H2
 go_wp2_with fail
 refine (HS1.out w1).mono ?_; rintro e w2 ⟨hb, cs, rfl, hrel⟩
 clear HS1
 have hrel := hiCel.lt hrel
 have hr2 := hrel
 obtain ⟨lo1, lc1, nco1, ncc1, nbo1, nbc1, eo1, ec1, rfl, _, _, _, _⟩ := hr2
 dsimp only [strV]
 rw [HNu.out]
 have H4 := Lib.hid (H3.out.below hb)
 clear hb H3
 have H5 := Lib.hid (H4.out.cel (hrel))
 clear H4
 clear hrel
 go_wp2_with fail
 obtain ⟨bl1, hbl⟩ : ∃ b, w2.heap.size = b := ⟨_, rfl⟩
 obtain ⟨W3, hW⟩ : ∃ W, w2.alloc (.cells #[.slice lo1 l.length lc1, .int .u64 (a : Int), .int .u64 (t : Int), .int .u64 (k : Int), .bool ph, .int .u64 (pn : Int), .bool mh, .int .u64 (mn : Int), .bool gh, .int .u64 (gn : Int), .slice nco1 nc.length ncc1, .slice nbo1 nb.length nbc1, .slice eo1 es.length ec1, .int .u32 (f : Int), .string Xu] 30) = W := ⟨_, rfl⟩
 have hb : Below w2.heap.size w2 W3 := by rw [← hW]; exact below_new _ _
 have hr : W3.heap[bl1]? = some (.cells #[.slice lo1 l.length lc1, .int .u64 (a : Int), .int .u64 (t : Int), .int .u64 (k : Int), .bool ph, .int .u64 (pn : Int), .bool mh, .int .u64 (mn : Int), .bool gh, .int .u64 (gn : Int), .slice nco1 nc.length ncc1, .slice nbo1 nb.length nbc1, .slice eo1 es.length ec1, .int .u32 (f : Int), .string Xu] 30 (0, 0)) := by rw [← hW, ← hbl]; exact new_row _ _ _
 rw [hW, hbl]
 have HBL1 : Hid (w2.heap.size = bl1) := Lib.hid hbl
 have HZB1 : Hid (w.heap.size ≤ bl1) := Lib.hid (by have := (H5.out.is.2.1).size; omega)
 clear hW hbl
 have H6 := Lib.hid (H5.out.below hb)
 clear hb H5
 have H7 := Lib.hid (H6.out.row (hr))
 clear H6
 clear hr
 have HLT1 : Hid (bl1 < W3.heap.size) := Lib.hid (row_lt (H7.out.is.1))
 refine (tag_any (kn : Int) 5 W3 (by have := HK1.out; omega) (by have := HK2.out; omega) (by omega) (by omega)).mono ?_; rintro e w4 ⟨rfl, hb⟩
 rw [HT.out]
 have H8 := Lib.hid (H7.out.below hb)
 clear hb H7
 go_wp2_with fail
 rw [HU.out]
 go_wp2_with fail
 rw [HsU.out]
 refine (HS2.out w4).mono ?_; rintro e w5 ⟨hb, cs, rfl, hrel⟩
 clear HS2
 have hrel := hiCel.lt hrel
 have hr2 := hrel
 obtain ⟨lo2, lc2, nco2, ncc2, nbo2, nbc2, eo2, ec2, rfl, _, _, _, _⟩ := hr2
 dsimp only [strV]
 rw [HTN.out]
 have H9 := Lib.hid (H8.out.below hb)
 clear hb H8
 have H10 := Lib.hid (H9.out.cel (hrel))
 clear H9
 clear hrel
 go_wp2_with fail
 obtain ⟨bl2, hbl⟩ : ∃ b, w5.heap.size = b := ⟨_, rfl⟩
 obtain ⟨W6, hW⟩ : ∃ W, w5.alloc (.cells #[.slice lo2 l.length lc2, .int .u64 (a : Int), .int .u64 (t : Int), .int .u64 (k : Int), .bool ph, .int .u64 (pn : Int), .bool mh, .int .u64 (mn : Int), .bool gh, .int .u64 (gn : Int), .slice nco2 nc.length ncc2, .slice nbo2 nb.length nbc2, .slice eo2 es.length ec2, .int .u32 (f : Int), .string T1] 30) = W := ⟨_, rfl⟩
 have hb : Below w5.heap.size w5 W6 := by rw [← hW]; exact below_new _ _
 have hr : W6.heap[bl2]? = some (.cells #[.slice lo2 l.length lc2, .int .u64 (a : Int), .int .u64 (t : Int), .int .u64 (k : Int), .bool ph, .int .u64 (pn : Int), .bool mh, .int .u64 (mn : Int), .bool gh, .int .u64 (gn : Int), .slice nco2 nc.length ncc2, .slice nbo2 nb.length nbc2, .slice eo2 es.length ec2, .int .u32 (f : Int), .string T1] 30 (0, 0)) := by rw [← hW, ← hbl]; exact new_row _ _ _
 rw [hW, hbl]
 have HBL2 : Hid (w5.heap.size = bl2) := Lib.hid hbl
 have HZB2 : Hid (w.heap.size ≤ bl2) := Lib.hid (by have := (H10.out.is.2.2.2.1).size; omega)
 clear hW hbl
 have HNE2 : Hid (bl1 < bl2) := Lib.hid (by have := row_lt (H10.out.is.2.1); have := HBL2.out; omega)
 have H11 := Lib.hid (H10.out.below hb)
 clear hb H10
 have H12 := Lib.hid (H11.out.row (hr))
 clear H11
 clear hr
 have HLT2 : Hid (bl2 < W6.heap.size) := Lib.hid (row_lt (H12.out.is.1))
 go_wp2_with fail
 rw [HUs.out]
 refine (HS3.out W6).mono ?_; rintro e w7 ⟨hb, cs, rfl, hrel⟩
 clear HS3
 have hrel := hiCel.lt hrel
 have hr2 := hrel
 obtain ⟨lo3, lc3, nco3, ncc3, nbo3, nbc3, eo3, ec3, rfl, _, _, _, _⟩ := hr2
 dsimp only [strV]
 rw [HVN.out]
 have H13 := Lib.hid (H12.out.below hb)
 clear hb H12
 have H14 := Lib.hid (H13.out.cel (hrel))
 clear H13
 clear hrel
 go_upto_region 11 with fail
 obtain ⟨bl3, hbl⟩ : ∃ b, w7.heap.size = b := ⟨_, rfl⟩
 obtain ⟨W8, hW⟩ : ∃ W, w7.alloc (.cells #[.slice lo3 l.length lc3, .int .u64 (a : Int), .int .u64 (t : Int), .int .u64 (k : Int), .bool ph, .int .u64 (pn : Int), .bool mh, .int .u64 (mn : Int), .bool gh, .int .u64 (gn : Int), .slice nco3 nc.length ncc3, .slice nbo3 nb.length nbc3, .slice eo3 es.length ec3, .int .u32 (f : Int), .string V1] 30) = W := ⟨_, rfl⟩
 have hb : Below w7.heap.size w7 W8 := by rw [← hW]; exact below_new _ _
 have hr : W8.heap[bl3]? = some (.cells #[.slice lo3 l.length lc3, .int .u64 (a : Int), .int .u64 (t : Int), .int .u64 (k : Int), .bool ph, .int .u64 (pn : Int), .bool mh, .int .u64 (mn : Int), .bool gh, .int .u64 (gn : Int), .slice nco3 nc.length ncc3, .slice nbo3 nb.length nbc3, .slice eo3 es.length ec3, .int .u32 (f : Int), .string V1] 30 (0, 0)) := by rw [← hW, ← hbl]; exact new_row _ _ _
 rw [hW, hbl]
 have HBL3 : Hid (w7.heap.size = bl3) := Lib.hid hbl
 have HZB3 : Hid (w.heap.size ≤ bl3) := Lib.hid (by have := (H14.out.is.2.2.2.2.2.1).size; omega)
 clear hW hbl
 have HNE3 : Hid (bl2 < bl3) := Lib.hid (by have := row_lt (H14.out.is.2.1); have := HBL3.out; omega)
 have H15 := Lib.hid (H14.out.below hb)
 clear hb H14
 have H16 := Lib.hid (H15.out.row (hr))
 clear H15
 clear hr
 have ca : W8.cell? ⟨bl1, 14, none⟩ = some (.string Xu) := row_cell (H16.out.is.2.2.2.2.1) (j := 14) rfl
 have cb : W8.cell? ⟨bl2, 14, none⟩ = some (.string T1) := row_cell (H16.out.is.2.2.1) (j := 14) rfl
 have cc : W8.cell? ⟨bl3, 14, none⟩ = some (.string V1) := row_cell (H16.out.is.1) (j := 14) rfl
 go_wp2_with fail
 clear ca cb cc
 obtain ⟨D5, hD5⟩ : ∃ D, W8.drew = D := ⟨_, rfl⟩
 have hb : Below W8.heap.size W8 D5 := by rw [← hD5]; exact (Below.refl _ _).drew
 have H17 := Lib.hid (H16.out.below hb)
 clear hb H16
 have hX5 : Hid (D5.heap[bl1]? = some (.cells #[.slice lo1 l.length lc1, .int .u64 (a : Int), .int .u64 (t : Int), .int .u64 (k : Int), .bool ph, .int .u64 (pn : Int), .bool mh, .int .u64 (mn : Int), .bool gh, .int .u64 (gn : Int), .slice nco1 nc.length ncc1, .slice nbo1 nb.length nbc1, .slice eo1 es.length ec1, .int .u32 (f : Int), .string Xu] 30 (0, 0))) := Lib.hid (H17.out.is.2.2.2.2.1)
 have hY5 : Hid (D5.heap[bl2]? = some (.cells #[.slice lo2 l.length lc2, .int .u64 (a : Int), .int .u64 (t : Int), .int .u64 (k : Int), .bool ph, .int .u64 (pn : Int), .bool mh, .int .u64 (mn : Int), .bool gh, .int .u64 (gn : Int), .slice nco2 nc.length ncc2, .slice nbo2 nb.length nbc2, .slice eo2 es.length ec2, .int .u32 (f : Int), .string T1] 30 (0, 0))) := Lib.hid (H17.out.is.2.2.1)
 have hZ5 : Hid (D5.heap[bl3]? = some (.cells #[.slice lo3 l.length lc3, .int .u64 (a : Int), .int .u64 (t : Int), .int .u64 (k : Int), .bool ph, .int .u64 (pn : Int), .bool mh, .int .u64 (mn : Int), .bool gh, .int .u64 (gn : Int), .slice nco3 nc.length ncc3, .slice nbo3 nb.length nbc3, .slice eo3 es.length ec3, .int .u32 (f : Int), .string V1] 30 (0, 0))) := Lib.hid (H17.out.is.1)
 have ca : D5.cell? ⟨bl1, 14, none⟩ = some (.string Xu) := row_cell (hX5.out) (j := 14) rfl
 have cf : D5.frozen? ⟨bl2, 14, none⟩ = false := row_thaw hY5.out 14
 have cb : D5.cell? ⟨bl2, 14, none⟩ = some (.string T1) := row_cell (hY5.out) (j := 14) rfl
 have hne : Nonempty {w' : World // (fun w' => w'.cell? ⟨bl1, 14, none⟩ = some (.string Xu)) w'} := ⟨⟨_, ca⟩⟩
 refine wp_region_seq (S := fun w' => w'.cell? ⟨bl1, 14, none⟩ = some (.string Xu)) [(0, true), (1, true), (2, true), (3, true), (4, true), (5, false), (6, true), (7, false)] (by kernel_rfl) (by kernel_rfl) (by kernel_rfl) (by kernel_rfl) (by rw [hD5]; exact ca) ?_
 rw [hD5]
 clear hD5
 iterate 5 (refine seq_take _ rfl (fun KC hK => ?_); go_simp; (first | refine hK _ ?_ | refine ⟨_, fun _ _ => rfl, hK _ ?_⟩ | refine ⟨.string Xu, fun a ha => by rw [ha]; rfl, hK _ ?_⟩); clear hK KC)
 refine seq_come _ rfl (fun KC hK => ?_); go_simp
 obtain ⟨D6, hD6⟩ : ∃ D, D5.setCell ⟨bl2, 14, none⟩ (.string Xu) = D := ⟨_, rfl⟩
 have hu6 := Upd.set D5 ⟨bl2, 14, none⟩ (.string Xu)
 rw [hD6] at hu6 ⊢
 have hX6 : Hid (D6.heap[bl1]? = some (.cells #[.slice lo1 l.length lc1, .int .u64 (a : Int), .int .u64 (t : Int), .int .u64 (k : Int), .bool ph, .int .u64 (pn : Int), .bool mh, .int .u64 (mn : Int), .bool gh, .int .u64 (gn : Int), .slice nco1 nc.length ncc1, .slice nbo1 nb.length nbc1, .slice eo1 es.length ec1, .int .u32 (f : Int), .string Xu] 30 (0, 0))) := Lib.hid ((hu6.block bl1 (row_lt hX5.out) (fun e => by have e : bl1 = bl2 := e; have := HNE2.out; omega)).trans hX5.out)
 have hZ6 : Hid (D6.heap[bl3]? = some (.cells #[.slice lo3 l.length lc3, .int .u64 (a : Int), .int .u64 (t : Int), .int .u64 (k : Int), .bool ph, .int .u64 (pn : Int), .bool mh, .int .u64 (mn : Int), .bool gh, .int .u64 (gn : Int), .slice nco3 nc.length ncc3, .slice nbo3 nb.length nbc3, .slice eo3 es.length ec3, .int .u32 (f : Int), .string V1] 30 (0, 0))) := Lib.hid ((hu6.block bl3 (row_lt hZ5.out) (fun e => by have e : bl3 = bl2 := e; have := HNE3.out; omega)).trans hZ5.out)
 have hY6 : Hid (D6.heap[bl2]? = some (.cells #[.slice lo2 l.length lc2, .int .u64 (a : Int), .int .u64 (t : Int), .int .u64 (k : Int), .bool ph, .int .u64 (pn : Int), .bool mh, .int .u64 (mn : Int), .bool gh, .int .u64 (gn : Int), .slice nco2 nc.length ncc2, .slice nbo2 nb.length nbc2, .slice eo2 es.length ec2, .int .u32 (f : Int), .string Xu] 30 (0, 0))) := Lib.hid (by rw [← hD6]; exact row_set hY5.out 14 _)
 have HU6 : Hid (Upd (fun k => k = bl2 ∨ k = bl3) D5 D6) := Lib.hid (hu6.mono fun k _ h => .inl h)
 clear hD6 hu6 ca cf cb hY5 hX5 hZ5
 have ca : D6.cell? ⟨bl1, 14, none⟩ = some (.string Xu) := row_cell (hX6.out) (j := 14) rfl
 have cf : D6.frozen? ⟨bl3, 14, none⟩ = false := row_thaw hZ6.out 14
 have cb : D6.cell? ⟨bl3, 14, none⟩ = some (.string V1) := row_cell (hZ6.out) (j := 14) rfl
 refine hK.out _ _ ca ?_; clear hK KC
 iterate 1 (refine seq_take _ rfl (fun KC hK => ?_); go_simp; (first | refine hK _ ?_ | refine ⟨_, fun _ _ => rfl, hK _ ?_⟩ | refine ⟨.string Xu, fun a ha => by rw [ha]; rfl, hK _ ?_⟩); clear hK KC)
 refine seq_come _ rfl (fun KC hK => ?_); go_simp
 obtain ⟨D7, hD7⟩ : ∃ D, D6.setCell ⟨bl3, 14, none⟩ (.string Xu) = D := ⟨_, rfl⟩
 have hu7 := Upd.set D6 ⟨bl3, 14, none⟩ (.string Xu)
 rw [hD7] at hu7 ⊢
 have hX7 : Hid (D7.heap[bl1]? = some (.cells #[.slice lo1 l.length lc1, .int .u64 (a : Int), .int .u64 (t : Int), .int .u64 (k : Int), .bool ph, .int .u64 (pn : Int), .bool mh, .int .u64 (mn : Int), .bool gh, .int .u64 (gn : Int), .slice nco1 nc.length ncc1, .slice nbo1 nb.length nbc1, .slice eo1 es.length ec1, .int .u32 (f : Int), .string Xu] 30 (0, 0))) := Lib.hid ((hu7.block bl1 (row_lt hX6.out) (fun e => by have e : bl1 = bl3 := e; have := HNE2.out; have := HNE3.out; omega)).trans hX6.out)
 have hY7 : Hid (D7.heap[bl2]? = some (.cells #[.slice lo2 l.length lc2, .int .u64 (a : Int), .int .u64 (t : Int), .int .u64 (k : Int), .bool ph, .int .u64 (pn : Int), .bool mh, .int .u64 (mn : Int), .bool gh, .int .u64 (gn : Int), .slice nco2 nc.length ncc2, .slice nbo2 nb.length nbc2, .slice eo2 es.length ec2, .int .u32 (f : Int), .string Xu] 30 (0, 0))) := Lib.hid ((hu7.block bl2 (row_lt hY6.out) (fun e => by have e : bl2 = bl3 := e; have := HNE3.out; omega)).trans hY6.out)
 have hZ7 : Hid (D7.heap[bl3]? = some (.cells #[.slice lo3 l.length lc3, .int .u64 (a : Int), .int .u64 (t : Int), .int .u64 (k : Int), .bool ph, .int .u64 (pn : Int), .bool mh, .int .u64 (mn : Int), .bool gh, .int .u64 (gn : Int), .slice nco3 nc.length ncc3, .slice nbo3 nb.length nbc3, .slice eo3 es.length ec3, .int .u32 (f : Int), .string Xu] 30 (0, 0))) := Lib.hid (by rw [← hD7]; exact row_set hZ6.out 14 _)
 have HU7 : Hid (Upd (fun k => k = bl2 ∨ k = bl3) D5 D7) := Lib.hid (HU6.out.trans (hu7.mono fun k _ h => .inr h))
 clear hD7 hu7 ca cf cb hX6 hY6 hZ6 HU6
 have ca : D7.cell? ⟨bl1, 14, none⟩ = some (.string Xu) := row_cell (hX7.out) (j := 14) rfl
 refine hK.out _ _ ca ?_; clear hK KC
 refine seq_done ?_
 clear ca hne
 have hbase : Below w.heap.size w D7 := (H17.out.is.2.2.2.2.2.2.1).trans (HU7.out.below ((H17.out.is.2.2.2.2.2.2.1).size) (fun k _ h => by have := HZB2.out; have := HZB3.out; rcases h with h | h <;> omega))
 have hc1 := Lib.hid (hiCel.upd HU7.out (Q := fun _ => True) (fun k hk h => by have := HNE2.out; have := HNE3.out; have := HLT1.out; have := HLT2.out; have := HBL1.out; have := HBL2.out; have := HBL3.out; omega) (fun _ _ => trivial) (H17.out.is.2.2.2.2.2.1))
 have hc2 := Lib.hid (hiCel.upd HU7.out (Q := fun _ => True) (fun k hk h => by have := HNE2.out; have := HNE3.out; have := HLT1.out; have := HLT2.out; have := HBL1.out; have := HBL2.out; have := HBL3.out; omega) (fun _ _ => trivial) (H17.out.is.2.2.2.1))
 have hc3 := Lib.hid (hiCel.upd HU7.out (Q := fun _ => True) (fun k hk h => by have := HNE2.out; have := HNE3.out; have := HLT1.out; have := HLT2.out; have := HBL1.out; have := HBL2.out; have := HBL3.out; omega) (fun _ _ => trivial) (H17.out.is.2.1))
 have hd2 : hiCel.R D7 (fun _ => True) ((a, (t, (k, ((ph, pn), (nc, (nb, (es, (l, (f, ((mh, mn), (gh, gn))))))))))), u) [.slice lo2 l.length lc2, .int .u64 (a : Int), .int .u64 (t : Int), .int .u64 (k : Int), .bool ph, .int .u64 (pn : Int), .bool mh, .int .u64 (mn : Int), .bool gh, .int .u64 (gn : Int), .slice nco2 nc.length ncc2, .slice nbo2 nb.length nbc2, .slice eo2 es.length ec2, .int .u32 (f : Int), .string Xu] := by rw [← HNu.out]; exact hi_unk (cs := [.slice lo2 l.length lc2, .int .u64 (a : Int), .int .u64 (t : Int), .int .u64 (k : Int), .bool ph, .int .u64 (pn : Int), .bool mh, .int .u64 (mn : Int), .bool gh, .int .u64 (gn : Int), .slice nco2 nc.length ncc2, .slice nbo2 nb.length nbc2, .slice eo2 es.length ec2, .int .u32 (f : Int)]) hc2.out
 have hd3 : hiCel.R D7 (fun _ => True) ((a, (t, (k, ((ph, pn), (nc, (nb, (es, (l, (f, ((mh, mn), (gh, gn))))))))))), u) [.slice lo3 l.length lc3, .int .u64 (a : Int), .int .u64 (t : Int), .int .u64 (k : Int), .bool ph, .int .u64 (pn : Int), .bool mh, .int .u64 (mn : Int), .bool gh, .int .u64 (gn : Int), .slice nco3 nc.length ncc3, .slice nbo3 nb.length nbc3, .slice eo3 es.length ec3, .int .u32 (f : Int), .string Xu] := by rw [← HNu.out]; exact hi_unk (cs := [.slice lo3 l.length lc3, .int .u64 (a : Int), .int .u64 (t : Int), .int .u64 (k : Int), .bool ph, .int .u64 (pn : Int), .bool mh, .int .u64 (mn : Int), .bool gh, .int .u64 (gn : Int), .slice nco3 nc.length ncc3, .slice nbo3 nb.length nbc3, .slice eo3 es.length ec3, .int .u32 (f : Int)]) hc3.out
 clear H17 HU7 HBL1 HBL2 HBL3 HZB1 HZB2 HZB3 HNE2 HNE3 HLT1 HLT2
 have H18 := Lib.hid (Fx.nil D7)
 have H19 := Lib.hid (H18.out.base (hbase))
 clear H18
 clear hbase
 have H20 := Lib.hid (H19.out.row (hX7.out))
 clear H19
 have H21 := Lib.hid (H20.out.row (hY7.out))
 clear H20
 have H22 := Lib.hid (H21.out.row (hZ7.out))
 clear H21
 have H23 := Lib.hid (H22.out.cel (hc1.out))
 clear H22
 have H24 := Lib.hid (H23.out.cel (hd2))
 clear H23
 have H25 := Lib.hid (H24.out.cel (hd3))
 clear H24
 clear hX7 hY7 hZ7 hc1 hc2 hc3 hd2 hd3
 go_wp2_with fail
 refine (wfixed_any 536870911 v D7 (by omega) (by omega) HV.out).mono ?_; rintro e w9 ⟨rfl, hb⟩
 rw [HL.out]
 have H26 := Lib.hid (H25.out.below hb)
 clear hb H25
 go_wp2_with fail
 rw [HLq.out]
 go_wp2_with fail
 rw [HLQL.out]
 refine (HS4.out w9).mono ?_; rintro e wa ⟨hb, cs, rfl, lo4, lc4, nco4, ncc4, nbo4, nbc4, eo4, ec4, rfl, _, _, _, _⟩
 clear HS4
 dsimp only [strV]
 rw [HFN.out]
 have H27 := Lib.hid (H26.out.below hb)
 clear hb H26
 go_wp2_with fail
 obtain ⟨bl4, hbl⟩ : ∃ b, wa.heap.size = b := ⟨_, rfl⟩
 obtain ⟨Wb, hW⟩ : ∃ W, wa.alloc (.cells #[.slice lo4 l.length lc4, .int .u64 (a : Int), .int .u64 (t : Int), .int .u64 (k : Int), .bool ph, .int .u64 (pn : Int), .bool mh, .int .u64 (mn : Int), .bool gh, .int .u64 (gn : Int), .slice nco4 nc.length ncc4, .slice nbo4 nb.length nbc4, .slice eo4 es.length ec4, .int .u32 (f : Int), .string F1] 30) = W := ⟨_, rfl⟩
 have hb : Below wa.heap.size wa Wb := by rw [← hW]; exact below_new _ _
 have hr : Wb.heap[bl4]? = some (.cells #[.slice lo4 l.length lc4, .int .u64 (a : Int), .int .u64 (t : Int), .int .u64 (k : Int), .bool ph, .int .u64 (pn : Int), .bool mh, .int .u64 (mn : Int), .bool gh, .int .u64 (gn : Int), .slice nco4 nc.length ncc4, .slice nbo4 nb.length nbc4, .slice eo4 es.length ec4, .int .u32 (f : Int), .string F1] 30 (0, 0)) := by rw [← hW, ← hbl]; exact new_row _ _ _
 rw [hW, hbl]
 have HBL4 : Hid (wa.heap.size = bl4) := Lib.hid hbl
 have HZB4 : Hid (w.heap.size ≤ bl4) := Lib.hid (by have := (H27.out.is.2.2.2.2.2.2.1).size; omega)
 clear hW hbl
 have HNE4 : Hid (bl3 < bl4) := Lib.hid (by have := row_lt (H27.out.is.2.2.2.1); have := HBL4.out; omega)
 have H28 := Lib.hid (H27.out.below hb)
 clear hb H27
 have H29 := Lib.hid (H28.out.row (hr))
 clear H28
 clear hr
 refine (first13 Wb).mono ?_; rintro e wc ⟨rfl, hb⟩
 have H30 := Lib.hid (H29.out.below hb)
 clear hb H29
 obtain ⟨xa0, xa1, xa2, xa3, xa4, xa5, xa6, xa7, xa8, xa9, xa10, xa11, xa12, xa13, xa14⟩ := row15 (H30.out.is.2.2.2.2.2.2.1)
 obtain ⟨xb0, xb1, xb2, xb3, xb4, xb5, xb6, xb7, xb8, xb9, xb10, xb11, xb12, xb13, xb14⟩ := row15 (H30.out.is.2.2.2.2.2.1)
 go_wp2_with fail
 refine (hi_same ((a, (t, (k, ((ph, pn), (nc, (nb, (es, (l, (f, ((mh, mn), (gh, gn))))))))))), u) ((a, (t, (k, ((ph, pn), (nc, (nb, (es, (l, (f, ((mh, mn), (gh, gn))))))))))), u) [.slice lo1 l.length lc1, .int .u64 (a : Int), .int .u64 (t : Int), .int .u64 (k : Int), .bool ph, .int .u64 (pn : Int), .bool mh, .int .u64 (mn : Int), .bool gh, .int .u64 (gn : Int), .slice nco1 nc.length ncc1, .slice nbo1 nb.length nbc1, .slice eo1 es.length ec1, .int .u32 (f : Int), .string Xu] [.slice lo2 l.length lc2, .int .u64 (a : Int), .int .u64 (t : Int), .int .u64 (k : Int), .bool ph, .int .u64 (pn : Int), .bool mh, .int .u64 (mn : Int), .bool gh, .int .u64 (gn : Int), .slice nco2 nc.length ncc2, .slice nbo2 nb.length nbc2, .slice eo2 es.length ec2, .int .u32 (f : Int), .string Xu] _ _ wc HARG.out (by rw [← HNu.out]; exact H30.out.is.2.2.2.1) (H30.out.is.2.2.1)).mono ?_; rintro e wd ⟨rfl, hb⟩
 rw [alike_yes rfl]
 clear xa0 xa1 xa2 xa3 xa4 xa5 xa6 xa7 xa8 xa9 xa10 xa11 xa12 xa13 xa14 xb0 xb1 xb2 xb3 xb4 xb5 xb6 xb7 xb8 xb9 xb10 xb11 xb12 xb13 xb14
 have H31 := Lib.hid (H30.out.below hb)
 clear hb H30
 obtain ⟨xa0, xa1, xa2, xa3, xa4, xa5, xa6, xa7, xa8, xa9, xa10, xa11, xa12, xa13, xa14⟩ := row15 (H31.out.is.2.2.2.2.2.2.1)
 obtain ⟨xb0, xb1, xb2, xb3, xb4, xb5, xb6, xb7, xb8, xb9, xb10, xb11, xb12, xb13, xb14⟩ := row15 (H31.out.is.2.2.2.2.1)
 go_wp2_with fail
 refine (hi_same ((a, (t, (k, ((ph, pn), (nc, (nb, (es, (l, (f, ((mh, mn), (gh, gn))))))))))), u) ((a, (t, (k, ((ph, pn), (nc, (nb, (es, (l, (f, ((mh, mn), (gh, gn))))))))))), u) [.slice lo1 l.length lc1, .int .u64 (a : Int), .int .u64 (t : Int), .int .u64 (k : Int), .bool ph, .int .u64 (pn : Int), .bool mh, .int .u64 (mn : Int), .bool gh, .int .u64 (gn : Int), .slice nco1 nc.length ncc1, .slice nbo1 nb.length nbc1, .slice eo1 es.length ec1, .int .u32 (f : Int), .string Xu] [.slice lo3 l.length lc3, .int .u64 (a : Int), .int .u64 (t : Int), .int .u64 (k : Int), .bool ph, .int .u64 (pn : Int), .bool mh, .int .u64 (mn : Int), .bool gh, .int .u64 (gn : Int), .slice nco3 nc.length ncc3, .slice nbo3 nb.length nbc3, .slice eo3 es.length ec3, .int .u32 (f : Int), .string Xu] _ _ wd HARG.out (by rw [← HNu.out]; exact H31.out.is.2.2.2.1) (H31.out.is.2.1)).mono ?_; rintro e we ⟨rfl, hb⟩
 rw [alike_yes rfl]
 clear xa0 xa1 xa2 xa3 xa4 xa5 xa6 xa7 xa8 xa9 xa10 xa11 xa12 xa13 xa14 xb0 xb1 xb2 xb3 xb4 xb5 xb6 xb7 xb8 xb9 xb10 xb11 xb12 xb13 xb14
 have H32 := Lib.hid (H31.out.below hb)
 clear hb H31
 have ca : we.cell? ⟨bl1, 14, none⟩ = some (.string Xu) := row_cell (H32.out.is.2.2.2.2.2.2.1) (j := 14) rfl
 have cb : we.cell? ⟨bl4, 14, none⟩ = some (.string F1) := row_cell (H32.out.is.1) (j := 14) rfl
 rw [← HLSN.out] at o9 ht3
 go_wp2_with fail
 go_ret
 exact ⟨rfl, H32.out.is.2.2.2.2.2.2.2.1⟩
theorem hioth_any (s : ByteArray) (d : Int) (w : World) (hd : -9223372036854775808 ≤ d ∧ d ≤ 9223372036854775807) (kn v : Int) (hv : 0 ≤ v ∧ v < 18446744073709551616) :
 Calls Tryz.prog 6 #[.string s, .int .i64 d, .int .i64 kn, .int .u64 v] w fun e w' => e = .returned (.bool true) ∧ Below w.heap.size w w' := by
 by_cases h1 : 6000 < s.size
 · exact hioth_L1 s d w kn v h1
 by_cases h2 : kn < 1
 · exact hioth_L2 s d w kn v h1 h2
 by_cases h3 : 536870912 ≤ kn
 · exact hioth_L3 s d w kn v h1 h2 h3
 obtain ⟨kn', rfl⟩ := Int.eq_ofNat_of_zero_le (show 0 ≤ kn by omega)
 obtain ⟨v', rfl⟩ := Int.eq_ofNat_of_zero_le hv.1
 cases hx : hird s.data.toList d with
 | error c => exact hioth_A s d w hd kn' v' (by omega) (by omega) (by omega) (by omega) hx
 | ok x => exact hioth_C s d w hd kn' v' (by omega) (by omega) (by omega) (by omega) hx
end Go.Proofs.YtjbingoliffjiaaGreat
