/-
  hyglaw14.ExphOthers.
-/
import Derived.Test.YtficgfemmijaaaaXpSame
import Derived.Test.YtficgfemmijaaaaFirst14
import Derived.Deep.MidRow
set_option maxRecDepth 1000000
set_option maxHeartbeats 16000000
namespace Go.Proofs.Ytficgfemmijaaaa
open Go.RowKit
theorem xp_tko (r : Rec) (h : r.ty = 5 ∨ r.num = 536870911) : xrF.tk r = false := by
  rw [xrF_tk]
  exact decide_eq_false (by omega)
theorem xp_wt_of {x : Xp} (h : xp_fit x) : xp_wt x ≤ 1000000 := by
  obtain ⟨⟨l, ⟨a, ⟨t, ⟨k, ⟨⟨bp, vp⟩, ⟨sc, ⟨zc, ⟨⟨gp, pb, pu⟩, ⟨⟨gn, nb, nu⟩, ⟨f, ⟨es, ⟨⟨bm, vm⟩, ⟨⟨bg, vg⟩, th⟩⟩⟩⟩⟩⟩⟩⟩⟩⟩⟩⟩⟩, u⟩ := x
  obtain ⟨_, _, _, _, _, _, _, _, _, _, _, _, _, _, hw⟩ := h
  show 100 + (ksw l + 10 * pb.cs.length + pu.length + 10 * nb.cs.length + nu.length + lwt exSb es + u.length) ≤ _
  omega
theorem range_row {w : World} {g : Nat} {cs : List Value} {T : TypeId} {fr : Nat × Nat} (h : w.heap[g]? = some (.cells cs.toArray T fr)) : w.rangeAt g 0 cs := fun j v hj => by
  rw [Nat.zero_add]
  exact row_cell h (by simpa using hj)
theorem xpoth_L1 (s : ByteArray) (d : Int) (w : World) (kn v : Int) (h1 : 6000 < s.size) :
 Calls Try.prog 4 #[.string s, .int .i64 d, .int .i64 kn, .int .u64 v] w fun e w' => e = .returned (.bool true) ∧ Below w.heap.size w w' := by
 have q0 : decide ((s.size : Int) > 6000) = true := decide_eq_true (by omega)
 clear h1
 have hb : Below w.heap.size w w := Below.refl _ _
 have H1 := Lib.hid (Fx.nil w)
 have H2 := Lib.hid (H1.out.base (hb))
 clear H1
 clear hb
 go_enter Try.func4, Try.ntmps4
 go_wp2_with fail
 refine (first14 w).mono ?_; rintro e w1 ⟨rfl, hb⟩
 have H3 := Lib.hid (H2.out.below hb)
 clear hb H2
 go_wp2_with fail
 refine (first14 w1).mono ?_; rintro e w2 ⟨rfl, hb⟩
 have H4 := Lib.hid (H3.out.below hb)
 clear hb H3
 go_wp2_with fail
 go_ret
 exact ⟨rfl, H4.out.is.1⟩
theorem xpoth_L2 (s : ByteArray) (d : Int) (w : World) (kn v : Int) (h1 : ¬ 6000 < s.size) (h2 : kn < 1) :
 Calls Try.prog 4 #[.string s, .int .i64 d, .int .i64 kn, .int .u64 v] w fun e w' => e = .returned (.bool true) ∧ Below w.heap.size w w' := by
 have q0 : decide ((s.size : Int) > 6000) = false := decide_eq_false (by omega)
 have q1 : decide (kn < 1) = true := decide_eq_true h2
 clear h1 h2
 have hb : Below w.heap.size w w := Below.refl _ _
 have H1 := Lib.hid (Fx.nil w)
 have H2 := Lib.hid (H1.out.base (hb))
 clear H1
 clear hb
 go_enter Try.func4, Try.ntmps4
 go_wp2_with fail
 refine (first14 w).mono ?_; rintro e w1 ⟨rfl, hb⟩
 have H3 := Lib.hid (H2.out.below hb)
 clear hb H2
 go_wp2_with fail
 refine (first14 w1).mono ?_; rintro e w2 ⟨rfl, hb⟩
 have H4 := Lib.hid (H3.out.below hb)
 clear hb H3
 go_wp2_with fail
 go_ret
 exact ⟨rfl, H4.out.is.1⟩
theorem xpoth_L3 (s : ByteArray) (d : Int) (w : World) (kn v : Int) (h1 : ¬ 6000 < s.size) (h2 : ¬ kn < 1) (h3 : 536870912 ≤ kn) :
 Calls Try.prog 4 #[.string s, .int .i64 d, .int .i64 kn, .int .u64 v] w fun e w' => e = .returned (.bool true) ∧ Below w.heap.size w w' := by
 have q0 : decide ((s.size : Int) > 6000) = false := decide_eq_false (by omega)
 have q1 : decide (kn < 1) = false := decide_eq_false h2
 have q2 : decide (kn ≥ 536870912) = true := decide_eq_true (by omega)
 clear h1 h2 h3
 have hb : Below w.heap.size w w := Below.refl _ _
 have H1 := Lib.hid (Fx.nil w)
 have H2 := Lib.hid (H1.out.base (hb))
 clear H1
 clear hb
 go_enter Try.func4, Try.ntmps4
 go_wp2_with fail
 refine (first14 w).mono ?_; rintro e w1 ⟨rfl, hb⟩
 have H3 := Lib.hid (H2.out.below hb)
 clear hb H2
 go_wp2_with fail
 refine (first14 w1).mono ?_; rintro e w2 ⟨rfl, hb⟩
 have H4 := Lib.hid (H3.out.below hb)
 clear hb H3
 go_wp2_with fail
 go_ret
 exact ⟨rfl, H4.out.is.1⟩
theorem xpoth_A (s : ByteArray) (d : Int) (w : World) (hd : -9223372036854775808 ≤ d ∧ d ≤ 9223372036854775807) (kn v : Nat) (hs : s.size ≤ 6000) (hk1 : 1 ≤ kn) (hk2 : kn ≤ 536870911) (hv : v < 2 ^ 64) {c : Nat} (hx : xprd s.data.toList d = .error c) :
 Calls Try.prog 4 #[.string s, .int .i64 d, .int .i64 (kn : Int), .int .u64 (v : Int)] w fun e w' => e = .returned (.bool true) ∧ Below w.heap.size w w' := by
 have d1 : decide ((s.size : Int) > 6000) = false := decide_eq_false (by omega)
 have d2 : decide ((kn : Int) < 1) = false := decide_eq_false (by omega)
 have d3 : decide ((kn : Int) ≥ 536870912) = false := decide_eq_false (by omega)
 have hsl : s.data.toList.length = s.size := by simp
 obtain ⟨r4, L4, t4, TG, U, hT, hU, HUL, hTs, hUs, I4⟩ := oth_four kn hk1 hk2
 obtain ⟨r1, N1, L, hL, HLL, hLs, I1⟩ := oth_one v hv
 have hb4 : xrF.tk r4 = false := xp_tko r4 (.inl t4)
 have hb1 : xrF.tk r1 = false := xp_tko r1 (.inr N1)
 obtain ⟨sU, hsU⟩ : ∃ X : ByteArray, s ++ U = X := ⟨_, rfl⟩
 obtain ⟨Us, hUs'⟩ : ∃ X : ByteArray, U ++ s = X := ⟨_, rfl⟩
 obtain ⟨Lq, hLq⟩ : ∃ X : ByteArray, L ++ s = X := ⟨_, rfl⟩
 obtain ⟨LL, hLL⟩ : ∃ X : ByteArray, Lq ++ L = X := ⟨_, rfl⟩
 have hsUl : sU.data.toList = s.data.toList ++ r4.raw := by rw [← hsU, ← HUL]; simp [ByteArray.data_append]
 have hUsl : Us.data.toList = r4.raw ++ s.data.toList := by rw [← hUs', ← HUL]; simp [ByteArray.data_append]
 have hLLl : LL.data.toList = r1.raw ++ (s.data.toList ++ r1.raw) := by rw [← hLL, ← hLq, ← HLL]; simp [ByteArray.data_append]
 have z1 : sU.size ≤ 6020 := by rw [← hsU, ByteArray.size_append]; omega
 have z2 : Us.size ≤ 6020 := by rw [← hUs', ByteArray.size_append]; omega
 have z3 : Lq.size ≤ 6020 := by rw [← hLq, ByteArray.size_append]; omega
 have z4 : LL.size ≤ 6040 := by rw [← hLL, ByteArray.size_append]; omega
 have HS1 := Lib.hid (fun w' => xp_un s d w' (by omega) hd)
 have HS2 := Lib.hid (fun w' => xp_un sU d w' (by omega) hd)
 have HS3 := Lib.hid (fun w' => xp_un Us d w' (by omega) hd)
 have HS4 := Lib.hid (fun w' => xp_un LL d w' (by omega) hd)
 rw [hx] at HS1
 rw [hUsl] at HS3
 obtain ⟨c', hc'⟩ := fnl_before_no (N := xpN) r4 I4 hb4 hx
 rw [show xprd (r4.raw ++ s.data.toList) d = .error c' from hc'] at HS3
 clear hc'
 have o1 : ¬ 9223372036854775807 < TG.size + (ByteArray.mk #[97, 98, 99, 100]).size := by
  have : (ByteArray.mk #[97, 98, 99, 100]).size = 4 := rfl
  omega
 have o2 : ¬ 9223372036854775807 < s.size + U.size := by omega
 have o3 : ¬ 9223372036854775807 < U.size + s.size := by omega
 have o6 : ¬ 9223372036854775807 < L.size + s.size := by omega
 have o7 : ¬ 9223372036854775807 < Lq.size + L.size := by omega
 have HT := Lib.hid hT
 have HU := Lib.hid hU
 have HL := Lib.hid hL
 have HsU := Lib.hid hsU
 have HUs := Lib.hid hUs'
 have HLq := Lib.hid hLq
 have HLQL := Lib.hid hLL
 have HK1 := Lib.hid hk1
 have HK2 := Lib.hid hk2
 have HV := Lib.hid hv
 clear hd hk1 hk2 hv hx hsl hT hU hL HUL HLL hsU hUs' hLq hLL hsUl hUsl hLLl hb4 hb1 t4 N1 I4 I1
 have hb : Below w.heap.size w w := Below.refl _ _
 have H1 := Lib.hid (Fx.nil w)
 have H2 := Lib.hid (H1.out.base (hb))
 clear H1
 clear hb
 go_enter Try.func4, Try.ntmps4
 go_wp2_with fail
 refine (first14 w).mono ?_; rintro e w1 ⟨rfl, hb⟩
 have H3 := Lib.hid (H2.out.below hb)
 clear hb H2
 go_upto_region 5 with fail
 refine wp_region_lit ?_
 refine wpList_plain rfl (fun K hK => ?_); go_simp; refine hK _ _ ?_; clear hK K
 refine wpList_plain rfl (fun K hK => ?_); go_simp; refine hK _ _ ?_; clear hK K
 refine wpList_plain rfl (fun K hK => ?_); go_simp
 refine (HS1.out w1).mono ?_; rintro e w2 ⟨hb, v1, q1, rfl, _, hew⟩
 obtain ⟨T1, y1, rfl⟩ := hew.iface
 clear HS1
 unfold xpzero
 have H4 := Lib.hid (H3.out.below hb)
 clear hb H3
 clear hew
 obtain ⟨E1, hE⟩ : ∃ E, Value.agg #[.slice none 0 0, .int .u64 0, .int .u64 0, .int .u64 0, .bool false, .int .u64 0, .bool false, .int .u64 0, .bool false, .int .u64 0, .int .i32 0, .int .u64 0, .bool false, .int .i32 0, .slice none 0 0, .string ⟨#[]⟩, .bool false, .int .i32 0, .slice none 0 0, .string ⟨#[]⟩, .slice none 0 0, .int .u32 0, .int .u64 0, .string ⟨#[]⟩] = E := ⟨_, rfl⟩
 rw [hE]
 have HE1 := Lib.hid hE
 clear hE
 refine hK _ _ ?_; clear hK K
 refine wpList_plain rfl (fun K hK => ?_); go_simp; refine hK _ _ ?_; clear hK K
 refine wpList_plain rfl (fun K hK => ?_); go_simp; refine hK _ _ ?_; clear hK K
 refine wpList_plain rfl (fun K hK => ?_); go_simp; refine hK _ _ ?_; clear hK K
 refine wpList_plain rfl (fun K hK => ?_); go_simp; refine hK _ _ ?_; clear hK K
 have HZ := heap_alloc_new w2 (.cells #[.slice none 0 0, .int .u64 0, .int .u64 0, .int .u64 0, .bool false, .int .u64 0, .bool false, .int .u64 0, .bool false, .int .u64 0, .int .i32 0, .int .u64 0, .bool false, .int .i32 0, .slice none 0 0, .string ⟨#[]⟩, .bool false, .int .i32 0, .slice none 0 0, .string ⟨#[]⟩, .slice none 0 0, .int .u32 0, .int .u64 0, .string ⟨#[]⟩] 33)
 refine wpList_store_row rfl 33 (.tmp 9) (.tmp 37) rfl w2.heap.size #[.slice none 0 0, .int .u64 0, .int .u64 0, .int .u64 0, .bool false, .int .u64 0, .bool false, .int .u64 0, .bool false, .int .u64 0, .int .i32 0, .int .u64 0, .bool false, .int .i32 0, .slice none 0 0, .string ⟨#[]⟩, .bool false, .int .i32 0, .slice none 0 0, .string ⟨#[]⟩, .slice none 0 0, .int .u32 0, .int .u64 0, .string ⟨#[]⟩] rfl (by show E1 = _; exact HE1.out.symm) 33 _ HZ (by kernel_rfl) rfl (by simp [Value.oneCell']) ?_
 obtain ⟨bl1, hbl⟩ : ∃ b, w2.heap.size = b := ⟨_, rfl⟩
 obtain ⟨W3, hW⟩ : ∃ W, (w2.alloc (.cells #[.slice none 0 0, .int .u64 0, .int .u64 0, .int .u64 0, .bool false, .int .u64 0, .bool false, .int .u64 0, .bool false, .int .u64 0, .int .i32 0, .int .u64 0, .bool false, .int .i32 0, .slice none 0 0, .string ⟨#[]⟩, .bool false, .int .i32 0, .slice none 0 0, .string ⟨#[]⟩, .slice none 0 0, .int .u32 0, .int .u64 0, .string ⟨#[]⟩] 33)).setRow w2.heap.size #[.slice none 0 0, .int .u64 0, .int .u64 0, .int .u64 0, .bool false, .int .u64 0, .bool false, .int .u64 0, .bool false, .int .u64 0, .int .i32 0, .int .u64 0, .bool false, .int .i32 0, .slice none 0 0, .string ⟨#[]⟩, .bool false, .int .i32 0, .slice none 0 0, .string ⟨#[]⟩, .slice none 0 0, .int .u32 0, .int .u64 0, .string ⟨#[]⟩] = W := ⟨_, rfl⟩
 have hb : Below w2.heap.size w2 W3 := by rw [← hW]; exact below_setRow (below_new _ _) (Nat.le_refl _) _
 have hr : W3.heap[bl1]? = some (.cells #[.slice none 0 0, .int .u64 0, .int .u64 0, .int .u64 0, .bool false, .int .u64 0, .bool false, .int .u64 0, .bool false, .int .u64 0, .int .i32 0, .int .u64 0, .bool false, .int .i32 0, .slice none 0 0, .string ⟨#[]⟩, .bool false, .int .i32 0, .slice none 0 0, .string ⟨#[]⟩, .slice none 0 0, .int .u32 0, .int .u64 0, .string ⟨#[]⟩] 33 (0, 0)) := by rw [← hW, ← hbl]; exact setRow_heap _ _ _ _ _ _ HZ
 rw [hW, hbl]
 have HBL1 : Hid (w2.heap.size = bl1) := Lib.hid hbl
 have HZB1 : Hid (w.heap.size ≤ bl1) := Lib.hid (by have := (H4.out.is.1).size; omega)
 clear hW hbl HZ
 have H5 := Lib.hid (H4.out.below hb)
 clear hb H4
 have H6 := Lib.hid (H5.out.row (hr))
 clear H5
 clear hr
 have HLT1 : Hid (bl1 < W3.heap.size) := Lib.hid (row_lt (H6.out.is.1))
 go_upto_region 6 with fail
 go_wp2_with fail
 refine (tag_any (kn : Int) 5 W3 (by have := HK1.out; omega) (by have := HK2.out; omega) (by omega) (by omega)).mono ?_; rintro e w4 ⟨rfl, hb⟩
 rw [HT.out]
 have H7 := Lib.hid (H6.out.below hb)
 clear hb H6
 go_upto_region 7 with fail
 rw [HU.out]
 refine wp_region_lit ?_
 refine wpList_plain rfl (fun K hK => ?_); go_simp; refine hK _ _ ?_; clear hK K
 refine wpList_plain rfl (fun K hK => ?_); go_simp; refine hK _ _ ?_; clear hK K
 refine wpList_plain rfl (fun K hK => ?_); go_simp; refine hK _ _ ?_; clear hK K
 refine wpList_plain rfl (fun K hK => ?_); go_simp; refine hK _ _ ?_; clear hK K
 refine wpList_plain rfl (fun K hK => ?_); go_simp
 rw [HsU.out]
 refine (HS2.out w4).mono ?_; intro e w5 hpost
 obtain ⟨hb, lo2, llo2, lc2, ja2, jt2, jk2, jbp2, jvp2, jbm2, jvm2, jbg2, jvg2, jsc2, jzc2, jgp2, jop2, po2, llp2, pc2, Xpu2, jgn2, jon2, no2, lln2, nc2, Xnu2, eo2, lle2, ec2, jf2, jth2, Xu2, v2, rfl⟩ := xp_form hpost
 clear hpost HS2
 have H8 := Lib.hid (H7.out.below hb)
 clear hb H7
 obtain ⟨E2, hE⟩ : ∃ E, Value.agg #[.slice lo2 llo2 lc2, .int .u64 ja2, .int .u64 jt2, .int .u64 jk2, .bool jbp2, .int .u64 jvp2, .bool jbm2, .int .u64 jvm2, .bool jbg2, .int .u64 jvg2, .int .i32 jsc2, .int .u64 jzc2, .bool jgp2, .int .i32 jop2, .slice po2 llp2 pc2, .string Xpu2, .bool jgn2, .int .i32 jon2, .slice no2 lln2 nc2, .string Xnu2, .slice eo2 lle2 ec2, .int .u32 jf2, .int .u64 jth2, .string Xu2] = E := ⟨_, rfl⟩
 rw [hE]
 have HE2 := Lib.hid hE
 clear hE
 refine hK _ _ ?_; clear hK K
 refine wpList_plain rfl (fun K hK => ?_); go_simp; refine hK _ _ ?_; clear hK K
 refine wpList_plain rfl (fun K hK => ?_); go_simp; refine hK _ _ ?_; clear hK K
 refine wpList_plain rfl (fun K hK => ?_); go_simp; refine hK _ _ ?_; clear hK K
 refine wpList_plain rfl (fun K hK => ?_); go_simp; refine hK _ _ ?_; clear hK K
 have HZ := heap_alloc_new w5 (.cells #[.slice none 0 0, .int .u64 0, .int .u64 0, .int .u64 0, .bool false, .int .u64 0, .bool false, .int .u64 0, .bool false, .int .u64 0, .int .i32 0, .int .u64 0, .bool false, .int .i32 0, .slice none 0 0, .string ⟨#[]⟩, .bool false, .int .i32 0, .slice none 0 0, .string ⟨#[]⟩, .slice none 0 0, .int .u32 0, .int .u64 0, .string ⟨#[]⟩] 33)
 refine wpList_store_row rfl 33 (.tmp 12) (.tmp 48) rfl w5.heap.size #[.slice lo2 llo2 lc2, .int .u64 ja2, .int .u64 jt2, .int .u64 jk2, .bool jbp2, .int .u64 jvp2, .bool jbm2, .int .u64 jvm2, .bool jbg2, .int .u64 jvg2, .int .i32 jsc2, .int .u64 jzc2, .bool jgp2, .int .i32 jop2, .slice po2 llp2 pc2, .string Xpu2, .bool jgn2, .int .i32 jon2, .slice no2 lln2 nc2, .string Xnu2, .slice eo2 lle2 ec2, .int .u32 jf2, .int .u64 jth2, .string Xu2] rfl (by show E2 = _; exact HE2.out.symm) 33 _ HZ (by kernel_rfl) rfl (by simp [Value.oneCell']) ?_
 obtain ⟨bl2, hbl⟩ : ∃ b, w5.heap.size = b := ⟨_, rfl⟩
 obtain ⟨W6, hW⟩ : ∃ W, (w5.alloc (.cells #[.slice none 0 0, .int .u64 0, .int .u64 0, .int .u64 0, .bool false, .int .u64 0, .bool false, .int .u64 0, .bool false, .int .u64 0, .int .i32 0, .int .u64 0, .bool false, .int .i32 0, .slice none 0 0, .string ⟨#[]⟩, .bool false, .int .i32 0, .slice none 0 0, .string ⟨#[]⟩, .slice none 0 0, .int .u32 0, .int .u64 0, .string ⟨#[]⟩] 33)).setRow w5.heap.size #[.slice lo2 llo2 lc2, .int .u64 ja2, .int .u64 jt2, .int .u64 jk2, .bool jbp2, .int .u64 jvp2, .bool jbm2, .int .u64 jvm2, .bool jbg2, .int .u64 jvg2, .int .i32 jsc2, .int .u64 jzc2, .bool jgp2, .int .i32 jop2, .slice po2 llp2 pc2, .string Xpu2, .bool jgn2, .int .i32 jon2, .slice no2 lln2 nc2, .string Xnu2, .slice eo2 lle2 ec2, .int .u32 jf2, .int .u64 jth2, .string Xu2] = W := ⟨_, rfl⟩
 have hb : Below w5.heap.size w5 W6 := by rw [← hW]; exact below_setRow (below_new _ _) (Nat.le_refl _) _
 have hr : W6.heap[bl2]? = some (.cells #[.slice lo2 llo2 lc2, .int .u64 ja2, .int .u64 jt2, .int .u64 jk2, .bool jbp2, .int .u64 jvp2, .bool jbm2, .int .u64 jvm2, .bool jbg2, .int .u64 jvg2, .int .i32 jsc2, .int .u64 jzc2, .bool jgp2, .int .i32 jop2, .slice po2 llp2 pc2, .string Xpu2, .bool jgn2, .int .i32 jon2, .slice no2 lln2 nc2, .string Xnu2, .slice eo2 lle2 ec2, .int .u32 jf2, .int .u64 jth2, .string Xu2] 33 (0, 0)) := by rw [← hW, ← hbl]; exact setRow_heap _ _ _ _ _ _ HZ
 rw [hW, hbl]
 have HBL2 : Hid (w5.heap.size = bl2) := Lib.hid hbl
 have HZB2 : Hid (w.heap.size ≤ bl2) := Lib.hid (by have := (H8.out.is.2.1).size; omega)
 clear hW hbl HZ
 have HNE2 : Hid (bl1 < bl2) := Lib.hid (by have := row_lt (H8.out.is.1); have := HBL2.out; omega)
 have H9 := Lib.hid (H8.out.below hb)
 clear hb H8
 have H10 := Lib.hid (H9.out.row (hr))
 clear H9
 clear hr
 have HLT2 : Hid (bl2 < W6.heap.size) := Lib.hid (row_lt (H10.out.is.1))
 go_upto_region 8 with fail
 refine wp_region_lit ?_
 refine wpList_plain rfl (fun K hK => ?_); go_simp; refine hK _ _ ?_; clear hK K
 refine wpList_plain rfl (fun K hK => ?_); go_simp; refine hK _ _ ?_; clear hK K
 refine wpList_plain rfl (fun K hK => ?_); go_simp; refine hK _ _ ?_; clear hK K
 refine wpList_plain rfl (fun K hK => ?_); go_simp; refine hK _ _ ?_; clear hK K
 refine wpList_plain rfl (fun K hK => ?_); go_simp
 rw [HUs.out]
 refine (HS3.out W6).mono ?_; rintro e w7 ⟨hb, v3, q3, rfl, _, hew⟩
 obtain ⟨T3, y3, rfl⟩ := hew.iface
 clear HS3
 unfold xpzero
 have H11 := Lib.hid (H10.out.below hb)
 clear hb H10
 clear hew
 obtain ⟨E3, hE⟩ : ∃ E, Value.agg #[.slice none 0 0, .int .u64 0, .int .u64 0, .int .u64 0, .bool false, .int .u64 0, .bool false, .int .u64 0, .bool false, .int .u64 0, .int .i32 0, .int .u64 0, .bool false, .int .i32 0, .slice none 0 0, .string ⟨#[]⟩, .bool false, .int .i32 0, .slice none 0 0, .string ⟨#[]⟩, .slice none 0 0, .int .u32 0, .int .u64 0, .string ⟨#[]⟩] = E := ⟨_, rfl⟩
 rw [hE]
 have HE3 := Lib.hid hE
 clear hE
 refine hK _ _ ?_; clear hK K
 refine wpList_plain rfl (fun K hK => ?_); go_simp; refine hK _ _ ?_; clear hK K
 refine wpList_plain rfl (fun K hK => ?_); go_simp; refine hK _ _ ?_; clear hK K
 refine wpList_plain rfl (fun K hK => ?_); go_simp; refine hK _ _ ?_; clear hK K
 refine wpList_plain rfl (fun K hK => ?_); go_simp; refine hK _ _ ?_; clear hK K
 have HZ := heap_alloc_new w7 (.cells #[.slice none 0 0, .int .u64 0, .int .u64 0, .int .u64 0, .bool false, .int .u64 0, .bool false, .int .u64 0, .bool false, .int .u64 0, .int .i32 0, .int .u64 0, .bool false, .int .i32 0, .slice none 0 0, .string ⟨#[]⟩, .bool false, .int .i32 0, .slice none 0 0, .string ⟨#[]⟩, .slice none 0 0, .int .u32 0, .int .u64 0, .string ⟨#[]⟩] 33)
 refine wpList_store_row rfl 33 (.tmp 14) (.tmp 56) rfl w7.heap.size #[.slice none 0 0, .int .u64 0, .int .u64 0, .int .u64 0, .bool false, .int .u64 0, .bool false, .int .u64 0, .bool false, .int .u64 0, .int .i32 0, .int .u64 0, .bool false, .int .i32 0, .slice none 0 0, .string ⟨#[]⟩, .bool false, .int .i32 0, .slice none 0 0, .string ⟨#[]⟩, .slice none 0 0, .int .u32 0, .int .u64 0, .string ⟨#[]⟩] rfl (by show E3 = _; exact HE3.out.symm) 33 _ HZ (by kernel_rfl) rfl (by simp [Value.oneCell']) ?_
 obtain ⟨bl3, hbl⟩ : ∃ b, w7.heap.size = b := ⟨_, rfl⟩
 obtain ⟨W8, hW⟩ : ∃ W, (w7.alloc (.cells #[.slice none 0 0, .int .u64 0, .int .u64 0, .int .u64 0, .bool false, .int .u64 0, .bool false, .int .u64 0, .bool false, .int .u64 0, .int .i32 0, .int .u64 0, .bool false, .int .i32 0, .slice none 0 0, .string ⟨#[]⟩, .bool false, .int .i32 0, .slice none 0 0, .string ⟨#[]⟩, .slice none 0 0, .int .u32 0, .int .u64 0, .string ⟨#[]⟩] 33)).setRow w7.heap.size #[.slice none 0 0, .int .u64 0, .int .u64 0, .int .u64 0, .bool false, .int .u64 0, .bool false, .int .u64 0, .bool false, .int .u64 0, .int .i32 0, .int .u64 0, .bool false, .int .i32 0, .slice none 0 0, .string ⟨#[]⟩, .bool false, .int .i32 0, .slice none 0 0, .string ⟨#[]⟩, .slice none 0 0, .int .u32 0, .int .u64 0, .string ⟨#[]⟩] = W := ⟨_, rfl⟩
 have hb : Below w7.heap.size w7 W8 := by rw [← hW]; exact below_setRow (below_new _ _) (Nat.le_refl _) _
 have hr : W8.heap[bl3]? = some (.cells #[.slice none 0 0, .int .u64 0, .int .u64 0, .int .u64 0, .bool false, .int .u64 0, .bool false, .int .u64 0, .bool false, .int .u64 0, .int .i32 0, .int .u64 0, .bool false, .int .i32 0, .slice none 0 0, .string ⟨#[]⟩, .bool false, .int .i32 0, .slice none 0 0, .string ⟨#[]⟩, .slice none 0 0, .int .u32 0, .int .u64 0, .string ⟨#[]⟩] 33 (0, 0)) := by rw [← hW, ← hbl]; exact setRow_heap _ _ _ _ _ _ HZ
 rw [hW, hbl]
 have HBL3 : Hid (w7.heap.size = bl3) := Lib.hid hbl
 have HZB3 : Hid (w.heap.size ≤ bl3) := Lib.hid (by have := (H11.out.is.2.2.1).size; omega)
 clear hW hbl HZ
 have HNE3 : Hid (bl2 < bl3) := Lib.hid (by have := row_lt (H11.out.is.1); have := HBL3.out; omega)
 have H12 := Lib.hid (H11.out.below hb)
 clear hb H11
 have H13 := Lib.hid (H12.out.row (hr))
 clear H12
 clear hr
 go_wp2_with fail
 refine (first14 W8).mono ?_; rintro e w9 ⟨rfl, hb⟩
 have H14 := Lib.hid (H13.out.below hb)
 clear hb H13
 go_wp2_with fail
 go_ret
 exact ⟨rfl, H14.out.is.2.2.2.1⟩
theorem xpoth_C (s : ByteArray) (d : Int) (w : World) (hd : -9223372036854775808 ≤ d ∧ d ≤ 9223372036854775807) (kn v : Nat) (hs : s.size ≤ 6000) (hk1 : 1 ≤ kn) (hk2 : kn ≤ 536870911) (hv : v < 2 ^ 64) {x : Xp} (hx : xprd s.data.toList d = .ok x) :
 Calls Try.prog 4 #[.string s, .int .i64 d, .int .i64 (kn : Int), .int .u64 (v : Int)] w fun e w' => e = .returned (.bool true) ∧ Below w.heap.size w w' := by
 have d1 : decide ((s.size : Int) > 6000) = false := decide_eq_false (by omega)
 have d2 : decide ((kn : Int) < 1) = false := decide_eq_false (by omega)
 have d3 : decide ((kn : Int) ≥ 536870912) = false := decide_eq_false (by omega)
 have hsl : s.data.toList.length = s.size := by simp
 obtain ⟨r4, L4, t4, TG, U, hT, hU, HUL, hTs, hUs, I4⟩ := oth_four kn hk1 hk2
 obtain ⟨r1, N1, L, hL, HLL, hLs, I1⟩ := oth_one v hv
 have hb4 : xrF.tk r4 = false := xp_tko r4 (.inl t4)
 have hb1 : xrF.tk r1 = false := xp_tko r1 (.inr N1)
 obtain ⟨sU, hsU⟩ : ∃ X : ByteArray, s ++ U = X := ⟨_, rfl⟩
 obtain ⟨Us, hUs'⟩ : ∃ X : ByteArray, U ++ s = X := ⟨_, rfl⟩
 obtain ⟨Lq, hLq⟩ : ∃ X : ByteArray, L ++ s = X := ⟨_, rfl⟩
 obtain ⟨LL, hLL⟩ : ∃ X : ByteArray, Lq ++ L = X := ⟨_, rfl⟩
 have hsUl : sU.data.toList = s.data.toList ++ r4.raw := by rw [← hsU, ← HUL]; simp [ByteArray.data_append]
 have hUsl : Us.data.toList = r4.raw ++ s.data.toList := by rw [← hUs', ← HUL]; simp [ByteArray.data_append]
 have hLLl : LL.data.toList = r1.raw ++ (s.data.toList ++ r1.raw) := by rw [← hLL, ← hLq, ← HLL]; simp [ByteArray.data_append]
 have z1 : sU.size ≤ 6020 := by rw [← hsU, ByteArray.size_append]; omega
 have z2 : Us.size ≤ 6020 := by rw [← hUs', ByteArray.size_append]; omega
 have z3 : Lq.size ≤ 6020 := by rw [← hLq, ByteArray.size_append]; omega
 have z4 : LL.size ≤ 6040 := by rw [← hLL, ByteArray.size_append]; omega
 have HS1 := Lib.hid (fun w' => xp_un s d w' (by omega) hd)
 have HS2 := Lib.hid (fun w' => xp_un sU d w' (by omega) hd)
 have HS3 := Lib.hid (fun w' => xp_un Us d w' (by omega) hd)
 have HS4 := Lib.hid (fun w' => xp_un LL d w' (by omega) hd)
 rw [hx] at HS1
 rw [hUsl] at HS3
 obtain ⟨⟨l, ⟨a, ⟨t, ⟨k, ⟨⟨bp, vp⟩, ⟨sc, ⟨zc, ⟨⟨gp, pb, pu⟩, ⟨⟨gn, nb, nu⟩, ⟨f, ⟨es, ⟨⟨bm, vm⟩, ⟨⟨bg, vg⟩, th⟩⟩⟩⟩⟩⟩⟩⟩⟩⟩⟩⟩⟩, u⟩ := x
 rw [hsUl, show xprd (s.data.toList ++ r4.raw) d = .ok ((l, (a, (t, (k, ((bp, vp), (sc, (zc, ((gp, pb, pu), ((gn, nb, nu), (f, (es, ((bm, vm), ((bg, vg), th))))))))))))), u ++ r4.raw) from fnl_behind (N := xpN) r4 I4 hb4 hx] at HS2
 rw [show xprd (r4.raw ++ s.data.toList) d = .ok ((l, (a, (t, (k, ((bp, vp), (sc, (zc, ((gp, pb, pu), ((gn, nb, nu), (f, (es, ((bm, vm), ((bg, vg), th))))))))))))), r4.raw ++ u) from fnl_before (N := xpN) r4 I4 hb4 hx] at HS3
 rw [hLLl, show xprd (r1.raw ++ (s.data.toList ++ r1.raw)) d = .ok ((l, (a, (t, (k, ((bp, vp), (sc, (zc, ((gp, pb, pu), ((gn, nb, nu), (f, (es, ((bm, vm), ((bg, vg), th))))))))))))), r1.raw ++ (u ++ r1.raw)) from fnl_before (N := xpN) r1 I1 hb1 (fnl_behind (N := xpN) r1 I1 hb1 hx)] at HS4
 obtain ⟨T1, hT1⟩ : ∃ X : ByteArray, (⟨(u ++ r4.raw).toArray⟩ : ByteArray) = X := ⟨_, rfl⟩
 obtain ⟨V1, hV1⟩ : ∃ X : ByteArray, (⟨(r4.raw ++ u).toArray⟩ : ByteArray) = X := ⟨_, rfl⟩
 obtain ⟨F1, hF1⟩ : ∃ X : ByteArray, (⟨(r1.raw ++ (u ++ r1.raw)).toArray⟩ : ByteArray) = X := ⟨_, rfl⟩
 obtain ⟨Xpu, epu⟩ : ∃ X : ByteArray, (⟨pu.toArray⟩ : ByteArray) = X := ⟨_, rfl⟩
 have HNpu := Lib.hid epu
 clear epu
 obtain ⟨Xnu, enu⟩ : ∃ X : ByteArray, (⟨nu.toArray⟩ : ByteArray) = X := ⟨_, rfl⟩
 have HNnu := Lib.hid enu
 clear enu
 obtain ⟨Xu, eu⟩ : ∃ X : ByteArray, (⟨u.toArray⟩ : ByteArray) = X := ⟨_, rfl⟩
 have HNu := Lib.hid eu
 clear eu
 obtain ⟨LS, hLS⟩ : ∃ X : ByteArray, L ++ Xu = X := ⟨_, rfl⟩
 have hSs : Xu.size ≤ 6000 := by
  have h1 := xprd_unk hx
  have : Xu.size = u.length := by rw [← HNu.out]; simp [ByteArray.size]
  omega
 have hLSs : LS.size ≤ 6020 := by rw [← hLS, ByteArray.size_append]; omega
 have e1 : T1 = Xu ++ U := by rw [← hT1, ← HNu.out]; exact ByteArray.ext (Array.ext' (by simp [HUL]))
 have e2 : V1 = U ++ Xu := by rw [← hV1, ← HNu.out]; exact ByteArray.ext (Array.ext' (by simp [HUL]))
 have e3 : F1 = LS ++ L := by rw [← hF1, ← hLS, ← HNu.out]; exact ByteArray.ext (Array.ext' (by simp [HLL]))
 have ht1 : (T1.toList == (Xu ++ U).toList) = true := by rw [e1]; simp
 have ht2 : (V1.toList == (U ++ Xu).toList) = true := by rw [e2]; simp
 have ht3 : (F1.toList == (LS ++ L).toList) = true := by rw [e3]; simp
 have o4 : ¬ 9223372036854775807 < Xu.size + U.size := by omega
 have o5 : ¬ 9223372036854775807 < U.size + Xu.size := by omega
 have o8 : ¬ 9223372036854775807 < L.size + Xu.size := by omega
 have o9 : ¬ 9223372036854775807 < LS.size + L.size := by omega
 obtain ⟨hmay, hfit⟩ := xp_twice (by omega) hx
 have HARG := Lib.hid (xp_arg_of hfit)
 have HWT := Lib.hid (xp_wt_of hfit)
 have HTN := Lib.hid hT1
 have HVN := Lib.hid hV1
 have HFN := Lib.hid hF1
 have HLSN := Lib.hid hLS
 clear hmay hfit e1 e2 e3 hT1 hV1 hF1 hLS
 have o1 : ¬ 9223372036854775807 < TG.size + (ByteArray.mk #[97, 98, 99, 100]).size := by
  have : (ByteArray.mk #[97, 98, 99, 100]).size = 4 := rfl
  omega
 have o2 : ¬ 9223372036854775807 < s.size + U.size := by omega
 have o3 : ¬ 9223372036854775807 < U.size + s.size := by omega
 have o6 : ¬ 9223372036854775807 < L.size + s.size := by omega
 have o7 : ¬ 9223372036854775807 < Lq.size + L.size := by omega
 have HT := Lib.hid hT
 have HU := Lib.hid hU
 have HL := Lib.hid hL
 have HsU := Lib.hid hsU
 have HUs := Lib.hid hUs'
 have HLq := Lib.hid hLq
 have HLQL := Lib.hid hLL
 have HK1 := Lib.hid hk1
 have HK2 := Lib.hid hk2
 have HV := Lib.hid hv
 clear hd hk1 hk2 hv hx hsl hT hU hL HUL HLL hsU hUs' hLq hLL hsUl hUsl hLLl hb4 hb1 t4 N1 I4 I1
 have hb : Below w.heap.size w w := Below.refl _ _
 have H1 := Lib.hid (Fx.nil w)
 have H2 := Lib.hid (H1.out.base (hb))
 clear H1
 clear hb
 go_enter Try.func4, Try.ntmps4
 go_wp2_with fail
 refine (first14 w).mono ?_; rintro e w1 ⟨rfl, hb⟩
 have H3 := Lib.hid (H2.out.below hb)
 clear hb H2
 go_upto_region 5 with fail
 refine wp_region_lit ?_
 refine wpList_plain rfl (fun K hK => ?_); go_simp; refine hK _ _ ?_; clear hK K
 refine wpList_plain rfl (fun K hK => ?_); go_simp; refine hK _ _ ?_; clear hK K
 refine wpList_plain rfl (fun K hK => ?_); go_simp
 refine (HS1.out w1).mono ?_; rintro e w2 ⟨hb, cs, rfl, hrel⟩
 clear HS1
 have hrel := xpCel.lt hrel
 have hr2 := hrel
 obtain ⟨lo1, lc1, po1, pc1, no1, nc1, eo1, ec1, rfl, _, _, _, _⟩ := hr2
 dsimp only [strV]
 rw [HNu.out, HNpu.out, HNnu.out]
 have H4 := Lib.hid (H3.out.below hb)
 clear hb H3
 have H5 := Lib.hid (H4.out.cel (hrel))
 clear H4
 clear hrel
 obtain ⟨E1, hE⟩ : ∃ E, Value.agg #[.slice lo1 l.length lc1, .int .u64 (a : Int), .int .u64 (t : Int), .int .u64 (k : Int), .bool bp, .int .u64 (vp : Int), .bool bm, .int .u64 (vm : Int), .bool bg, .int .u64 (vg : Int), .int .i32 sc, .int .u64 (zc : Int), .bool gp, .int .i32 pb.off, .slice po1 pb.cs.length pc1, .string Xpu, .bool gn, .int .i32 nb.off, .slice no1 nb.cs.length nc1, .string Xnu, .slice eo1 es.length ec1, .int .u32 (f : Int), .int .u64 (th : Int), .string Xu] = E := ⟨_, rfl⟩
 rw [hE]
 have HE1 := Lib.hid hE
 clear hE
 refine hK _ _ ?_; clear hK K
 refine wpList_plain rfl (fun K hK => ?_); go_simp; refine hK _ _ ?_; clear hK K
 refine wpList_plain rfl (fun K hK => ?_); go_simp; refine hK _ _ ?_; clear hK K
 refine wpList_plain rfl (fun K hK => ?_); go_simp; refine hK _ _ ?_; clear hK K
 refine wpList_plain rfl (fun K hK => ?_); go_simp; refine hK _ _ ?_; clear hK K
 have HZ := heap_alloc_new w2 (.cells #[.slice none 0 0, .int .u64 0, .int .u64 0, .int .u64 0, .bool false, .int .u64 0, .bool false, .int .u64 0, .bool false, .int .u64 0, .int .i32 0, .int .u64 0, .bool false, .int .i32 0, .slice none 0 0, .string ⟨#[]⟩, .bool false, .int .i32 0, .slice none 0 0, .string ⟨#[]⟩, .slice none 0 0, .int .u32 0, .int .u64 0, .string ⟨#[]⟩] 33)
 refine wpList_store_row rfl 33 (.tmp 9) (.tmp 37) rfl w2.heap.size #[.slice lo1 l.length lc1, .int .u64 (a : Int), .int .u64 (t : Int), .int .u64 (k : Int), .bool bp, .int .u64 (vp : Int), .bool bm, .int .u64 (vm : Int), .bool bg, .int .u64 (vg : Int), .int .i32 sc, .int .u64 (zc : Int), .bool gp, .int .i32 pb.off, .slice po1 pb.cs.length pc1, .string Xpu, .bool gn, .int .i32 nb.off, .slice no1 nb.cs.length nc1, .string Xnu, .slice eo1 es.length ec1, .int .u32 (f : Int), .int .u64 (th : Int), .string Xu] rfl (by show E1 = _; exact HE1.out.symm) 33 _ HZ (by kernel_rfl) rfl (by simp [Value.oneCell']) ?_
 obtain ⟨bl1, hbl⟩ : ∃ b, w2.heap.size = b := ⟨_, rfl⟩
 obtain ⟨W3, hW⟩ : ∃ W, (w2.alloc (.cells #[.slice none 0 0, .int .u64 0, .int .u64 0, .int .u64 0, .bool false, .int .u64 0, .bool false, .int .u64 0, .bool false, .int .u64 0, .int .i32 0, .int .u64 0, .bool false, .int .i32 0, .slice none 0 0, .string ⟨#[]⟩, .bool false, .int .i32 0, .slice none 0 0, .string ⟨#[]⟩, .slice none 0 0, .int .u32 0, .int .u64 0, .string ⟨#[]⟩] 33)).setRow w2.heap.size #[.slice lo1 l.length lc1, .int .u64 (a : Int), .int .u64 (t : Int), .int .u64 (k : Int), .bool bp, .int .u64 (vp : Int), .bool bm, .int .u64 (vm : Int), .bool bg, .int .u64 (vg : Int), .int .i32 sc, .int .u64 (zc : Int), .bool gp, .int .i32 pb.off, .slice po1 pb.cs.length pc1, .string Xpu, .bool gn, .int .i32 nb.off, .slice no1 nb.cs.length nc1, .string Xnu, .slice eo1 es.length ec1, .int .u32 (f : Int), .int .u64 (th : Int), .string Xu] = W := ⟨_, rfl⟩
 have hb : Below w2.heap.size w2 W3 := by rw [← hW]; exact below_setRow (below_new _ _) (Nat.le_refl _) _
 have hr : W3.heap[bl1]? = some (.cells #[.slice lo1 l.length lc1, .int .u64 (a : Int), .int .u64 (t : Int), .int .u64 (k : Int), .bool bp, .int .u64 (vp : Int), .bool bm, .int .u64 (vm : Int), .bool bg, .int .u64 (vg : Int), .int .i32 sc, .int .u64 (zc : Int), .bool gp, .int .i32 pb.off, .slice po1 pb.cs.length pc1, .string Xpu, .bool gn, .int .i32 nb.off, .slice no1 nb.cs.length nc1, .string Xnu, .slice eo1 es.length ec1, .int .u32 (f : Int), .int .u64 (th : Int), .string Xu] 33 (0, 0)) := by rw [← hW, ← hbl]; exact setRow_heap _ _ _ _ _ _ HZ
 rw [hW, hbl]
 have HBL1 : Hid (w2.heap.size = bl1) := Lib.hid hbl
 have HZB1 : Hid (w.heap.size ≤ bl1) := Lib.hid (by have := (H5.out.is.2.1).size; omega)
 clear hW hbl HZ
 have H6 := Lib.hid (H5.out.below hb)
 clear hb H5
 have H7 := Lib.hid (H6.out.row (hr))
 clear H6
 clear hr
 have HLT1 : Hid (bl1 < W3.heap.size) := Lib.hid (row_lt (H7.out.is.1))
 go_upto_region 6 with fail
 go_wp2_with fail
 refine (tag_any (kn : Int) 5 W3 (by have := HK1.out; omega) (by have := HK2.out; omega) (by omega) (by omega)).mono ?_; rintro e w4 ⟨rfl, hb⟩
 rw [HT.out]
 have H8 := Lib.hid (H7.out.below hb)
 clear hb H7
 go_upto_region 7 with fail
 rw [HU.out]
 refine wp_region_lit ?_
 refine wpList_plain rfl (fun K hK => ?_); go_simp; refine hK _ _ ?_; clear hK K
 refine wpList_plain rfl (fun K hK => ?_); go_simp; refine hK _ _ ?_; clear hK K
 refine wpList_plain rfl (fun K hK => ?_); go_simp; refine hK _ _ ?_; clear hK K
 refine wpList_plain rfl (fun K hK => ?_); go_simp; refine hK _ _ ?_; clear hK K
 refine wpList_plain rfl (fun K hK => ?_); go_simp
 rw [HsU.out]
 refine (HS2.out w4).mono ?_; rintro e w5 ⟨hb, cs, rfl, hrel⟩
 clear HS2
 have hrel := xpCel.lt hrel
 have hr2 := hrel
 obtain ⟨lo2, lc2, po2, pc2, no2, nc2, eo2, ec2, rfl, _, _, _, _⟩ := hr2
 dsimp only [strV]
 rw [HTN.out, HNpu.out, HNnu.out]
 have H9 := Lib.hid (H8.out.below hb)
 clear hb H8
 have H10 := Lib.hid (H9.out.cel (hrel))
 clear H9
 clear hrel
 obtain ⟨E2, hE⟩ : ∃ E, Value.agg #[.slice lo2 l.length lc2, .int .u64 (a : Int), .int .u64 (t : Int), .int .u64 (k : Int), .bool bp, .int .u64 (vp : Int), .bool bm, .int .u64 (vm : Int), .bool bg, .int .u64 (vg : Int), .int .i32 sc, .int .u64 (zc : Int), .bool gp, .int .i32 pb.off, .slice po2 pb.cs.length pc2, .string Xpu, .bool gn, .int .i32 nb.off, .slice no2 nb.cs.length nc2, .string Xnu, .slice eo2 es.length ec2, .int .u32 (f : Int), .int .u64 (th : Int), .string T1] = E := ⟨_, rfl⟩
 rw [hE]
 have HE2 := Lib.hid hE
 clear hE
 refine hK _ _ ?_; clear hK K
 refine wpList_plain rfl (fun K hK => ?_); go_simp; refine hK _ _ ?_; clear hK K
 refine wpList_plain rfl (fun K hK => ?_); go_simp; refine hK _ _ ?_; clear hK K
 refine wpList_plain rfl (fun K hK => ?_); go_simp; refine hK _ _ ?_; clear hK K
 refine wpList_plain rfl (fun K hK => ?_); go_simp; refine hK _ _ ?_; clear hK K
 have HZ := heap_alloc_new w5 (.cells #[.slice none 0 0, .int .u64 0, .int .u64 0, .int .u64 0, .bool false, .int .u64 0, .bool false, .int .u64 0, .bool false, .int .u64 0, .int .i32 0, .int .u64 0, .bool false, .int .i32 0, .slice none 0 0, .string ⟨#[]⟩, .bool false, .int .i32 0, .slice none 0 0, .string ⟨#[]⟩, .slice none 0 0, .int .u32 0, .int .u64 0, .string ⟨#[]⟩] 33)
 refine wpList_store_row rfl 33 (.tmp 12) (.tmp 48) rfl w5.heap.size #[.slice lo2 l.length lc2, .int .u64 (a : Int), .int .u64 (t : Int), .int .u64 (k : Int), .bool bp, .int .u64 (vp : Int), .bool bm, .int .u64 (vm : Int), .bool bg, .int .u64 (vg : Int), .int .i32 sc, .int .u64 (zc : Int), .bool gp, .int .i32 pb.off, .slice po2 pb.cs.length pc2, .string Xpu, .bool gn, .int .i32 nb.off, .slice no2 nb.cs.length nc2, .string Xnu, .slice eo2 es.length ec2, .int .u32 (f : Int), .int .u64 (th : Int), .string T1] rfl (by show E2 = _; exact HE2.out.symm) 33 _ HZ (by kernel_rfl) rfl (by simp [Value.oneCell']) ?_
 obtain ⟨bl2, hbl⟩ : ∃ b, w5.heap.size = b := ⟨_, rfl⟩
 obtain ⟨W6, hW⟩ : ∃ W, (w5.alloc (.cells #[.slice none 0 0, .int .u64 0, .int .u64 0, .int .u64 0, .bool false, .int .u64 0, .bool false, .int .u64 0, .bool false, .int .u64 0, .int .i32 0, .int .u64 0, .bool false, .int .i32 0, .slice none 0 0, .string ⟨#[]⟩, .bool false, .int .i32 0, .slice none 0 0, .string ⟨#[]⟩, .slice none 0 0, .int .u32 0, .int .u64 0, .string ⟨#[]⟩] 33)).setRow w5.heap.size #[.slice lo2 l.length lc2, .int .u64 (a : Int), .int .u64 (t : Int), .int .u64 (k : Int), .bool bp, .int .u64 (vp : Int), .bool bm, .int .u64 (vm : Int), .bool bg, .int .u64 (vg : Int), .int .i32 sc, .int .u64 (zc : Int), .bool gp, .int .i32 pb.off, .slice po2 pb.cs.length pc2, .string Xpu, .bool gn, .int .i32 nb.off, .slice no2 nb.cs.length nc2, .string Xnu, .slice eo2 es.length ec2, .int .u32 (f : Int), .int .u64 (th : Int), .string T1] = W := ⟨_, rfl⟩
 have hb : Below w5.heap.size w5 W6 := by rw [← hW]; exact below_setRow (below_new _ _) (Nat.le_refl _) _
 have hr : W6.heap[bl2]? = some (.cells #[.slice lo2 l.length lc2, .int .u64 (a : Int), .int .u64 (t : Int), .int .u64 (k : Int), .bool bp, .int .u64 (vp : Int), .bool bm, .int .u64 (vm : Int), .bool bg, .int .u64 (vg : Int), .int .i32 sc, .int .u64 (zc : Int), .bool gp, .int .i32 pb.off, .slice po2 pb.cs.length pc2, .string Xpu, .bool gn, .int .i32 nb.off, .slice no2 nb.cs.length nc2, .string Xnu, .slice eo2 es.length ec2, .int .u32 (f : Int), .int .u64 (th : Int), .string T1] 33 (0, 0)) := by rw [← hW, ← hbl]; exact setRow_heap _ _ _ _ _ _ HZ
 rw [hW, hbl]
 have HBL2 : Hid (w5.heap.size = bl2) := Lib.hid hbl
 have HZB2 : Hid (w.heap.size ≤ bl2) := Lib.hid (by have := (H10.out.is.2.2.2.1).size; omega)
 clear hW hbl HZ
 have HNE2 : Hid (bl1 < bl2) := Lib.hid (by have := row_lt (H10.out.is.2.1); have := HBL2.out; omega)
 have H11 := Lib.hid (H10.out.below hb)
 clear hb H10
 have H12 := Lib.hid (H11.out.row (hr))
 clear H11
 clear hr
 have HLT2 : Hid (bl2 < W6.heap.size) := Lib.hid (row_lt (H12.out.is.1))
 go_upto_region 8 with fail
 refine wp_region_lit ?_
 refine wpList_plain rfl (fun K hK => ?_); go_simp; refine hK _ _ ?_; clear hK K
 refine wpList_plain rfl (fun K hK => ?_); go_simp; refine hK _ _ ?_; clear hK K
 refine wpList_plain rfl (fun K hK => ?_); go_simp; refine hK _ _ ?_; clear hK K
 refine wpList_plain rfl (fun K hK => ?_); go_simp; refine hK _ _ ?_; clear hK K
 refine wpList_plain rfl (fun K hK => ?_); go_simp
 rw [HUs.out]
 refine (HS3.out W6).mono ?_; rintro e w7 ⟨hb, cs, rfl, hrel⟩
 clear HS3
 have hrel := xpCel.lt hrel
 have hr2 := hrel
 obtain ⟨lo3, lc3, po3, pc3, no3, nc3, eo3, ec3, rfl, _, _, _, _⟩ := hr2
 dsimp only [strV]
 rw [HVN.out, HNpu.out, HNnu.out]
 have H13 := Lib.hid (H12.out.below hb)
 clear hb H12
 have H14 := Lib.hid (H13.out.cel (hrel))
 clear H13
 clear hrel
 obtain ⟨E3, hE⟩ : ∃ E, Value.agg #[.slice lo3 l.length lc3, .int .u64 (a : Int), .int .u64 (t : Int), .int .u64 (k : Int), .bool bp, .int .u64 (vp : Int), .bool bm, .int .u64 (vm : Int), .bool bg, .int .u64 (vg : Int), .int .i32 sc, .int .u64 (zc : Int), .bool gp, .int .i32 pb.off, .slice po3 pb.cs.length pc3, .string Xpu, .bool gn, .int .i32 nb.off, .slice no3 nb.cs.length nc3, .string Xnu, .slice eo3 es.length ec3, .int .u32 (f : Int), .int .u64 (th : Int), .string V1] = E := ⟨_, rfl⟩
 rw [hE]
 have HE3 := Lib.hid hE
 clear hE
 refine hK _ _ ?_; clear hK K
 refine wpList_plain rfl (fun K hK => ?_); go_simp; refine hK _ _ ?_; clear hK K
 refine wpList_plain rfl (fun K hK => ?_); go_simp; refine hK _ _ ?_; clear hK K
 refine wpList_plain rfl (fun K hK => ?_); go_simp; refine hK _ _ ?_; clear hK K
 refine wpList_plain rfl (fun K hK => ?_); go_simp; refine hK _ _ ?_; clear hK K
 have HZ := heap_alloc_new w7 (.cells #[.slice none 0 0, .int .u64 0, .int .u64 0, .int .u64 0, .bool false, .int .u64 0, .bool false, .int .u64 0, .bool false, .int .u64 0, .int .i32 0, .int .u64 0, .bool false, .int .i32 0, .slice none 0 0, .string ⟨#[]⟩, .bool false, .int .i32 0, .slice none 0 0, .string ⟨#[]⟩, .slice none 0 0, .int .u32 0, .int .u64 0, .string ⟨#[]⟩] 33)
 refine wpList_store_row rfl 33 (.tmp 14) (.tmp 56) rfl w7.heap.size #[.slice lo3 l.length lc3, .int .u64 (a : Int), .int .u64 (t : Int), .int .u64 (k : Int), .bool bp, .int .u64 (vp : Int), .bool bm, .int .u64 (vm : Int), .bool bg, .int .u64 (vg : Int), .int .i32 sc, .int .u64 (zc : Int), .bool gp, .int .i32 pb.off, .slice po3 pb.cs.length pc3, .string Xpu, .bool gn, .int .i32 nb.off, .slice no3 nb.cs.length nc3, .string Xnu, .slice eo3 es.length ec3, .int .u32 (f : Int), .int .u64 (th : Int), .string V1] rfl (by show E3 = _; exact HE3.out.symm) 33 _ HZ (by kernel_rfl) rfl (by simp [Value.oneCell']) ?_
 obtain ⟨bl3, hbl⟩ : ∃ b, w7.heap.size = b := ⟨_, rfl⟩
 obtain ⟨W8, hW⟩ : ∃ W, (w7.alloc (.cells #[.slice none 0 0, .int .u64 0, .int .u64 0, .int .u64 0, .bool false, .int .u64 0, .bool false, .int .u64 0, .bool false, .int .u64 0, .int .i32 0, .int .u64 0, .bool false, .int .i32 0, .slice none 0 0, .string ⟨#[]⟩, .bool false, .int .i32 0, .slice none 0 0, .string ⟨#[]⟩, .slice none 0 0, .int .u32 0, .int .u64 0, .string ⟨#[]⟩] 33)).setRow w7.heap.size #[.slice lo3 l.length lc3, .int .u64 (a : Int), .int .u64 (t : Int), .int .u64 (k : Int), .bool bp, .int .u64 (vp : Int), .bool bm, .int .u64 (vm : Int), .bool bg, .int .u64 (vg : Int), .int .i32 sc, .int .u64 (zc : Int), .bool gp, .int .i32 pb.off, .slice po3 pb.cs.length pc3, .string Xpu, .bool gn, .int .i32 nb.off, .slice no3 nb.cs.length nc3, .string Xnu, .slice eo3 es.length ec3, .int .u32 (f : Int), .int .u64 (th : Int), .string V1] = W := ⟨_, rfl⟩
 have hb : Below w7.heap.size w7 W8 := by rw [← hW]; exact below_setRow (below_new _ _) (Nat.le_refl _) _
 have hr : W8.heap[bl3]? = some (.cells #[.slice lo3 l.length lc3, .int .u64 (a : Int), .int .u64 (t : Int), .int .u64 (k : Int), .bool bp, .int .u64 (vp : Int), .bool bm, .int .u64 (vm : Int), .bool bg, .int .u64 (vg : Int), .int .i32 sc, .int .u64 (zc : Int), .bool gp, .int .i32 pb.off, .slice po3 pb.cs.length pc3, .string Xpu, .bool gn, .int .i32 nb.off, .slice no3 nb.cs.length nc3, .string Xnu, .slice eo3 es.length ec3, .int .u32 (f : Int), .int .u64 (th : Int), .string V1] 33 (0, 0)) := by rw [← hW, ← hbl]; exact setRow_heap _ _ _ _ _ _ HZ
 rw [hW, hbl]
 have HBL3 : Hid (w7.heap.size = bl3) := Lib.hid hbl
 have HZB3 : Hid (w.heap.size ≤ bl3) := Lib.hid (by have := (H14.out.is.2.2.2.2.2.1).size; omega)
 clear hW hbl HZ
 have HNE3 : Hid (bl2 < bl3) := Lib.hid (by have := row_lt (H14.out.is.2.1); have := HBL3.out; omega)
 have H15 := Lib.hid (H14.out.below hb)
 clear hb H14
 have H16 := Lib.hid (H15.out.row (hr))
 clear H15
 clear hr
 go_upto_region 11 with fail
 have ca : W8.cell? ⟨bl1, 23, none⟩ = some (.string Xu) := row_cell (H16.out.is.2.2.2.2.1) (j := 23) rfl
 have cb : W8.cell? ⟨bl2, 23, none⟩ = some (.string T1) := row_cell (H16.out.is.2.2.1) (j := 23) rfl
 have cc : W8.cell? ⟨bl3, 23, none⟩ = some (.string V1) := row_cell (H16.out.is.1) (j := 23) rfl
 go_wp2_with fail
 clear ca cb cc
 obtain ⟨D5, hD5⟩ : ∃ D, W8.drew = D := ⟨_, rfl⟩
 have hb : Below W8.heap.size W8 D5 := by rw [← hD5]; exact (Below.refl _ _).drew
 have H17 := Lib.hid (H16.out.below hb)
 clear hb H16
 have hX5 : Hid (D5.heap[bl1]? = some (.cells #[.slice lo1 l.length lc1, .int .u64 (a : Int), .int .u64 (t : Int), .int .u64 (k : Int), .bool bp, .int .u64 (vp : Int), .bool bm, .int .u64 (vm : Int), .bool bg, .int .u64 (vg : Int), .int .i32 sc, .int .u64 (zc : Int), .bool gp, .int .i32 pb.off, .slice po1 pb.cs.length pc1, .string Xpu, .bool gn, .int .i32 nb.off, .slice no1 nb.cs.length nc1, .string Xnu, .slice eo1 es.length ec1, .int .u32 (f : Int), .int .u64 (th : Int), .string Xu] 33 (0, 0))) := Lib.hid (H17.out.is.2.2.2.2.1)
 have hY5 : Hid (D5.heap[bl2]? = some (.cells #[.slice lo2 l.length lc2, .int .u64 (a : Int), .int .u64 (t : Int), .int .u64 (k : Int), .bool bp, .int .u64 (vp : Int), .bool bm, .int .u64 (vm : Int), .bool bg, .int .u64 (vg : Int), .int .i32 sc, .int .u64 (zc : Int), .bool gp, .int .i32 pb.off, .slice po2 pb.cs.length pc2, .string Xpu, .bool gn, .int .i32 nb.off, .slice no2 nb.cs.length nc2, .string Xnu, .slice eo2 es.length ec2, .int .u32 (f : Int), .int .u64 (th : Int), .string T1] 33 (0, 0))) := Lib.hid (H17.out.is.2.2.1)
 have hZ5 : Hid (D5.heap[bl3]? = some (.cells #[.slice lo3 l.length lc3, .int .u64 (a : Int), .int .u64 (t : Int), .int .u64 (k : Int), .bool bp, .int .u64 (vp : Int), .bool bm, .int .u64 (vm : Int), .bool bg, .int .u64 (vg : Int), .int .i32 sc, .int .u64 (zc : Int), .bool gp, .int .i32 pb.off, .slice po3 pb.cs.length pc3, .string Xpu, .bool gn, .int .i32 nb.off, .slice no3 nb.cs.length nc3, .string Xnu, .slice eo3 es.length ec3, .int .u32 (f : Int), .int .u64 (th : Int), .string V1] 33 (0, 0))) := Lib.hid (H17.out.is.1)
 have ca : D5.cell? ⟨bl1, 23, none⟩ = some (.string Xu) := row_cell (hX5.out) (j := 23) rfl
 have cf : D5.frozen? ⟨bl2, 23, none⟩ = false := row_thaw hY5.out 23
 have cb : D5.cell? ⟨bl2, 23, none⟩ = some (.string T1) := row_cell (hY5.out) (j := 23) rfl
 have hne : Nonempty {w' : World // (fun w' => w'.cell? ⟨bl1, 23, none⟩ = some (.string Xu)) w'} := ⟨⟨_, ca⟩⟩
 refine wp_region_seq (S := fun w' => w'.cell? ⟨bl1, 23, none⟩ = some (.string Xu)) [(0, true), (1, true), (2, true), (3, true), (4, true), (5, false), (6, true), (7, false)] (by kernel_rfl) (by kernel_rfl) (by kernel_rfl) (by kernel_rfl) (by rw [hD5]; exact ca) ?_
 rw [hD5]
 clear hD5
 iterate 5 (refine seq_take _ rfl (fun KC hK => ?_); go_simp; (first | refine hK _ ?_ | refine ⟨_, fun _ _ => rfl, hK _ ?_⟩ | refine ⟨.string Xu, fun a ha => by rw [ha]; rfl, hK _ ?_⟩); clear hK KC)
 refine seq_come _ rfl (fun KC hK => ?_); go_simp
 obtain ⟨D6, hD6⟩ : ∃ D, D5.setCell ⟨bl2, 23, none⟩ (.string Xu) = D := ⟨_, rfl⟩
 have hu6 := Upd.set D5 ⟨bl2, 23, none⟩ (.string Xu)
 rw [hD6] at hu6 ⊢
 have hX6 : Hid (D6.heap[bl1]? = some (.cells #[.slice lo1 l.length lc1, .int .u64 (a : Int), .int .u64 (t : Int), .int .u64 (k : Int), .bool bp, .int .u64 (vp : Int), .bool bm, .int .u64 (vm : Int), .bool bg, .int .u64 (vg : Int), .int .i32 sc, .int .u64 (zc : Int), .bool gp, .int .i32 pb.off, .slice po1 pb.cs.length pc1, .string Xpu, .bool gn, .int .i32 nb.off, .slice no1 nb.cs.length nc1, .string Xnu, .slice eo1 es.length ec1, .int .u32 (f : Int), .int .u64 (th : Int), .string Xu] 33 (0, 0))) := Lib.hid ((hu6.block bl1 (row_lt hX5.out) (fun e => by have e : bl1 = bl2 := e; have := HNE2.out; omega)).trans hX5.out)
 have hZ6 : Hid (D6.heap[bl3]? = some (.cells #[.slice lo3 l.length lc3, .int .u64 (a : Int), .int .u64 (t : Int), .int .u64 (k : Int), .bool bp, .int .u64 (vp : Int), .bool bm, .int .u64 (vm : Int), .bool bg, .int .u64 (vg : Int), .int .i32 sc, .int .u64 (zc : Int), .bool gp, .int .i32 pb.off, .slice po3 pb.cs.length pc3, .string Xpu, .bool gn, .int .i32 nb.off, .slice no3 nb.cs.length nc3, .string Xnu, .slice eo3 es.length ec3, .int .u32 (f : Int), .int .u64 (th : Int), .string V1] 33 (0, 0))) := Lib.hid ((hu6.block bl3 (row_lt hZ5.out) (fun e => by have e : bl3 = bl2 := e; have := HNE3.out; omega)).trans hZ5.out)
 have hY6 : Hid (D6.heap[bl2]? = some (.cells #[.slice lo2 l.length lc2, .int .u64 (a : Int), .int .u64 (t : Int), .int .u64 (k : Int), .bool bp, .int .u64 (vp : Int), .bool bm, .int .u64 (vm : Int), .bool bg, .int .u64 (vg : Int), .int .i32 sc, .int .u64 (zc : Int), .bool gp, .int .i32 pb.off, .slice po2 pb.cs.length pc2, .string Xpu, .bool gn, .int .i32 nb.off, .slice no2 nb.cs.length nc2, .string Xnu, .slice eo2 es.length ec2, .int .u32 (f : Int), .int .u64 (th : Int), .string Xu] 33 (0, 0))) := Lib.hid (by rw [← hD6]; exact row_set hY5.out 23 _)
 have HU6 : Hid (Upd (fun k => k = bl2 ∨ k = bl3) D5 D6) := Lib.hid (hu6.mono fun k _ h => .inl h)
 clear hD6 hu6 ca cf cb hY5 hX5 hZ5
 have ca : D6.cell? ⟨bl1, 23, none⟩ = some (.string Xu) := row_cell (hX6.out) (j := 23) rfl
 have cf : D6.frozen? ⟨bl3, 23, none⟩ = false := row_thaw hZ6.out 23
 have cb : D6.cell? ⟨bl3, 23, none⟩ = some (.string V1) := row_cell (hZ6.out) (j := 23) rfl
 refine hK.out _ _ ca ?_; clear hK KC
 iterate 1 (refine seq_take _ rfl (fun KC hK => ?_); go_simp; (first | refine hK _ ?_ | refine ⟨_, fun _ _ => rfl, hK _ ?_⟩ | refine ⟨.string Xu, fun a ha => by rw [ha]; rfl, hK _ ?_⟩); clear hK KC)
 refine seq_come _ rfl (fun KC hK => ?_); go_simp
 obtain ⟨D7, hD7⟩ : ∃ D, D6.setCell ⟨bl3, 23, none⟩ (.string Xu) = D := ⟨_, rfl⟩
 have hu7 := Upd.set D6 ⟨bl3, 23, none⟩ (.string Xu)
 rw [hD7] at hu7 ⊢
 have hX7 : Hid (D7.heap[bl1]? = some (.cells #[.slice lo1 l.length lc1, .int .u64 (a : Int), .int .u64 (t : Int), .int .u64 (k : Int), .bool bp, .int .u64 (vp : Int), .bool bm, .int .u64 (vm : Int), .bool bg, .int .u64 (vg : Int), .int .i32 sc, .int .u64 (zc : Int), .bool gp, .int .i32 pb.off, .slice po1 pb.cs.length pc1, .string Xpu, .bool gn, .int .i32 nb.off, .slice no1 nb.cs.length nc1, .string Xnu, .slice eo1 es.length ec1, .int .u32 (f : Int), .int .u64 (th : Int), .string Xu] 33 (0, 0))) := Lib.hid ((hu7.block bl1 (row_lt hX6.out) (fun e => by have e : bl1 = bl3 := e; have := HNE2.out; have := HNE3.out; omega)).trans hX6.out)
 have hY7 : Hid (D7.heap[bl2]? = some (.cells #[.slice lo2 l.length lc2, .int .u64 (a : Int), .int .u64 (t : Int), .int .u64 (k : Int), .bool bp, .int .u64 (vp : Int), .bool bm, .int .u64 (vm : Int), .bool bg, .int .u64 (vg : Int), .int .i32 sc, .int .u64 (zc : Int), .bool gp, .int .i32 pb.off, .slice po2 pb.cs.length pc2, .string Xpu, .bool gn, .int .i32 nb.off, .slice no2 nb.cs.length nc2, .string Xnu, .slice eo2 es.length ec2, .int .u32 (f : Int), .int .u64 (th : Int), .string Xu] 33 (0, 0))) := Lib.hid ((hu7.block bl2 (row_lt hY6.out) (fun e => by have e : bl2 = bl3 := e; have := HNE3.out; omega)).trans hY6.out)
 have hZ7 : Hid (D7.heap[bl3]? = some (.cells #[.slice lo3 l.length lc3, .int .u64 (a : Int), .int .u64 (t : Int), .int .u64 (k : Int), .bool bp, .int .u64 (vp : Int), .bool bm, .int .u64 (vm : Int), .bool bg, .int .u64 (vg : Int), .int .i32 sc, .int .u64 (zc : Int), .bool gp, .int .i32 pb.off, .slice po3 pb.cs.length pc3, .string Xpu, .bool gn, .int .i32 nb.off, .slice no3 nb.cs.length nc3, .string Xnu, .slice eo3 es.length ec3, .int .u32 (f : Int), .int .u64 (th : Int), .string Xu] 33 (0, 0))) := Lib.hid (by rw [← hD7]; exact row_set hZ6.out 23 _)
 have HU7 : Hid (Upd (fun k => k = bl2 ∨ k = bl3) D5 D7) := Lib.hid (HU6.out.trans (hu7.mono fun k _ h => .inr h))
 clear hD7 hu7 ca cf cb hX6 hY6 hZ6 HU6
 have ca : D7.cell? ⟨bl1, 23, none⟩ = some (.string Xu) := row_cell (hX7.out) (j := 23) rfl
 refine hK.out _ _ ca ?_; clear hK KC
 refine seq_done ?_
 clear ca hne
 have hbase : Below w.heap.size w D7 := (H17.out.is.2.2.2.2.2.2.1).trans (HU7.out.below ((H17.out.is.2.2.2.2.2.2.1).size) (fun k _ h => by have := HZB2.out; have := HZB3.out; rcases h with h | h <;> omega))
 have hc1 := Lib.hid (xpCel.upd HU7.out (Q := fun _ => True) (fun k hk h => by have := HNE2.out; have := HNE3.out; have := HLT1.out; have := HLT2.out; have := HBL1.out; have := HBL2.out; have := HBL3.out; omega) (fun _ _ => trivial) (H17.out.is.2.2.2.2.2.1))
 have hc2 := Lib.hid (xpCel.upd HU7.out (Q := fun _ => True) (fun k hk h => by have := HNE2.out; have := HNE3.out; have := HLT1.out; have := HLT2.out; have := HBL1.out; have := HBL2.out; have := HBL3.out; omega) (fun _ _ => trivial) (H17.out.is.2.2.2.1))
 have hc3 := Lib.hid (xpCel.upd HU7.out (Q := fun _ => True) (fun k hk h => by have := HNE2.out; have := HNE3.out; have := HLT1.out; have := HLT2.out; have := HBL1.out; have := HBL2.out; have := HBL3.out; omega) (fun _ _ => trivial) (H17.out.is.2.1))
 have hd2 : xpCel.R D7 (fun _ => True) ((l, (a, (t, (k, ((bp, vp), (sc, (zc, ((gp, pb, pu), ((gn, nb, nu), (f, (es, ((bm, vm), ((bg, vg), th))))))))))))), u) [.slice lo2 l.length lc2, .int .u64 (a : Int), .int .u64 (t : Int), .int .u64 (k : Int), .bool bp, .int .u64 (vp : Int), .bool bm, .int .u64 (vm : Int), .bool bg, .int .u64 (vg : Int), .int .i32 sc, .int .u64 (zc : Int), .bool gp, .int .i32 pb.off, .slice po2 pb.cs.length pc2, .string Xpu, .bool gn, .int .i32 nb.off, .slice no2 nb.cs.length nc2, .string Xnu, .slice eo2 es.length ec2, .int .u32 (f : Int), .int .u64 (th : Int), .string Xu] := by rw [← HNpu.out, ← HNnu.out, ← HNu.out]; exact xp_unk (cs := [.slice lo2 l.length lc2, .int .u64 (a : Int), .int .u64 (t : Int), .int .u64 (k : Int), .bool bp, .int .u64 (vp : Int), .bool bm, .int .u64 (vm : Int), .bool bg, .int .u64 (vg : Int), .int .i32 sc, .int .u64 (zc : Int), .bool gp, .int .i32 pb.off, .slice po2 pb.cs.length pc2, strV pu, .bool gn, .int .i32 nb.off, .slice no2 nb.cs.length nc2, strV nu, .slice eo2 es.length ec2, .int .u32 (f : Int), .int .u64 (th : Int)]) hc2.out
 have hd3 : xpCel.R D7 (fun _ => True) ((l, (a, (t, (k, ((bp, vp), (sc, (zc, ((gp, pb, pu), ((gn, nb, nu), (f, (es, ((bm, vm), ((bg, vg), th))))))))))))), u) [.slice lo3 l.length lc3, .int .u64 (a : Int), .int .u64 (t : Int), .int .u64 (k : Int), .bool bp, .int .u64 (vp : Int), .bool bm, .int .u64 (vm : Int), .bool bg, .int .u64 (vg : Int), .int .i32 sc, .int .u64 (zc : Int), .bool gp, .int .i32 pb.off, .slice po3 pb.cs.length pc3, .string Xpu, .bool gn, .int .i32 nb.off, .slice no3 nb.cs.length nc3, .string Xnu, .slice eo3 es.length ec3, .int .u32 (f : Int), .int .u64 (th : Int), .string Xu] := by rw [← HNpu.out, ← HNnu.out, ← HNu.out]; exact xp_unk (cs := [.slice lo3 l.length lc3, .int .u64 (a : Int), .int .u64 (t : Int), .int .u64 (k : Int), .bool bp, .int .u64 (vp : Int), .bool bm, .int .u64 (vm : Int), .bool bg, .int .u64 (vg : Int), .int .i32 sc, .int .u64 (zc : Int), .bool gp, .int .i32 pb.off, .slice po3 pb.cs.length pc3, strV pu, .bool gn, .int .i32 nb.off, .slice no3 nb.cs.length nc3, strV nu, .slice eo3 es.length ec3, .int .u32 (f : Int), .int .u64 (th : Int)]) hc3.out
 clear H17 HU7 HBL1 HBL2 HBL3 HZB1 HZB2 HZB3 HNE2 HNE3 HLT1 HLT2
 have H18 := Lib.hid (Fx.nil D7)
 have H19 := Lib.hid (H18.out.base (hbase))
 clear H18
 clear hbase
 have H20 := Lib.hid (H19.out.row (hX7.out))
 clear H19
 have H21 := Lib.hid (H20.out.row (hY7.out))
 clear H20
 have H22 := Lib.hid (H21.out.row (hZ7.out))
 clear H21
 have H23 := Lib.hid (H22.out.cel (hc1.out))
 clear H22
 have H24 := Lib.hid (H23.out.cel (hd2))
 clear H23
 have H25 := Lib.hid (H24.out.cel (hd3))
 clear H24
 clear hX7 hY7 hZ7 hc1 hc2 hc3 hd2 hd3
 go_wp2_with fail
 refine (wfixed_any 536870911 v D7 (by omega) (by omega) HV.out).mono ?_; rintro e w9 ⟨rfl, hb⟩
 rw [HL.out]
 have H26 := Lib.hid (H25.out.below hb)
 clear hb H25
 go_upto_region 15 with fail
 refine wp_region_lit ?_
 refine wpList_plain rfl (fun K hK => ?_); go_simp; refine hK _ _ ?_; clear hK K
 refine wpList_plain rfl (fun K hK => ?_); go_simp; refine hK _ _ ?_; clear hK K
 refine wpList_plain rfl (fun K hK => ?_); go_simp; refine hK _ _ ?_; clear hK K
 rw [HLq.out]
 refine wpList_plain rfl (fun K hK => ?_); go_simp; refine hK _ _ ?_; clear hK K
 refine wpList_plain rfl (fun K hK => ?_); go_simp; refine hK _ _ ?_; clear hK K
 rw [HLQL.out]
 refine wpList_plain rfl (fun K hK => ?_); go_simp; refine hK _ _ ?_; clear hK K
 refine wpList_plain rfl (fun K hK => ?_); go_simp
 refine (HS4.out w9).mono ?_; rintro e wa ⟨hb, cs, rfl, hrel⟩
 clear HS4
 have hrel := xpCel.lt hrel
 have hr2 := hrel
 obtain ⟨lo4, lc4, po4, pc4, no4, nc4, eo4, ec4, rfl, _, _, _, _⟩ := hr2
 dsimp only [strV]
 rw [HFN.out, HNpu.out, HNnu.out]
 have H27 := Lib.hid (H26.out.below hb)
 clear hb H26
 clear hrel
 obtain ⟨E4, hE⟩ : ∃ E, Value.agg #[.slice lo4 l.length lc4, .int .u64 (a : Int), .int .u64 (t : Int), .int .u64 (k : Int), .bool bp, .int .u64 (vp : Int), .bool bm, .int .u64 (vm : Int), .bool bg, .int .u64 (vg : Int), .int .i32 sc, .int .u64 (zc : Int), .bool gp, .int .i32 pb.off, .slice po4 pb.cs.length pc4, .string Xpu, .bool gn, .int .i32 nb.off, .slice no4 nb.cs.length nc4, .string Xnu, .slice eo4 es.length ec4, .int .u32 (f : Int), .int .u64 (th : Int), .string F1] = E := ⟨_, rfl⟩
 rw [hE]
 have HE4 := Lib.hid hE
 clear hE
 refine hK _ _ ?_; clear hK K
 refine wpList_plain rfl (fun K hK => ?_); go_simp; refine hK _ _ ?_; clear hK K
 refine wpList_plain rfl (fun K hK => ?_); go_simp; refine hK _ _ ?_; clear hK K
 refine wpList_plain rfl (fun K hK => ?_); go_simp; refine hK _ _ ?_; clear hK K
 refine wpList_plain rfl (fun K hK => ?_); go_simp; refine hK _ _ ?_; clear hK K
 have HZ := heap_alloc_new wa (.cells #[.slice none 0 0, .int .u64 0, .int .u64 0, .int .u64 0, .bool false, .int .u64 0, .bool false, .int .u64 0, .bool false, .int .u64 0, .int .i32 0, .int .u64 0, .bool false, .int .i32 0, .slice none 0 0, .string ⟨#[]⟩, .bool false, .int .i32 0, .slice none 0 0, .string ⟨#[]⟩, .slice none 0 0, .int .u32 0, .int .u64 0, .string ⟨#[]⟩] 33)
 refine wpList_store_row rfl 33 (.tmp 17) (.tmp 105) rfl wa.heap.size #[.slice lo4 l.length lc4, .int .u64 (a : Int), .int .u64 (t : Int), .int .u64 (k : Int), .bool bp, .int .u64 (vp : Int), .bool bm, .int .u64 (vm : Int), .bool bg, .int .u64 (vg : Int), .int .i32 sc, .int .u64 (zc : Int), .bool gp, .int .i32 pb.off, .slice po4 pb.cs.length pc4, .string Xpu, .bool gn, .int .i32 nb.off, .slice no4 nb.cs.length nc4, .string Xnu, .slice eo4 es.length ec4, .int .u32 (f : Int), .int .u64 (th : Int), .string F1] rfl (by show E4 = _; exact HE4.out.symm) 33 _ HZ (by kernel_rfl) rfl (by simp [Value.oneCell']) ?_
 obtain ⟨bl4, hbl⟩ : ∃ b, wa.heap.size = b := ⟨_, rfl⟩
 obtain ⟨Wb, hW⟩ : ∃ W, (wa.alloc (.cells #[.slice none 0 0, .int .u64 0, .int .u64 0, .int .u64 0, .bool false, .int .u64 0, .bool false, .int .u64 0, .bool false, .int .u64 0, .int .i32 0, .int .u64 0, .bool false, .int .i32 0, .slice none 0 0, .string ⟨#[]⟩, .bool false, .int .i32 0, .slice none 0 0, .string ⟨#[]⟩, .slice none 0 0, .int .u32 0, .int .u64 0, .string ⟨#[]⟩] 33)).setRow wa.heap.size #[.slice lo4 l.length lc4, .int .u64 (a : Int), .int .u64 (t : Int), .int .u64 (k : Int), .bool bp, .int .u64 (vp : Int), .bool bm, .int .u64 (vm : Int), .bool bg, .int .u64 (vg : Int), .int .i32 sc, .int .u64 (zc : Int), .bool gp, .int .i32 pb.off, .slice po4 pb.cs.length pc4, .string Xpu, .bool gn, .int .i32 nb.off, .slice no4 nb.cs.length nc4, .string Xnu, .slice eo4 es.length ec4, .int .u32 (f : Int), .int .u64 (th : Int), .string F1] = W := ⟨_, rfl⟩
 have hb : Below wa.heap.size wa Wb := by rw [← hW]; exact below_setRow (below_new _ _) (Nat.le_refl _) _
 have hr : Wb.heap[bl4]? = some (.cells #[.slice lo4 l.length lc4, .int .u64 (a : Int), .int .u64 (t : Int), .int .u64 (k : Int), .bool bp, .int .u64 (vp : Int), .bool bm, .int .u64 (vm : Int), .bool bg, .int .u64 (vg : Int), .int .i32 sc, .int .u64 (zc : Int), .bool gp, .int .i32 pb.off, .slice po4 pb.cs.length pc4, .string Xpu, .bool gn, .int .i32 nb.off, .slice no4 nb.cs.length nc4, .string Xnu, .slice eo4 es.length ec4, .int .u32 (f : Int), .int .u64 (th : Int), .string F1] 33 (0, 0)) := by rw [← hW, ← hbl]; exact setRow_heap _ _ _ _ _ _ HZ
 rw [hW, hbl]
 have HBL4 : Hid (wa.heap.size = bl4) := Lib.hid hbl
 have HZB4 : Hid (w.heap.size ≤ bl4) := Lib.hid (by have := (H27.out.is.2.2.2.2.2.2.1).size; omega)
 clear hW hbl HZ
 have HNE4 : Hid (bl3 < bl4) := Lib.hid (by have := row_lt (H27.out.is.2.2.2.1); have := HBL4.out; omega)
 have H28 := Lib.hid (H27.out.below hb)
 clear hb H27
 have H29 := Lib.hid (H28.out.row (hr))
 clear H28
 clear hr
 go_upto_region 16 with fail
 refine wp_region_lit ?_
 refine wpList_plain rfl (fun K hK => ?_); go_simp
 refine (first14 Wb).mono ?_; rintro e wc ⟨rfl, hb⟩
 have H30 := Lib.hid (H29.out.below hb)
 clear hb H29
 refine hK _ _ ?_; clear hK K
 refine wpList_plain rfl (fun K hK => ?_); go_simp; refine hK _ _ ?_; clear hK K
 refine BigFrame.wpList_want (by rfl) (fun K hK => ?_)
 refine wp_load_mid 33 (.tmp 9) rfl bl1 0 rfl [.slice lo1 l.length lc1, .int .u64 (a : Int), .int .u64 (t : Int), .int .u64 (k : Int), .bool bp, .int .u64 (vp : Int), .bool bm, .int .u64 (vm : Int), .bool bg, .int .u64 (vg : Int), .int .i32 sc, .int .u64 (zc : Int), .bool gp, .int .i32 pb.off, .slice po1 pb.cs.length pc1, .string Xpu, .bool gn, .int .i32 nb.off, .slice no1 nb.cs.length nc1, .string Xnu, .slice eo1 es.length ec1, .int .u32 (f : Int), .int .u64 (th : Int), .string Xu] _ (range_row (H30.out.is.2.2.2.2.2.2.1)) Try.underlying33 rfl (by kernel_rfl) (hK _ _ ?_)
 clear hK K
 refine BigFrame.wpList_want (by rfl) (fun K hK => ?_)
 refine wp_load_mid 33 (.tmp 12) rfl bl2 0 rfl [.slice lo2 l.length lc2, .int .u64 (a : Int), .int .u64 (t : Int), .int .u64 (k : Int), .bool bp, .int .u64 (vp : Int), .bool bm, .int .u64 (vm : Int), .bool bg, .int .u64 (vg : Int), .int .i32 sc, .int .u64 (zc : Int), .bool gp, .int .i32 pb.off, .slice po2 pb.cs.length pc2, .string Xpu, .bool gn, .int .i32 nb.off, .slice no2 nb.cs.length nc2, .string Xnu, .slice eo2 es.length ec2, .int .u32 (f : Int), .int .u64 (th : Int), .string Xu] _ (range_row (H30.out.is.2.2.2.2.2.1)) Try.underlying33 rfl (by kernel_rfl) (hK _ _ ?_)
 clear hK K
 refine BigFrame.wpList_want (by rfl) (fun K hK => ?_); go_simp
 refine (xp_same ((l, (a, (t, (k, ((bp, vp), (sc, (zc, ((gp, pb, pu), ((gn, nb, nu), (f, (es, ((bm, vm), ((bg, vg), th))))))))))))), u) ((l, (a, (t, (k, ((bp, vp), (sc, (zc, ((gp, pb, pu), ((gn, nb, nu), (f, (es, ((bm, vm), ((bg, vg), th))))))))))))), u) [.slice lo1 l.length lc1, .int .u64 (a : Int), .int .u64 (t : Int), .int .u64 (k : Int), .bool bp, .int .u64 (vp : Int), .bool bm, .int .u64 (vm : Int), .bool bg, .int .u64 (vg : Int), .int .i32 sc, .int .u64 (zc : Int), .bool gp, .int .i32 pb.off, .slice po1 pb.cs.length pc1, .string Xpu, .bool gn, .int .i32 nb.off, .slice no1 nb.cs.length nc1, .string Xnu, .slice eo1 es.length ec1, .int .u32 (f : Int), .int .u64 (th : Int), .string Xu] [.slice lo2 l.length lc2, .int .u64 (a : Int), .int .u64 (t : Int), .int .u64 (k : Int), .bool bp, .int .u64 (vp : Int), .bool bm, .int .u64 (vm : Int), .bool bg, .int .u64 (vg : Int), .int .i32 sc, .int .u64 (zc : Int), .bool gp, .int .i32 pb.off, .slice po2 pb.cs.length pc2, .string Xpu, .bool gn, .int .i32 nb.off, .slice no2 nb.cs.length nc2, .string Xnu, .slice eo2 es.length ec2, .int .u32 (f : Int), .int .u64 (th : Int), .string Xu] _ _ wc HARG.out HWT.out (by rw [← HNpu.out, ← HNnu.out, ← HNu.out]; exact H30.out.is.2.2.2.1) (H30.out.is.2.2.1)).mono ?_; rintro e wd ⟨rfl, hb⟩
 rw [alike_yes rfl]
 have H31 := Lib.hid (H30.out.below hb)
 clear hb H30
 refine hK _ _ ?_; clear hK K
 refine wpList_plain rfl (fun K hK => ?_); go_simp; refine hK _ _ ?_; clear hK K
 refine wpList_plain rfl (fun K hK => ?_); go_simp; refine hK _ _ ?_; clear hK K
 refine BigFrame.wpList_want (by rfl) (fun K hK => ?_)
 refine wp_load_mid 33 (.tmp 9) rfl bl1 0 rfl [.slice lo1 l.length lc1, .int .u64 (a : Int), .int .u64 (t : Int), .int .u64 (k : Int), .bool bp, .int .u64 (vp : Int), .bool bm, .int .u64 (vm : Int), .bool bg, .int .u64 (vg : Int), .int .i32 sc, .int .u64 (zc : Int), .bool gp, .int .i32 pb.off, .slice po1 pb.cs.length pc1, .string Xpu, .bool gn, .int .i32 nb.off, .slice no1 nb.cs.length nc1, .string Xnu, .slice eo1 es.length ec1, .int .u32 (f : Int), .int .u64 (th : Int), .string Xu] _ (range_row (H31.out.is.2.2.2.2.2.2.1)) Try.underlying33 rfl (by kernel_rfl) (hK _ _ ?_)
 clear hK K
 refine BigFrame.wpList_want (by rfl) (fun K hK => ?_)
 refine wp_load_mid 33 (.tmp 14) rfl bl3 0 rfl [.slice lo3 l.length lc3, .int .u64 (a : Int), .int .u64 (t : Int), .int .u64 (k : Int), .bool bp, .int .u64 (vp : Int), .bool bm, .int .u64 (vm : Int), .bool bg, .int .u64 (vg : Int), .int .i32 sc, .int .u64 (zc : Int), .bool gp, .int .i32 pb.off, .slice po3 pb.cs.length pc3, .string Xpu, .bool gn, .int .i32 nb.off, .slice no3 nb.cs.length nc3, .string Xnu, .slice eo3 es.length ec3, .int .u32 (f : Int), .int .u64 (th : Int), .string Xu] _ (range_row (H31.out.is.2.2.2.2.1)) Try.underlying33 rfl (by kernel_rfl) (hK _ _ ?_)
 clear hK K
 refine BigFrame.wpList_want (by rfl) (fun K hK => ?_); go_simp
 refine (xp_same ((l, (a, (t, (k, ((bp, vp), (sc, (zc, ((gp, pb, pu), ((gn, nb, nu), (f, (es, ((bm, vm), ((bg, vg), th))))))))))))), u) ((l, (a, (t, (k, ((bp, vp), (sc, (zc, ((gp, pb, pu), ((gn, nb, nu), (f, (es, ((bm, vm), ((bg, vg), th))))))))))))), u) [.slice lo1 l.length lc1, .int .u64 (a : Int), .int .u64 (t : Int), .int .u64 (k : Int), .bool bp, .int .u64 (vp : Int), .bool bm, .int .u64 (vm : Int), .bool bg, .int .u64 (vg : Int), .int .i32 sc, .int .u64 (zc : Int), .bool gp, .int .i32 pb.off, .slice po1 pb.cs.length pc1, .string Xpu, .bool gn, .int .i32 nb.off, .slice no1 nb.cs.length nc1, .string Xnu, .slice eo1 es.length ec1, .int .u32 (f : Int), .int .u64 (th : Int), .string Xu] [.slice lo3 l.length lc3, .int .u64 (a : Int), .int .u64 (t : Int), .int .u64 (k : Int), .bool bp, .int .u64 (vp : Int), .bool bm, .int .u64 (vm : Int), .bool bg, .int .u64 (vg : Int), .int .i32 sc, .int .u64 (zc : Int), .bool gp, .int .i32 pb.off, .slice po3 pb.cs.length pc3, .string Xpu, .bool gn, .int .i32 nb.off, .slice no3 nb.cs.length nc3, .string Xnu, .slice eo3 es.length ec3, .int .u32 (f : Int), .int .u64 (th : Int), .string Xu] _ _ wd HARG.out HWT.out (by rw [← HNpu.out, ← HNnu.out, ← HNu.out]; exact H31.out.is.2.2.2.1) (H31.out.is.2.1)).mono ?_; rintro e we ⟨rfl, hb⟩
 rw [alike_yes rfl]
 have H32 := Lib.hid (H31.out.below hb)
 clear hb H31
 refine hK _ _ ?_; clear hK K
 refine wpList_plain rfl (fun K hK => ?_); go_simp; refine hK _ _ ?_; clear hK K
 refine wpList_plain rfl (fun K hK => ?_); go_simp; refine hK _ _ ?_; clear hK K
 have ca : we.cell? ⟨bl1, 23, none⟩ = some (.string Xu) := row_cell (H32.out.is.2.2.2.2.2.2.1) (j := 23) rfl
 have cb : we.cell? ⟨bl4, 23, none⟩ = some (.string F1) := row_cell (H32.out.is.1) (j := 23) rfl
 rw [← HLSN.out] at o9 ht3
 go_wp2_with fail
 go_ret
 exact ⟨rfl, H32.out.is.2.2.2.2.2.2.2.1⟩
theorem xpoth_any (s : ByteArray) (d : Int) (w : World) (hd : -9223372036854775808 ≤ d ∧ d ≤ 9223372036854775807) (kn v : Int) (hv : 0 ≤ v ∧ v < 18446744073709551616) :
 Calls Try.prog 4 #[.string s, .int .i64 d, .int .i64 kn, .int .u64 v] w fun e w' => e = .returned (.bool true) ∧ Below w.heap.size w w' := by
 by_cases h1 : 6000 < s.size
 · exact xpoth_L1 s d w kn v h1
 by_cases h2 : kn < 1
 · exact xpoth_L2 s d w kn v h1 h2
 by_cases h3 : 536870912 ≤ kn
 · exact xpoth_L3 s d w kn v h1 h2 h3
 obtain ⟨kn', rfl⟩ := Int.eq_ofNat_of_zero_le (show 0 ≤ kn by omega)
 obtain ⟨v', rfl⟩ := Int.eq_ofNat_of_zero_le hv.1
 cases hx : xprd s.data.toList d with
 | error c => exact xpoth_A s d w hd kn' v' (by omega) (by omega) (by omega) (by omega) hx
 | ok x => exact xpoth_C s d w hd kn' v' (by omega) (by omega) (by omega) (by omega) hx
end Go.Proofs.Ytficgfemmijaaaa
