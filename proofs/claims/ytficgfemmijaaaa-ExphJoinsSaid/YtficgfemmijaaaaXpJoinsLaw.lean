/-
  hyglaw14.ExphJoins.
-/
import Derived.Test.YtficgfemmijaaaaXpJoin
import Derived.Test.YtficgfemmijaaaaFirst14
set_option maxRecDepth 1000000
set_option maxHeartbeats 16000000
namespace Go.Proofs.Ytficgfemmijaaaa
open Go.RowKit
theorem xpjoin_long1 (s t : ByteArray) (d : Int) (w : World) (h1 : 3000 < s.size) :
 Calls Try.prog 3 #[.string s, .string t, .int .i64 d] w fun e w' => e = .returned (.bool true) ∧ Below w.heap.size w w' := by
 have q0 : decide ((3000 : Int) < (s.size : Int)) = true := decide_eq_true (by omega)
 clear h1
 have hb : Below w.heap.size w w := Below.refl _ _
 have H1 := Lib.hid (Fx.nil w)
 have H2 := Lib.hid (H1.out.base (hb))
 clear H1
 clear hb
 go_enter Try.func3, Try.ntmps3
 go_wp2_with fail
 refine (first14 w).mono ?_; rintro e w1 ⟨rfl, hb⟩
 have H3 := Lib.hid (H2.out.below hb)
 clear hb H2
 go_wp2_with fail
 refine (first14 w1).mono ?_; rintro e w2 ⟨rfl, hb⟩
 have H4 := Lib.hid (H3.out.below hb)
 clear hb H3
 go_wp2_with fail
 go_ret
 exact ⟨rfl, H4.out.is.1⟩
theorem xpjoin_long2 (s t : ByteArray) (d : Int) (w : World) (h1 : ¬ 3000 < s.size) (h2 : 3000 < t.size) :
 Calls Try.prog 3 #[.string s, .string t, .int .i64 d] w fun e w' => e = .returned (.bool true) ∧ Below w.heap.size w w' := by
 have q0 : decide ((3000 : Int) < (s.size : Int)) = false := decide_eq_false (by omega)
 have q1 : decide ((3000 : Int) < (t.size : Int)) = true := decide_eq_true (by omega)
 clear h1 h2
 have hb : Below w.heap.size w w := Below.refl _ _
 have H1 := Lib.hid (Fx.nil w)
 have H2 := Lib.hid (H1.out.base (hb))
 clear H1
 clear hb
 go_enter Try.func3, Try.ntmps3
 go_wp2_with fail
 refine (first14 w).mono ?_; rintro e w1 ⟨rfl, hb⟩
 have H3 := Lib.hid (H2.out.below hb)
 clear hb H2
 go_wp2_with fail
 refine (first14 w1).mono ?_; rintro e w2 ⟨rfl, hb⟩
 have H4 := Lib.hid (H3.out.below hb)
 clear hb H3
 go_wp2_with fail
 go_ret
 exact ⟨rfl, H4.out.is.1⟩
theorem xpjoin_A (s t : ByteArray) (d : Int) (w : World) (hd : -9223372036854775808 ≤ d ∧ d ≤ 9223372036854775807) (hs : s.size ≤ 3000) (ht : t.size ≤ 3000) {c : Nat} (h1 : xprd s.data.toList d = .error c) :
 Calls Try.prog 3 #[.string s, .string t, .int .i64 d] w fun e w' => e = .returned (.bool true) ∧ Below w.heap.size w w' := by
 have q0 : decide ((3000 : Int) < (s.size : Int)) = false := decide_eq_false (by omega)
 have q1 : decide ((3000 : Int) < (t.size : Int)) = false := decide_eq_false (by omega)
 have q2 : ¬ 9223372036854775807 < s.size + t.size := by omega
 have HS1 := Lib.hid (fun w' => xp_un s d w' (by omega) hd)
 have HS2 := Lib.hid (fun w' => xp_un t d w' (by omega) hd)
 obtain ⟨ST, hST⟩ : ∃ S, s ++ t = S := ⟨_, rfl⟩
 have hSTL : ST.data.toList = s.data.toList ++ t.data.toList := by rw [← hST]; simp
 have HS3 := Lib.hid (fun w' => xp_un ST d w' (by rw [← hST, ByteArray.size_append]; omega) hd)
 have HST := Lib.hid hST
 rw [h1] at HS1
 clear hd hs ht hST hSTL h1
 have hb : Below w.heap.size w w := Below.refl _ _
 have H1 := Lib.hid (Fx.nil w)
 have H2 := Lib.hid (H1.out.base (hb))
 clear H1
 clear hb
 go_enter Try.func3, Try.ntmps3
 go_wp2_with fail
 refine (first14 w).mono ?_; rintro e w1 ⟨rfl, hb⟩
 have H3 := Lib.hid (H2.out.below hb)
 clear hb H2
 go_upto_region 5 with fail
 refine wp_region_lit ?_
 refine wpList_plain rfl (fun K hK => ?_); go_simp; refine hK _ _ ?_; clear hK K
 refine wpList_plain rfl (fun K hK => ?_); go_simp; refine hK _ _ ?_; clear hK K
 refine wpList_plain rfl (fun K hK => ?_); go_simp
 refine (HS1.out w1).mono ?_; rintro e w2 ⟨hb, v1, q1, rfl, _, hew⟩
 obtain ⟨T1, y1, rfl⟩ := hew.iface
 clear HS1
 unfold xpzero
 have H4 := Lib.hid (H3.out.below hb)
 clear hb H3
 clear hew
 obtain ⟨E1, hE⟩ : ∃ E, Value.agg #[.slice none 0 0, .int .u64 0, .int .u64 0, .int .u64 0, .bool false, .int .u64 0, .bool false, .int .u64 0, .bool false, .int .u64 0, .int .i32 0, .int .u64 0, .bool false, .int .i32 0, .slice none 0 0, .string ⟨#[]⟩, .bool false, .int .i32 0, .slice none 0 0, .string ⟨#[]⟩, .slice none 0 0, .int .u32 0, .int .u64 0, .string ⟨#[]⟩] = E := ⟨_, rfl⟩
 rw [hE]
 have HE1 := Lib.hid hE
 clear hE
 refine hK _ _ ?_; clear hK K
 refine wpList_plain rfl (fun K hK => ?_); go_simp; refine hK _ _ ?_; clear hK K
 refine wpList_plain rfl (fun K hK => ?_); go_simp; refine hK _ _ ?_; clear hK K
 refine wpList_plain rfl (fun K hK => ?_); go_simp; refine hK _ _ ?_; clear hK K
 refine wpList_plain rfl (fun K hK => ?_); go_simp; refine hK _ _ ?_; clear hK K
 have HZ := heap_alloc_new w2 (.cells #[.slice none 0 0, .int .u64 0, .int .u64 0, .int .u64 0, .bool false, .int .u64 0, .bool false, .int .u64 0, .bool false, .int .u64 0, .int .i32 0, .int .u64 0, .bool false, .int .i32 0, .slice none 0 0, .string ⟨#[]⟩, .bool false, .int .i32 0, .slice none 0 0, .string ⟨#[]⟩, .slice none 0 0, .int .u32 0, .int .u64 0, .string ⟨#[]⟩] 33)
 refine wpList_store_row rfl 33 (.tmp 7) (.tmp 28) rfl w2.heap.size #[.slice none 0 0, .int .u64 0, .int .u64 0, .int .u64 0, .bool false, .int .u64 0, .bool false, .int .u64 0, .bool false, .int .u64 0, .int .i32 0, .int .u64 0, .bool false, .int .i32 0, .slice none 0 0, .string ⟨#[]⟩, .bool false, .int .i32 0, .slice none 0 0, .string ⟨#[]⟩, .slice none 0 0, .int .u32 0, .int .u64 0, .string ⟨#[]⟩] rfl (by show E1 = _; exact HE1.out.symm) 33 _ HZ (by kernel_rfl) rfl (by simp [Value.oneCell']) ?_
 obtain ⟨blr1, hbl⟩ : ∃ b, w2.heap.size = b := ⟨_, rfl⟩
 obtain ⟨W3, hW⟩ : ∃ W, (w2.alloc (.cells #[.slice none 0 0, .int .u64 0, .int .u64 0, .int .u64 0, .bool false, .int .u64 0, .bool false, .int .u64 0, .bool false, .int .u64 0, .int .i32 0, .int .u64 0, .bool false, .int .i32 0, .slice none 0 0, .string ⟨#[]⟩, .bool false, .int .i32 0, .slice none 0 0, .string ⟨#[]⟩, .slice none 0 0, .int .u32 0, .int .u64 0, .string ⟨#[]⟩] 33)).setRow w2.heap.size #[.slice none 0 0, .int .u64 0, .int .u64 0, .int .u64 0, .bool false, .int .u64 0, .bool false, .int .u64 0, .bool false, .int .u64 0, .int .i32 0, .int .u64 0, .bool false, .int .i32 0, .slice none 0 0, .string ⟨#[]⟩, .bool false, .int .i32 0, .slice none 0 0, .string ⟨#[]⟩, .slice none 0 0, .int .u32 0, .int .u64 0, .string ⟨#[]⟩] = W := ⟨_, rfl⟩
 have hb : Below w2.heap.size w2 W3 := by rw [← hW]; exact below_setRow (below_new _ _) (Nat.le_refl _) _
 have hr : W3.heap[blr1]? = some (.cells #[.slice none 0 0, .int .u64 0, .int .u64 0, .int .u64 0, .bool false, .int .u64 0, .bool false, .int .u64 0, .bool false, .int .u64 0, .int .i32 0, .int .u64 0, .bool false, .int .i32 0, .slice none 0 0, .string ⟨#[]⟩, .bool false, .int .i32 0, .slice none 0 0, .string ⟨#[]⟩, .slice none 0 0, .int .u32 0, .int .u64 0, .string ⟨#[]⟩] 33 (0, 0)) := by rw [← hW, ← hbl]; exact setRow_heap _ _ _ _ _ _ HZ
 rw [hW, hbl]
 clear hW hbl HZ
 have H5 := Lib.hid (H4.out.below hb)
 clear hb H4
 have H6 := Lib.hid (H5.out.row (hr))
 clear H5
 clear hr
 go_upto_region 6 with fail
 refine wp_region_lit ?_
 refine wpList_plain rfl (fun K hK => ?_); go_simp; refine hK _ _ ?_; clear hK K
 refine wpList_plain rfl (fun K hK => ?_); go_simp; refine hK _ _ ?_; clear hK K
 refine wpList_plain rfl (fun K hK => ?_); go_simp
 refine (HS2.out W3).mono ?_; intro e w4 hpost
 obtain ⟨hb, lo2, llo2, lc2, ja2, jt2, jk2, jbp2, jvp2, jbm2, jvm2, jbg2, jvg2, jsc2, jzc2, jgp2, jop2, po2, llp2, pc2, Xpu2, jgn2, jon2, no2, lln2, nc2, Xnu2, eo2, lle2, ec2, jf2, jth2, Xu2, v2, rfl⟩ := xp_form hpost
 clear hpost HS2
 have H7 := Lib.hid (H6.out.below hb)
 clear hb H6
 obtain ⟨E2, hE⟩ : ∃ E, Value.agg #[.slice lo2 llo2 lc2, .int .u64 ja2, .int .u64 jt2, .int .u64 jk2, .bool jbp2, .int .u64 jvp2, .bool jbm2, .int .u64 jvm2, .bool jbg2, .int .u64 jvg2, .int .i32 jsc2, .int .u64 jzc2, .bool jgp2, .int .i32 jop2, .slice po2 llp2 pc2, .string Xpu2, .bool jgn2, .int .i32 jon2, .slice no2 lln2 nc2, .string Xnu2, .slice eo2 lle2 ec2, .int .u32 jf2, .int .u64 jth2, .string Xu2] = E := ⟨_, rfl⟩
 rw [hE]
 have HE2 := Lib.hid hE
 clear hE
 refine hK _ _ ?_; clear hK K
 refine wpList_plain rfl (fun K hK => ?_); go_simp; refine hK _ _ ?_; clear hK K
 refine wpList_plain rfl (fun K hK => ?_); go_simp; refine hK _ _ ?_; clear hK K
 refine wpList_plain rfl (fun K hK => ?_); go_simp; refine hK _ _ ?_; clear hK K
 refine wpList_plain rfl (fun K hK => ?_); go_simp; refine hK _ _ ?_; clear hK K
 have HZ := heap_alloc_new w4 (.cells #[.slice none 0 0, .int .u64 0, .int .u64 0, .int .u64 0, .bool false, .int .u64 0, .bool false, .int .u64 0, .bool false, .int .u64 0, .int .i32 0, .int .u64 0, .bool false, .int .i32 0, .slice none 0 0, .string ⟨#[]⟩, .bool false, .int .i32 0, .slice none 0 0, .string ⟨#[]⟩, .slice none 0 0, .int .u32 0, .int .u64 0, .string ⟨#[]⟩] 33)
 refine wpList_store_row rfl 33 (.tmp 9) (.tmp 34) rfl w4.heap.size #[.slice lo2 llo2 lc2, .int .u64 ja2, .int .u64 jt2, .int .u64 jk2, .bool jbp2, .int .u64 jvp2, .bool jbm2, .int .u64 jvm2, .bool jbg2, .int .u64 jvg2, .int .i32 jsc2, .int .u64 jzc2, .bool jgp2, .int .i32 jop2, .slice po2 llp2 pc2, .string Xpu2, .bool jgn2, .int .i32 jon2, .slice no2 lln2 nc2, .string Xnu2, .slice eo2 lle2 ec2, .int .u32 jf2, .int .u64 jth2, .string Xu2] rfl (by show E2 = _; exact HE2.out.symm) 33 _ HZ (by kernel_rfl) rfl (by simp [Value.oneCell']) ?_
 obtain ⟨blr2, hbl⟩ : ∃ b, w4.heap.size = b := ⟨_, rfl⟩
 obtain ⟨W5, hW⟩ : ∃ W, (w4.alloc (.cells #[.slice none 0 0, .int .u64 0, .int .u64 0, .int .u64 0, .bool false, .int .u64 0, .bool false, .int .u64 0, .bool false, .int .u64 0, .int .i32 0, .int .u64 0, .bool false, .int .i32 0, .slice none 0 0, .string ⟨#[]⟩, .bool false, .int .i32 0, .slice none 0 0, .string ⟨#[]⟩, .slice none 0 0, .int .u32 0, .int .u64 0, .string ⟨#[]⟩] 33)).setRow w4.heap.size #[.slice lo2 llo2 lc2, .int .u64 ja2, .int .u64 jt2, .int .u64 jk2, .bool jbp2, .int .u64 jvp2, .bool jbm2, .int .u64 jvm2, .bool jbg2, .int .u64 jvg2, .int .i32 jsc2, .int .u64 jzc2, .bool jgp2, .int .i32 jop2, .slice po2 llp2 pc2, .string Xpu2, .bool jgn2, .int .i32 jon2, .slice no2 lln2 nc2, .string Xnu2, .slice eo2 lle2 ec2, .int .u32 jf2, .int .u64 jth2, .string Xu2] = W := ⟨_, rfl⟩
 have hb : Below w4.heap.size w4 W5 := by rw [← hW]; exact below_setRow (below_new _ _) (Nat.le_refl _) _
 have hr : W5.heap[blr2]? = some (.cells #[.slice lo2 llo2 lc2, .int .u64 ja2, .int .u64 jt2, .int .u64 jk2, .bool jbp2, .int .u64 jvp2, .bool jbm2, .int .u64 jvm2, .bool jbg2, .int .u64 jvg2, .int .i32 jsc2, .int .u64 jzc2, .bool jgp2, .int .i32 jop2, .slice po2 llp2 pc2, .string Xpu2, .bool jgn2, .int .i32 jon2, .slice no2 lln2 nc2, .string Xnu2, .slice eo2 lle2 ec2, .int .u32 jf2, .int .u64 jth2, .string Xu2] 33 (0, 0)) := by rw [← hW, ← hbl]; exact setRow_heap _ _ _ _ _ _ HZ
 rw [hW, hbl]
 clear hW hbl HZ
 have H8 := Lib.hid (H7.out.below hb)
 clear hb H7
 have H9 := Lib.hid (H8.out.row (hr))
 clear H8
 clear hr
 go_upto_region 7 with fail
 refine wp_region_lit ?_
 refine wpList_plain rfl (fun K hK => ?_); go_simp; refine hK _ _ ?_; clear hK K
 refine wpList_plain rfl (fun K hK => ?_); go_simp; refine hK _ _ ?_; clear hK K
 refine wpList_plain rfl (fun K hK => ?_); go_simp; refine hK _ _ ?_; clear hK K
 refine wpList_plain rfl (fun K hK => ?_); go_simp; refine hK _ _ ?_; clear hK K
 refine wpList_plain rfl (fun K hK => ?_); go_simp
 rw [HST.out]
 refine (HS3.out W5).mono ?_; intro e w6 hpost
 obtain ⟨hb, lo3, llo3, lc3, ja3, jt3, jk3, jbp3, jvp3, jbm3, jvm3, jbg3, jvg3, jsc3, jzc3, jgp3, jop3, po3, llp3, pc3, Xpu3, jgn3, jon3, no3, lln3, nc3, Xnu3, eo3, lle3, ec3, jf3, jth3, Xu3, v3, rfl⟩ := xp_form hpost
 clear hpost HS3
 have H10 := Lib.hid (H9.out.below hb)
 clear hb H9
 obtain ⟨E3, hE⟩ : ∃ E, Value.agg #[.slice lo3 llo3 lc3, .int .u64 ja3, .int .u64 jt3, .int .u64 jk3, .bool jbp3, .int .u64 jvp3, .bool jbm3, .int .u64 jvm3, .bool jbg3, .int .u64 jvg3, .int .i32 jsc3, .int .u64 jzc3, .bool jgp3, .int .i32 jop3, .slice po3 llp3 pc3, .string Xpu3, .bool jgn3, .int .i32 jon3, .slice no3 lln3 nc3, .string Xnu3, .slice eo3 lle3 ec3, .int .u32 jf3, .int .u64 jth3, .string Xu3] = E := ⟨_, rfl⟩
 rw [hE]
 have HE3 := Lib.hid hE
 clear hE
 refine hK _ _ ?_; clear hK K
 refine wpList_plain rfl (fun K hK => ?_); go_simp; refine hK _ _ ?_; clear hK K
 refine wpList_plain rfl (fun K hK => ?_); go_simp; refine hK _ _ ?_; clear hK K
 refine wpList_plain rfl (fun K hK => ?_); go_simp; refine hK _ _ ?_; clear hK K
 refine wpList_plain rfl (fun K hK => ?_); go_simp; refine hK _ _ ?_; clear hK K
 have HZ := heap_alloc_new w6 (.cells #[.slice none 0 0, .int .u64 0, .int .u64 0, .int .u64 0, .bool false, .int .u64 0, .bool false, .int .u64 0, .bool false, .int .u64 0, .int .i32 0, .int .u64 0, .bool false, .int .i32 0, .slice none 0 0, .string ⟨#[]⟩, .bool false, .int .i32 0, .slice none 0 0, .string ⟨#[]⟩, .slice none 0 0, .int .u32 0, .int .u64 0, .string ⟨#[]⟩] 33)
 refine wpList_store_row rfl 33 (.tmp 11) (.tmp 42) rfl w6.heap.size #[.slice lo3 llo3 lc3, .int .u64 ja3, .int .u64 jt3, .int .u64 jk3, .bool jbp3, .int .u64 jvp3, .bool jbm3, .int .u64 jvm3, .bool jbg3, .int .u64 jvg3, .int .i32 jsc3, .int .u64 jzc3, .bool jgp3, .int .i32 jop3, .slice po3 llp3 pc3, .string Xpu3, .bool jgn3, .int .i32 jon3, .slice no3 lln3 nc3, .string Xnu3, .slice eo3 lle3 ec3, .int .u32 jf3, .int .u64 jth3, .string Xu3] rfl (by show E3 = _; exact HE3.out.symm) 33 _ HZ (by kernel_rfl) rfl (by simp [Value.oneCell']) ?_
 obtain ⟨blr3, hbl⟩ : ∃ b, w6.heap.size = b := ⟨_, rfl⟩
 obtain ⟨W7, hW⟩ : ∃ W, (w6.alloc (.cells #[.slice none 0 0, .int .u64 0, .int .u64 0, .int .u64 0, .bool false, .int .u64 0, .bool false, .int .u64 0, .bool false, .int .u64 0, .int .i32 0, .int .u64 0, .bool false, .int .i32 0, .slice none 0 0, .string ⟨#[]⟩, .bool false, .int .i32 0, .slice none 0 0, .string ⟨#[]⟩, .slice none 0 0, .int .u32 0, .int .u64 0, .string ⟨#[]⟩] 33)).setRow w6.heap.size #[.slice lo3 llo3 lc3, .int .u64 ja3, .int .u64 jt3, .int .u64 jk3, .bool jbp3, .int .u64 jvp3, .bool jbm3, .int .u64 jvm3, .bool jbg3, .int .u64 jvg3, .int .i32 jsc3, .int .u64 jzc3, .bool jgp3, .int .i32 jop3, .slice po3 llp3 pc3, .string Xpu3, .bool jgn3, .int .i32 jon3, .slice no3 lln3 nc3, .string Xnu3, .slice eo3 lle3 ec3, .int .u32 jf3, .int .u64 jth3, .string Xu3] = W := ⟨_, rfl⟩
 have hb : Below w6.heap.size w6 W7 := by rw [← hW]; exact below_setRow (below_new _ _) (Nat.le_refl _) _
 have hr : W7.heap[blr3]? = some (.cells #[.slice lo3 llo3 lc3, .int .u64 ja3, .int .u64 jt3, .int .u64 jk3, .bool jbp3, .int .u64 jvp3, .bool jbm3, .int .u64 jvm3, .bool jbg3, .int .u64 jvg3, .int .i32 jsc3, .int .u64 jzc3, .bool jgp3, .int .i32 jop3, .slice po3 llp3 pc3, .string Xpu3, .bool jgn3, .int .i32 jon3, .slice no3 lln3 nc3, .string Xnu3, .slice eo3 lle3 ec3, .int .u32 jf3, .int .u64 jth3, .string Xu3] 33 (0, 0)) := by rw [← hW, ← hbl]; exact setRow_heap _ _ _ _ _ _ HZ
 rw [hW, hbl]
 clear hW hbl HZ
 have H11 := Lib.hid (H10.out.below hb)
 clear hb H10
 have H12 := Lib.hid (H11.out.row (hr))
 clear H11
 clear hr
 go_wp2_with fail
 refine (first14 W7).mono ?_; rintro e w8 ⟨rfl, hb⟩
 have H13 := Lib.hid (H12.out.below hb)
 clear hb H12
 go_wp2_with fail
 go_ret
 exact ⟨rfl, H13.out.is.2.2.2.1⟩
theorem xpjoin_B (s t : ByteArray) (d : Int) (w : World) (hd : -9223372036854775808 ≤ d ∧ d ≤ 9223372036854775807) (hs : s.size ≤ 3000) (ht : t.size ≤ 3000) {x : Xp} {c : Nat} (h1 : xprd s.data.toList d = .ok x) (h2 : xprd t.data.toList d = .error c) :
 Calls Try.prog 3 #[.string s, .string t, .int .i64 d] w fun e w' => e = .returned (.bool true) ∧ Below w.heap.size w w' := by
 have q0 : decide ((3000 : Int) < (s.size : Int)) = false := decide_eq_false (by omega)
 have q1 : decide ((3000 : Int) < (t.size : Int)) = false := decide_eq_false (by omega)
 have q2 : ¬ 9223372036854775807 < s.size + t.size := by omega
 have HS1 := Lib.hid (fun w' => xp_un s d w' (by omega) hd)
 have HS2 := Lib.hid (fun w' => xp_un t d w' (by omega) hd)
 obtain ⟨ST, hST⟩ : ∃ S, s ++ t = S := ⟨_, rfl⟩
 have hSTL : ST.data.toList = s.data.toList ++ t.data.toList := by rw [← hST]; simp
 have HS3 := Lib.hid (fun w' => xp_un ST d w' (by rw [← hST, ByteArray.size_append]; omega) hd)
 have HST := Lib.hid hST
 rw [h1] at HS1
 rw [h2] at HS2
 obtain ⟨⟨a1, ⟨t1, ⟨k1, ⟨⟨bp1, vp1⟩, ⟨sc1, ⟨zc1, ⟨⟨gp1, pb1, pu1⟩, ⟨⟨gn1, nb1, nu1⟩, ⟨l1, ⟨f1, ⟨es1, ⟨⟨bm1, vm1⟩, ⟨⟨bg1, vg1⟩, th1⟩⟩⟩⟩⟩⟩⟩⟩⟩⟩⟩⟩⟩, u1⟩ := x
 clear hd hs ht hST hSTL h1 h2
 have hb : Below w.heap.size w w := Below.refl _ _
 have H1 := Lib.hid (Fx.nil w)
 have H2 := Lib.hid (H1.out.base (hb))
 clear H1
 clear hb
 go_enter Try.func3, Try.ntmps3
 go_wp2_with fail
 refine (first14 w).mono ?_; rintro e w1 ⟨rfl, hb⟩
 have H3 := Lib.hid (H2.out.below hb)
 clear hb H2
 go_upto_region 5 with fail
 refine wp_region_lit ?_
 refine wpList_plain rfl (fun K hK => ?_); go_simp; refine hK _ _ ?_; clear hK K
 refine wpList_plain rfl (fun K hK => ?_); go_simp; refine hK _ _ ?_; clear hK K
 refine wpList_plain rfl (fun K hK => ?_); go_simp
 refine (HS1.out w1).mono ?_; rintro e w2 ⟨hb, cs, rfl, hrel⟩
 clear HS1
 have hr2 := hrel
 obtain ⟨lo1, lc1, po1, pc1, no1, nc1, eo1, ec1, rfl, _, _, _, _⟩ := hr2
 obtain ⟨Xpu1, epu1⟩ : ∃ X : ByteArray, (⟨pu1.toArray⟩ : ByteArray) = X := ⟨_, rfl⟩
 have HNpu1 := Lib.hid epu1
 clear epu1
 obtain ⟨Xnu1, enu1⟩ : ∃ X : ByteArray, (⟨nu1.toArray⟩ : ByteArray) = X := ⟨_, rfl⟩
 have HNnu1 := Lib.hid enu1
 clear enu1
 obtain ⟨Xu1, eu1⟩ : ∃ X : ByteArray, (⟨u1.toArray⟩ : ByteArray) = X := ⟨_, rfl⟩
 have HNu1 := Lib.hid eu1
 clear eu1
 dsimp only [strV]
 rw [HNpu1.out, HNnu1.out, HNu1.out]
 have H4 := Lib.hid (H3.out.below hb)
 clear hb H3
 clear hrel
 obtain ⟨E1, hE⟩ : ∃ E, Value.agg #[.slice lo1 l1.length lc1, .int .u64 (a1 : Int), .int .u64 (t1 : Int), .int .u64 (k1 : Int), .bool bp1, .int .u64 (vp1 : Int), .bool bm1, .int .u64 (vm1 : Int), .bool bg1, .int .u64 (vg1 : Int), .int .i32 sc1, .int .u64 (zc1 : Int), .bool gp1, .int .i32 pb1.off, .slice po1 pb1.cs.length pc1, .string Xpu1, .bool gn1, .int .i32 nb1.off, .slice no1 nb1.cs.length nc1, .string Xnu1, .slice eo1 es1.length ec1, .int .u32 (f1 : Int), .int .u64 (th1 : Int), .string Xu1] = E := ⟨_, rfl⟩
 rw [hE]
 have HE1 := Lib.hid hE
 clear hE
 refine hK _ _ ?_; clear hK K
 refine wpList_plain rfl (fun K hK => ?_); go_simp; refine hK _ _ ?_; clear hK K
 refine wpList_plain rfl (fun K hK => ?_); go_simp; refine hK _ _ ?_; clear hK K
 refine wpList_plain rfl (fun K hK => ?_); go_simp; refine hK _ _ ?_; clear hK K
 refine wpList_plain rfl (fun K hK => ?_); go_simp; refine hK _ _ ?_; clear hK K
 have HZ := heap_alloc_new w2 (.cells #[.slice none 0 0, .int .u64 0, .int .u64 0, .int .u64 0, .bool false, .int .u64 0, .bool false, .int .u64 0, .bool false, .int .u64 0, .int .i32 0, .int .u64 0, .bool false, .int .i32 0, .slice none 0 0, .string ⟨#[]⟩, .bool false, .int .i32 0, .slice none 0 0, .string ⟨#[]⟩, .slice none 0 0, .int .u32 0, .int .u64 0, .string ⟨#[]⟩] 33)
 refine wpList_store_row rfl 33 (.tmp 7) (.tmp 28) rfl w2.heap.size #[.slice lo1 l1.length lc1, .int .u64 (a1 : Int), .int .u64 (t1 : Int), .int .u64 (k1 : Int), .bool bp1, .int .u64 (vp1 : Int), .bool bm1, .int .u64 (vm1 : Int), .bool bg1, .int .u64 (vg1 : Int), .int .i32 sc1, .int .u64 (zc1 : Int), .bool gp1, .int .i32 pb1.off, .slice po1 pb1.cs.length pc1, .string Xpu1, .bool gn1, .int .i32 nb1.off, .slice no1 nb1.cs.length nc1, .string Xnu1, .slice eo1 es1.length ec1, .int .u32 (f1 : Int), .int .u64 (th1 : Int), .string Xu1] rfl (by show E1 = _; exact HE1.out.symm) 33 _ HZ (by kernel_rfl) rfl (by simp [Value.oneCell']) ?_
 obtain ⟨blr1, hbl⟩ : ∃ b, w2.heap.size = b := ⟨_, rfl⟩
 obtain ⟨W3, hW⟩ : ∃ W, (w2.alloc (.cells #[.slice none 0 0, .int .u64 0, .int .u64 0, .int .u64 0, .bool false, .int .u64 0, .bool false, .int .u64 0, .bool false, .int .u64 0, .int .i32 0, .int .u64 0, .bool false, .int .i32 0, .slice none 0 0, .string ⟨#[]⟩, .bool false, .int .i32 0, .slice none 0 0, .string ⟨#[]⟩, .slice none 0 0, .int .u32 0, .int .u64 0, .string ⟨#[]⟩] 33)).setRow w2.heap.size #[.slice lo1 l1.length lc1, .int .u64 (a1 : Int), .int .u64 (t1 : Int), .int .u64 (k1 : Int), .bool bp1, .int .u64 (vp1 : Int), .bool bm1, .int .u64 (vm1 : Int), .bool bg1, .int .u64 (vg1 : Int), .int .i32 sc1, .int .u64 (zc1 : Int), .bool gp1, .int .i32 pb1.off, .slice po1 pb1.cs.length pc1, .string Xpu1, .bool gn1, .int .i32 nb1.off, .slice no1 nb1.cs.length nc1, .string Xnu1, .slice eo1 es1.length ec1, .int .u32 (f1 : Int), .int .u64 (th1 : Int), .string Xu1] = W := ⟨_, rfl⟩
 have hb : Below w2.heap.size w2 W3 := by rw [← hW]; exact below_setRow (below_new _ _) (Nat.le_refl _) _
 have hr : W3.heap[blr1]? = some (.cells #[.slice lo1 l1.length lc1, .int .u64 (a1 : Int), .int .u64 (t1 : Int), .int .u64 (k1 : Int), .bool bp1, .int .u64 (vp1 : Int), .bool bm1, .int .u64 (vm1 : Int), .bool bg1, .int .u64 (vg1 : Int), .int .i32 sc1, .int .u64 (zc1 : Int), .bool gp1, .int .i32 pb1.off, .slice po1 pb1.cs.length pc1, .string Xpu1, .bool gn1, .int .i32 nb1.off, .slice no1 nb1.cs.length nc1, .string Xnu1, .slice eo1 es1.length ec1, .int .u32 (f1 : Int), .int .u64 (th1 : Int), .string Xu1] 33 (0, 0)) := by rw [← hW, ← hbl]; exact setRow_heap _ _ _ _ _ _ HZ
 rw [hW, hbl]
 clear hW hbl HZ
 have H5 := Lib.hid (H4.out.below hb)
 clear hb H4
 have H6 := Lib.hid (H5.out.row (hr))
 clear H5
 clear hr
 go_upto_region 6 with fail
 refine wp_region_lit ?_
 refine wpList_plain rfl (fun K hK => ?_); go_simp; refine hK _ _ ?_; clear hK K
 refine wpList_plain rfl (fun K hK => ?_); go_simp; refine hK _ _ ?_; clear hK K
 refine wpList_plain rfl (fun K hK => ?_); go_simp
 refine (HS2.out W3).mono ?_; rintro e w4 ⟨hb, v2, q2, rfl, _, hew⟩
 obtain ⟨T2, y2, rfl⟩ := hew.iface
 clear HS2
 unfold xpzero
 have H7 := Lib.hid (H6.out.below hb)
 clear hb H6
 clear hew
 obtain ⟨E2, hE⟩ : ∃ E, Value.agg #[.slice none 0 0, .int .u64 0, .int .u64 0, .int .u64 0, .bool false, .int .u64 0, .bool false, .int .u64 0, .bool false, .int .u64 0, .int .i32 0, .int .u64 0, .bool false, .int .i32 0, .slice none 0 0, .string ⟨#[]⟩, .bool false, .int .i32 0, .slice none 0 0, .string ⟨#[]⟩, .slice none 0 0, .int .u32 0, .int .u64 0, .string ⟨#[]⟩] = E := ⟨_, rfl⟩
 rw [hE]
 have HE2 := Lib.hid hE
 clear hE
 refine hK _ _ ?_; clear hK K
 refine wpList_plain rfl (fun K hK => ?_); go_simp; refine hK _ _ ?_; clear hK K
 refine wpList_plain rfl (fun K hK => ?_); go_simp; refine hK _ _ ?_; clear hK K
 refine wpList_plain rfl (fun K hK => ?_); go_simp; refine hK _ _ ?_; clear hK K
 refine wpList_plain rfl (fun K hK => ?_); go_simp; refine hK _ _ ?_; clear hK K
 have HZ := heap_alloc_new w4 (.cells #[.slice none 0 0, .int .u64 0, .int .u64 0, .int .u64 0, .bool false, .int .u64 0, .bool false, .int .u64 0, .bool false, .int .u64 0, .int .i32 0, .int .u64 0, .bool false, .int .i32 0, .slice none 0 0, .string ⟨#[]⟩, .bool false, .int .i32 0, .slice none 0 0, .string ⟨#[]⟩, .slice none 0 0, .int .u32 0, .int .u64 0, .string ⟨#[]⟩] 33)
 refine wpList_store_row rfl 33 (.tmp 9) (.tmp 34) rfl w4.heap.size #[.slice none 0 0, .int .u64 0, .int .u64 0, .int .u64 0, .bool false, .int .u64 0, .bool false, .int .u64 0, .bool false, .int .u64 0, .int .i32 0, .int .u64 0, .bool false, .int .i32 0, .slice none 0 0, .string ⟨#[]⟩, .bool false, .int .i32 0, .slice none 0 0, .string ⟨#[]⟩, .slice none 0 0, .int .u32 0, .int .u64 0, .string ⟨#[]⟩] rfl (by show E2 = _; exact HE2.out.symm) 33 _ HZ (by kernel_rfl) rfl (by simp [Value.oneCell']) ?_
 obtain ⟨blr2, hbl⟩ : ∃ b, w4.heap.size = b := ⟨_, rfl⟩
 obtain ⟨W5, hW⟩ : ∃ W, (w4.alloc (.cells #[.slice none 0 0, .int .u64 0, .int .u64 0, .int .u64 0, .bool false, .int .u64 0, .bool false, .int .u64 0, .bool false, .int .u64 0, .int .i32 0, .int .u64 0, .bool false, .int .i32 0, .slice none 0 0, .string ⟨#[]⟩, .bool false, .int .i32 0, .slice none 0 0, .string ⟨#[]⟩, .slice none 0 0, .int .u32 0, .int .u64 0, .string ⟨#[]⟩] 33)).setRow w4.heap.size #[.slice none 0 0, .int .u64 0, .int .u64 0, .int .u64 0, .bool false, .int .u64 0, .bool false, .int .u64 0, .bool false, .int .u64 0, .int .i32 0, .int .u64 0, .bool false, .int .i32 0, .slice none 0 0, .string ⟨#[]⟩, .bool false, .int .i32 0, .slice none 0 0, .string ⟨#[]⟩, .slice none 0 0, .int .u32 0, .int .u64 0, .string ⟨#[]⟩] = W := ⟨_, rfl⟩
 have hb : Below w4.heap.size w4 W5 := by rw [← hW]; exact below_setRow (below_new _ _) (Nat.le_refl _) _
 have hr : W5.heap[blr2]? = some (.cells #[.slice none 0 0, .int .u64 0, .int .u64 0, .int .u64 0, .bool false, .int .u64 0, .bool false, .int .u64 0, .bool false, .int .u64 0, .int .i32 0, .int .u64 0, .bool false, .int .i32 0, .slice none 0 0, .string ⟨#[]⟩, .bool false, .int .i32 0, .slice none 0 0, .string ⟨#[]⟩, .slice none 0 0, .int .u32 0, .int .u64 0, .string ⟨#[]⟩] 33 (0, 0)) := by rw [← hW, ← hbl]; exact setRow_heap _ _ _ _ _ _ HZ
 rw [hW, hbl]
 clear hW hbl HZ
 have H8 := Lib.hid (H7.out.below hb)
 clear hb H7
 have H9 := Lib.hid (H8.out.row (hr))
 clear H8
 clear hr
 go_upto_region 7 with fail
 refine wp_region_lit ?_
 refine wpList_plain rfl (fun K hK => ?_); go_simp; refine hK _ _ ?_; clear hK K
 refine wpList_plain rfl (fun K hK => ?_); go_simp; refine hK _ _ ?_; clear hK K
 refine wpList_plain rfl (fun K hK => ?_); go_simp; refine hK _ _ ?_; clear hK K
 refine wpList_plain rfl (fun K hK => ?_); go_simp; refine hK _ _ ?_; clear hK K
 refine wpList_plain rfl (fun K hK => ?_); go_simp
 rw [HST.out]
 refine (HS3.out W5).mono ?_; intro e w6 hpost
 obtain ⟨hb, lo3, llo3, lc3, ja3, jt3, jk3, jbp3, jvp3, jbm3, jvm3, jbg3, jvg3, jsc3, jzc3, jgp3, jop3, po3, llp3, pc3, Xpu3, jgn3, jon3, no3, lln3, nc3, Xnu3, eo3, lle3, ec3, jf3, jth3, Xu3, v3, rfl⟩ := xp_form hpost
 clear hpost HS3
 have H10 := Lib.hid (H9.out.below hb)
 clear hb H9
 obtain ⟨E3, hE⟩ : ∃ E, Value.agg #[.slice lo3 llo3 lc3, .int .u64 ja3, .int .u64 jt3, .int .u64 jk3, .bool jbp3, .int .u64 jvp3, .bool jbm3, .int .u64 jvm3, .bool jbg3, .int .u64 jvg3, .int .i32 jsc3, .int .u64 jzc3, .bool jgp3, .int .i32 jop3, .slice po3 llp3 pc3, .string Xpu3, .bool jgn3, .int .i32 jon3, .slice no3 lln3 nc3, .string Xnu3, .slice eo3 lle3 ec3, .int .u32 jf3, .int .u64 jth3, .string Xu3] = E := ⟨_, rfl⟩
 rw [hE]
 have HE3 := Lib.hid hE
 clear hE
 refine hK _ _ ?_; clear hK K
 refine wpList_plain rfl (fun K hK => ?_); go_simp; refine hK _ _ ?_; clear hK K
 refine wpList_plain rfl (fun K hK => ?_); go_simp; refine hK _ _ ?_; clear hK K
 refine wpList_plain rfl (fun K hK => ?_); go_simp; refine hK _ _ ?_; clear hK K
 refine wpList_plain rfl (fun K hK => ?_); go_simp; refine hK _ _ ?_; clear hK K
 have HZ := heap_alloc_new w6 (.cells #[.slice none 0 0, .int .u64 0, .int .u64 0, .int .u64 0, .bool false, .int .u64 0, .bool false, .int .u64 0, .bool false, .int .u64 0, .int .i32 0, .int .u64 0, .bool false, .int .i32 0, .slice none 0 0, .string ⟨#[]⟩, .bool false, .int .i32 0, .slice none 0 0, .string ⟨#[]⟩, .slice none 0 0, .int .u32 0, .int .u64 0, .string ⟨#[]⟩] 33)
 refine wpList_store_row rfl 33 (.tmp 11) (.tmp 42) rfl w6.heap.size #[.slice lo3 llo3 lc3, .int .u64 ja3, .int .u64 jt3, .int .u64 jk3, .bool jbp3, .int .u64 jvp3, .bool jbm3, .int .u64 jvm3, .bool jbg3, .int .u64 jvg3, .int .i32 jsc3, .int .u64 jzc3, .bool jgp3, .int .i32 jop3, .slice po3 llp3 pc3, .string Xpu3, .bool jgn3, .int .i32 jon3, .slice no3 lln3 nc3, .string Xnu3, .slice eo3 lle3 ec3, .int .u32 jf3, .int .u64 jth3, .string Xu3] rfl (by show E3 = _; exact HE3.out.symm) 33 _ HZ (by kernel_rfl) rfl (by simp [Value.oneCell']) ?_
 obtain ⟨blr3, hbl⟩ : ∃ b, w6.heap.size = b := ⟨_, rfl⟩
 obtain ⟨W7, hW⟩ : ∃ W, (w6.alloc (.cells #[.slice none 0 0, .int .u64 0, .int .u64 0, .int .u64 0, .bool false, .int .u64 0, .bool false, .int .u64 0, .bool false, .int .u64 0, .int .i32 0, .int .u64 0, .bool false, .int .i32 0, .slice none 0 0, .string ⟨#[]⟩, .bool false, .int .i32 0, .slice none 0 0, .string ⟨#[]⟩, .slice none 0 0, .int .u32 0, .int .u64 0, .string ⟨#[]⟩] 33)).setRow w6.heap.size #[.slice lo3 llo3 lc3, .int .u64 ja3, .int .u64 jt3, .int .u64 jk3, .bool jbp3, .int .u64 jvp3, .bool jbm3, .int .u64 jvm3, .bool jbg3, .int .u64 jvg3, .int .i32 jsc3, .int .u64 jzc3, .bool jgp3, .int .i32 jop3, .slice po3 llp3 pc3, .string Xpu3, .bool jgn3, .int .i32 jon3, .slice no3 lln3 nc3, .string Xnu3, .slice eo3 lle3 ec3, .int .u32 jf3, .int .u64 jth3, .string Xu3] = W := ⟨_, rfl⟩
 have hb : Below w6.heap.size w6 W7 := by rw [← hW]; exact below_setRow (below_new _ _) (Nat.le_refl _) _
 have hr : W7.heap[blr3]? = some (.cells #[.slice lo3 llo3 lc3, .int .u64 ja3, .int .u64 jt3, .int .u64 jk3, .bool jbp3, .int .u64 jvp3, .bool jbm3, .int .u64 jvm3, .bool jbg3, .int .u64 jvg3, .int .i32 jsc3, .int .u64 jzc3, .bool jgp3, .int .i32 jop3, .slice po3 llp3 pc3, .string Xpu3, .bool jgn3, .int .i32 jon3, .slice no3 lln3 nc3, .string Xnu3, .slice eo3 lle3 ec3, .int .u32 jf3, .int .u64 jth3, .string Xu3] 33 (0, 0)) := by rw [← hW, ← hbl]; exact setRow_heap _ _ _ _ _ _ HZ
 rw [hW, hbl]
 clear hW hbl HZ
 have H11 := Lib.hid (H10.out.below hb)
 clear hb H10
 have H12 := Lib.hid (H11.out.row (hr))
 clear H11
 clear hr
 go_wp2_with fail
 refine (first14 W7).mono ?_; rintro e w8 ⟨rfl, hb⟩
 have H13 := Lib.hid (H12.out.below hb)
 clear hb H12
 go_wp2_with fail
 go_ret
 exact ⟨rfl, H13.out.is.2.2.2.1⟩
theorem xpjoin_C (s t : ByteArray) (d : Int) (w : World) (hd : -9223372036854775808 ≤ d ∧ d ≤ 9223372036854775807) (hs : s.size ≤ 3000) (ht : t.size ≤ 3000) {x y : Xp} (h1 : xprd s.data.toList d = .ok x) (h2 : xprd t.data.toList d = .ok y) :
 Calls Try.prog 3 #[.string s, .string t, .int .i64 d] w fun e w' => e = .returned (.bool true) ∧ Below w.heap.size w w' := by
 have q0 : decide ((3000 : Int) < (s.size : Int)) = false := decide_eq_false (by omega)
 have q1 : decide ((3000 : Int) < (t.size : Int)) = false := decide_eq_false (by omega)
 have q2 : ¬ 9223372036854775807 < s.size + t.size := by omega
 have HS1 := Lib.hid (fun w' => xp_un s d w' (by omega) hd)
 have HS2 := Lib.hid (fun w' => xp_un t d w' (by omega) hd)
 obtain ⟨ST, hST⟩ : ∃ S, s ++ t = S := ⟨_, rfl⟩
 have hSTL : ST.data.toList = s.data.toList ++ t.data.toList := by rw [← hST]; simp
 have HS3 := Lib.hid (fun w' => xp_un ST d w' (by rw [← hST, ByteArray.size_append]; omega) hd)
 have HST := Lib.hid hST
 rw [h1] at HS1
 rw [h2] at HS2
 obtain ⟨⟨a1, ⟨t1, ⟨k1, ⟨⟨bp1, vp1⟩, ⟨sc1, ⟨zc1, ⟨⟨gp1, pb1, pu1⟩, ⟨⟨gn1, nb1, nu1⟩, ⟨l1, ⟨f1, ⟨es1, ⟨⟨bm1, vm1⟩, ⟨⟨bg1, vg1⟩, th1⟩⟩⟩⟩⟩⟩⟩⟩⟩⟩⟩⟩⟩, u1⟩ := x
 obtain ⟨⟨a2, ⟨t2, ⟨k2, ⟨⟨bp2, vp2⟩, ⟨sc2, ⟨zc2, ⟨⟨gp2, pb2, pu2⟩, ⟨⟨gn2, nb2, nu2⟩, ⟨l2, ⟨f2, ⟨es2, ⟨⟨bm2, vm2⟩, ⟨⟨bg2, vg2⟩, th2⟩⟩⟩⟩⟩⟩⟩⟩⟩⟩⟩⟩⟩, u2⟩ := y
 obtain ⟨a3, t3, k3, bp3, vp3, sc3, zc3, gp3, pb3, pu3, gn3, nb3, nu3, l3, f3, es3, bm3, vm3, bg3, vg3, th3, h3, hlen_l, hgp, hlen_p, hpu, hlen_n⟩ := xp_join h1 h2
 rw [hSTL, h3] at HS3
 have hu1 := xprd_unk h1
 have hu2 := xprd_unk h2
 obtain ⟨_, _, _, _, _, _, _, _, _, _, _, _, _, _, hwa⟩ := (xp_twice (by simp; omega) h1).2
 obtain ⟨_, _, _, _, _, _, _, _, _, _, _, _, _, _, hwb⟩ := (xp_twice (by simp; omega) h2).2
 have hka := ksw_len l1
 have hkb := ksw_len l2
 have q3l : IntKind.i64.wrap ((l1.length : Int) + (l2.length : Int)) = (l1.length : Int) + (l2.length : Int) := i64_wrap_id (by omega) (by omega)
 have q4l : ((l3.length : Int) == (l1.length : Int) + (l2.length : Int)) = true := by rw [beq_iff_eq, hlen_l]; omega
 have q3p : IntKind.i64.wrap ((pb1.cs.length : Int) + (pb2.cs.length : Int)) = (pb1.cs.length : Int) + (pb2.cs.length : Int) := i64_wrap_id (by omega) (by omega)
 have q4p : ((pb3.cs.length : Int) == (pb1.cs.length : Int) + (pb2.cs.length : Int)) = true := by rw [beq_iff_eq, hlen_p]; omega
 have q3n : IntKind.i64.wrap ((nb1.cs.length : Int) + (nb2.cs.length : Int)) = (nb1.cs.length : Int) + (nb2.cs.length : Int) := i64_wrap_id (by omega) (by omega)
 have q4n : ((nb3.cs.length : Int) == (nb1.cs.length : Int) + (nb2.cs.length : Int)) = true := by rw [beq_iff_eq, hlen_n]; omega
 have hsz1 : s.data.toList.length = s.size := by simp
 have hsz2 : t.data.toList.length = t.size := by simp
 have HLU := Lib.hid (And.intro (show u1.length ≤ 3000 by omega) (show u2.length ≤ 3000 by omega))
 have HLP := Lib.hid (And.intro (show pu1.length ≤ 400000 by omega) (show pu2.length ≤ 400000 by omega))
 have HGP := Lib.hid hgp
 have HPU := Lib.hid hpu
 clear hu1 hu2 hwa hwb hka hkb hlen_l hlen_p hlen_n hsz1 hsz2 h3 hgp hpu
 clear hd hs ht hST hSTL h1 h2
 have hb : Below w.heap.size w w := Below.refl _ _
 have H1 := Lib.hid (Fx.nil w)
 have H2 := Lib.hid (H1.out.base (hb))
 clear H1
 clear hb
 go_enter Try.func3, Try.ntmps3
 go_wp2_with fail
 refine (first14 w).mono ?_; rintro e w1 ⟨rfl, hb⟩
 have H3 := Lib.hid (H2.out.below hb)
 clear hb H2
 go_upto_region 5 with fail
 refine wp_region_lit ?_
 refine wpList_plain rfl (fun K hK => ?_); go_simp; refine hK _ _ ?_; clear hK K
 refine wpList_plain rfl (fun K hK => ?_); go_simp; refine hK _ _ ?_; clear hK K
 refine wpList_plain rfl (fun K hK => ?_); go_simp
 refine (HS1.out w1).mono ?_; rintro e w2 ⟨hb, cs, rfl, hrel⟩
 clear HS1
 have hr2 := hrel
 obtain ⟨lo1, lc1, po1, pc1, no1, nc1, eo1, ec1, rfl, _, _, _, _⟩ := hr2
 obtain ⟨Xpu1, epu1⟩ : ∃ X : ByteArray, (⟨pu1.toArray⟩ : ByteArray) = X := ⟨_, rfl⟩
 have HNpu1 := Lib.hid epu1
 clear epu1
 obtain ⟨Xnu1, enu1⟩ : ∃ X : ByteArray, (⟨nu1.toArray⟩ : ByteArray) = X := ⟨_, rfl⟩
 have HNnu1 := Lib.hid enu1
 clear enu1
 obtain ⟨Xu1, eu1⟩ : ∃ X : ByteArray, (⟨u1.toArray⟩ : ByteArray) = X := ⟨_, rfl⟩
 have HNu1 := Lib.hid eu1
 clear eu1
 dsimp only [strV]
 rw [HNpu1.out, HNnu1.out, HNu1.out]
 have H4 := Lib.hid (H3.out.below hb)
 clear hb H3
 clear hrel
 obtain ⟨E1, hE⟩ : ∃ E, Value.agg #[.slice lo1 l1.length lc1, .int .u64 (a1 : Int), .int .u64 (t1 : Int), .int .u64 (k1 : Int), .bool bp1, .int .u64 (vp1 : Int), .bool bm1, .int .u64 (vm1 : Int), .bool bg1, .int .u64 (vg1 : Int), .int .i32 sc1, .int .u64 (zc1 : Int), .bool gp1, .int .i32 pb1.off, .slice po1 pb1.cs.length pc1, .string Xpu1, .bool gn1, .int .i32 nb1.off, .slice no1 nb1.cs.length nc1, .string Xnu1, .slice eo1 es1.length ec1, .int .u32 (f1 : Int), .int .u64 (th1 : Int), .string Xu1] = E := ⟨_, rfl⟩
 rw [hE]
 have HE1 := Lib.hid hE
 clear hE
 refine hK _ _ ?_; clear hK K
 refine wpList_plain rfl (fun K hK => ?_); go_simp; refine hK _ _ ?_; clear hK K
 refine wpList_plain rfl (fun K hK => ?_); go_simp; refine hK _ _ ?_; clear hK K
 refine wpList_plain rfl (fun K hK => ?_); go_simp; refine hK _ _ ?_; clear hK K
 refine wpList_plain rfl (fun K hK => ?_); go_simp; refine hK _ _ ?_; clear hK K
 have HZ := heap_alloc_new w2 (.cells #[.slice none 0 0, .int .u64 0, .int .u64 0, .int .u64 0, .bool false, .int .u64 0, .bool false, .int .u64 0, .bool false, .int .u64 0, .int .i32 0, .int .u64 0, .bool false, .int .i32 0, .slice none 0 0, .string ⟨#[]⟩, .bool false, .int .i32 0, .slice none 0 0, .string ⟨#[]⟩, .slice none 0 0, .int .u32 0, .int .u64 0, .string ⟨#[]⟩] 33)
 refine wpList_store_row rfl 33 (.tmp 7) (.tmp 28) rfl w2.heap.size #[.slice lo1 l1.length lc1, .int .u64 (a1 : Int), .int .u64 (t1 : Int), .int .u64 (k1 : Int), .bool bp1, .int .u64 (vp1 : Int), .bool bm1, .int .u64 (vm1 : Int), .bool bg1, .int .u64 (vg1 : Int), .int .i32 sc1, .int .u64 (zc1 : Int), .bool gp1, .int .i32 pb1.off, .slice po1 pb1.cs.length pc1, .string Xpu1, .bool gn1, .int .i32 nb1.off, .slice no1 nb1.cs.length nc1, .string Xnu1, .slice eo1 es1.length ec1, .int .u32 (f1 : Int), .int .u64 (th1 : Int), .string Xu1] rfl (by show E1 = _; exact HE1.out.symm) 33 _ HZ (by kernel_rfl) rfl (by simp [Value.oneCell']) ?_
 obtain ⟨blr1, hbl⟩ : ∃ b, w2.heap.size = b := ⟨_, rfl⟩
 obtain ⟨W3, hW⟩ : ∃ W, (w2.alloc (.cells #[.slice none 0 0, .int .u64 0, .int .u64 0, .int .u64 0, .bool false, .int .u64 0, .bool false, .int .u64 0, .bool false, .int .u64 0, .int .i32 0, .int .u64 0, .bool false, .int .i32 0, .slice none 0 0, .string ⟨#[]⟩, .bool false, .int .i32 0, .slice none 0 0, .string ⟨#[]⟩, .slice none 0 0, .int .u32 0, .int .u64 0, .string ⟨#[]⟩] 33)).setRow w2.heap.size #[.slice lo1 l1.length lc1, .int .u64 (a1 : Int), .int .u64 (t1 : Int), .int .u64 (k1 : Int), .bool bp1, .int .u64 (vp1 : Int), .bool bm1, .int .u64 (vm1 : Int), .bool bg1, .int .u64 (vg1 : Int), .int .i32 sc1, .int .u64 (zc1 : Int), .bool gp1, .int .i32 pb1.off, .slice po1 pb1.cs.length pc1, .string Xpu1, .bool gn1, .int .i32 nb1.off, .slice no1 nb1.cs.length nc1, .string Xnu1, .slice eo1 es1.length ec1, .int .u32 (f1 : Int), .int .u64 (th1 : Int), .string Xu1] = W := ⟨_, rfl⟩
 have hb : Below w2.heap.size w2 W3 := by rw [← hW]; exact below_setRow (below_new _ _) (Nat.le_refl _) _
 have hr : W3.heap[blr1]? = some (.cells #[.slice lo1 l1.length lc1, .int .u64 (a1 : Int), .int .u64 (t1 : Int), .int .u64 (k1 : Int), .bool bp1, .int .u64 (vp1 : Int), .bool bm1, .int .u64 (vm1 : Int), .bool bg1, .int .u64 (vg1 : Int), .int .i32 sc1, .int .u64 (zc1 : Int), .bool gp1, .int .i32 pb1.off, .slice po1 pb1.cs.length pc1, .string Xpu1, .bool gn1, .int .i32 nb1.off, .slice no1 nb1.cs.length nc1, .string Xnu1, .slice eo1 es1.length ec1, .int .u32 (f1 : Int), .int .u64 (th1 : Int), .string Xu1] 33 (0, 0)) := by rw [← hW, ← hbl]; exact setRow_heap _ _ _ _ _ _ HZ
 rw [hW, hbl]
 clear hW hbl HZ
 have H5 := Lib.hid (H4.out.below hb)
 clear hb H4
 have H6 := Lib.hid (H5.out.row (hr))
 clear H5
 clear hr
 go_upto_region 6 with fail
 refine wp_region_lit ?_
 refine wpList_plain rfl (fun K hK => ?_); go_simp; refine hK _ _ ?_; clear hK K
 refine wpList_plain rfl (fun K hK => ?_); go_simp; refine hK _ _ ?_; clear hK K
 refine wpList_plain rfl (fun K hK => ?_); go_simp
 refine (HS2.out W3).mono ?_; rintro e w4 ⟨hb, cs, rfl, hrel⟩
 clear HS2
 have hr2 := hrel
 obtain ⟨lo2, lc2, po2, pc2, no2, nc2, eo2, ec2, rfl, _, _, _, _⟩ := hr2
 obtain ⟨Xpu2, epu2⟩ : ∃ X : ByteArray, (⟨pu2.toArray⟩ : ByteArray) = X := ⟨_, rfl⟩
 have HNpu2 := Lib.hid epu2
 clear epu2
 obtain ⟨Xnu2, enu2⟩ : ∃ X : ByteArray, (⟨nu2.toArray⟩ : ByteArray) = X := ⟨_, rfl⟩
 have HNnu2 := Lib.hid enu2
 clear enu2
 obtain ⟨Xu2, eu2⟩ : ∃ X : ByteArray, (⟨u2.toArray⟩ : ByteArray) = X := ⟨_, rfl⟩
 have HNu2 := Lib.hid eu2
 clear eu2
 dsimp only [strV]
 rw [HNpu2.out, HNnu2.out, HNu2.out]
 have H7 := Lib.hid (H6.out.below hb)
 clear hb H6
 clear hrel
 obtain ⟨E2, hE⟩ : ∃ E, Value.agg #[.slice lo2 l2.length lc2, .int .u64 (a2 : Int), .int .u64 (t2 : Int), .int .u64 (k2 : Int), .bool bp2, .int .u64 (vp2 : Int), .bool bm2, .int .u64 (vm2 : Int), .bool bg2, .int .u64 (vg2 : Int), .int .i32 sc2, .int .u64 (zc2 : Int), .bool gp2, .int .i32 pb2.off, .slice po2 pb2.cs.length pc2, .string Xpu2, .bool gn2, .int .i32 nb2.off, .slice no2 nb2.cs.length nc2, .string Xnu2, .slice eo2 es2.length ec2, .int .u32 (f2 : Int), .int .u64 (th2 : Int), .string Xu2] = E := ⟨_, rfl⟩
 rw [hE]
 have HE2 := Lib.hid hE
 clear hE
 refine hK _ _ ?_; clear hK K
 refine wpList_plain rfl (fun K hK => ?_); go_simp; refine hK _ _ ?_; clear hK K
 refine wpList_plain rfl (fun K hK => ?_); go_simp; refine hK _ _ ?_; clear hK K
 refine wpList_plain rfl (fun K hK => ?_); go_simp; refine hK _ _ ?_; clear hK K
 refine wpList_plain rfl (fun K hK => ?_); go_simp; refine hK _ _ ?_; clear hK K
 have HZ := heap_alloc_new w4 (.cells #[.slice none 0 0, .int .u64 0, .int .u64 0, .int .u64 0, .bool false, .int .u64 0, .bool false, .int .u64 0, .bool false, .int .u64 0, .int .i32 0, .int .u64 0, .bool false, .int .i32 0, .slice none 0 0, .string ⟨#[]⟩, .bool false, .int .i32 0, .slice none 0 0, .string ⟨#[]⟩, .slice none 0 0, .int .u32 0, .int .u64 0, .string ⟨#[]⟩] 33)
 refine wpList_store_row rfl 33 (.tmp 9) (.tmp 34) rfl w4.heap.size #[.slice lo2 l2.length lc2, .int .u64 (a2 : Int), .int .u64 (t2 : Int), .int .u64 (k2 : Int), .bool bp2, .int .u64 (vp2 : Int), .bool bm2, .int .u64 (vm2 : Int), .bool bg2, .int .u64 (vg2 : Int), .int .i32 sc2, .int .u64 (zc2 : Int), .bool gp2, .int .i32 pb2.off, .slice po2 pb2.cs.length pc2, .string Xpu2, .bool gn2, .int .i32 nb2.off, .slice no2 nb2.cs.length nc2, .string Xnu2, .slice eo2 es2.length ec2, .int .u32 (f2 : Int), .int .u64 (th2 : Int), .string Xu2] rfl (by show E2 = _; exact HE2.out.symm) 33 _ HZ (by kernel_rfl) rfl (by simp [Value.oneCell']) ?_
 obtain ⟨blr2, hbl⟩ : ∃ b, w4.heap.size = b := ⟨_, rfl⟩
 obtain ⟨W5, hW⟩ : ∃ W, (w4.alloc (.cells #[.slice none 0 0, .int .u64 0, .int .u64 0, .int .u64 0, .bool false, .int .u64 0, .bool false, .int .u64 0, .bool false, .int .u64 0, .int .i32 0, .int .u64 0, .bool false, .int .i32 0, .slice none 0 0, .string ⟨#[]⟩, .bool false, .int .i32 0, .slice none 0 0, .string ⟨#[]⟩, .slice none 0 0, .int .u32 0, .int .u64 0, .string ⟨#[]⟩] 33)).setRow w4.heap.size #[.slice lo2 l2.length lc2, .int .u64 (a2 : Int), .int .u64 (t2 : Int), .int .u64 (k2 : Int), .bool bp2, .int .u64 (vp2 : Int), .bool bm2, .int .u64 (vm2 : Int), .bool bg2, .int .u64 (vg2 : Int), .int .i32 sc2, .int .u64 (zc2 : Int), .bool gp2, .int .i32 pb2.off, .slice po2 pb2.cs.length pc2, .string Xpu2, .bool gn2, .int .i32 nb2.off, .slice no2 nb2.cs.length nc2, .string Xnu2, .slice eo2 es2.length ec2, .int .u32 (f2 : Int), .int .u64 (th2 : Int), .string Xu2] = W := ⟨_, rfl⟩
 have hb : Below w4.heap.size w4 W5 := by rw [← hW]; exact below_setRow (below_new _ _) (Nat.le_refl _) _
 have hr : W5.heap[blr2]? = some (.cells #[.slice lo2 l2.length lc2, .int .u64 (a2 : Int), .int .u64 (t2 : Int), .int .u64 (k2 : Int), .bool bp2, .int .u64 (vp2 : Int), .bool bm2, .int .u64 (vm2 : Int), .bool bg2, .int .u64 (vg2 : Int), .int .i32 sc2, .int .u64 (zc2 : Int), .bool gp2, .int .i32 pb2.off, .slice po2 pb2.cs.length pc2, .string Xpu2, .bool gn2, .int .i32 nb2.off, .slice no2 nb2.cs.length nc2, .string Xnu2, .slice eo2 es2.length ec2, .int .u32 (f2 : Int), .int .u64 (th2 : Int), .string Xu2] 33 (0, 0)) := by rw [← hW, ← hbl]; exact setRow_heap _ _ _ _ _ _ HZ
 rw [hW, hbl]
 clear hW hbl HZ
 have H8 := Lib.hid (H7.out.below hb)
 clear hb H7
 have H9 := Lib.hid (H8.out.row (hr))
 clear H8
 clear hr
 go_upto_region 7 with fail
 refine wp_region_lit ?_
 refine wpList_plain rfl (fun K hK => ?_); go_simp; refine hK _ _ ?_; clear hK K
 refine wpList_plain rfl (fun K hK => ?_); go_simp; refine hK _ _ ?_; clear hK K
 refine wpList_plain rfl (fun K hK => ?_); go_simp; refine hK _ _ ?_; clear hK K
 refine wpList_plain rfl (fun K hK => ?_); go_simp; refine hK _ _ ?_; clear hK K
 refine wpList_plain rfl (fun K hK => ?_); go_simp
 rw [HST.out]
 refine (HS3.out W5).mono ?_; rintro e w6 ⟨hb, cs, rfl, hrel⟩
 clear HS3
 have hr2 := hrel
 obtain ⟨lo3, lc3, po3, pc3, no3, nc3, eo3, ec3, rfl, _, _, _, _⟩ := hr2
 obtain ⟨Xpu3, epu3⟩ : ∃ X : ByteArray, (⟨pu3.toArray⟩ : ByteArray) = X := ⟨_, rfl⟩
 have HNpu3 := Lib.hid epu3
 clear epu3
 obtain ⟨Xnu3, enu3⟩ : ∃ X : ByteArray, (⟨nu3.toArray⟩ : ByteArray) = X := ⟨_, rfl⟩
 have HNnu3 := Lib.hid enu3
 clear enu3
 obtain ⟨Xu3, eu3⟩ : ∃ X : ByteArray, (⟨(u1 ++ u2).toArray⟩ : ByteArray) = X := ⟨_, rfl⟩
 have HNu3 := Lib.hid eu3
 clear eu3
 dsimp only [strV]
 rw [HNpu3.out, HNnu3.out, HNu3.out]
 have H10 := Lib.hid (H9.out.below hb)
 clear hb H9
 clear hrel
 obtain ⟨E3, hE⟩ : ∃ E, Value.agg #[.slice lo3 l3.length lc3, .int .u64 (a3 : Int), .int .u64 (t3 : Int), .int .u64 (k3 : Int), .bool bp3, .int .u64 (vp3 : Int), .bool bm3, .int .u64 (vm3 : Int), .bool bg3, .int .u64 (vg3 : Int), .int .i32 sc3, .int .u64 (zc3 : Int), .bool gp3, .int .i32 pb3.off, .slice po3 pb3.cs.length pc3, .string Xpu3, .bool gn3, .int .i32 nb3.off, .slice no3 nb3.cs.length nc3, .string Xnu3, .slice eo3 es3.length ec3, .int .u32 (f3 : Int), .int .u64 (th3 : Int), .string Xu3] = E := ⟨_, rfl⟩
 rw [hE]
 have HE3 := Lib.hid hE
 clear hE
 refine hK _ _ ?_; clear hK K
 refine wpList_plain rfl (fun K hK => ?_); go_simp; refine hK _ _ ?_; clear hK K
 refine wpList_plain rfl (fun K hK => ?_); go_simp; refine hK _ _ ?_; clear hK K
 refine wpList_plain rfl (fun K hK => ?_); go_simp; refine hK _ _ ?_; clear hK K
 refine wpList_plain rfl (fun K hK => ?_); go_simp; refine hK _ _ ?_; clear hK K
 have HZ := heap_alloc_new w6 (.cells #[.slice none 0 0, .int .u64 0, .int .u64 0, .int .u64 0, .bool false, .int .u64 0, .bool false, .int .u64 0, .bool false, .int .u64 0, .int .i32 0, .int .u64 0, .bool false, .int .i32 0, .slice none 0 0, .string ⟨#[]⟩, .bool false, .int .i32 0, .slice none 0 0, .string ⟨#[]⟩, .slice none 0 0, .int .u32 0, .int .u64 0, .string ⟨#[]⟩] 33)
 refine wpList_store_row rfl 33 (.tmp 11) (.tmp 42) rfl w6.heap.size #[.slice lo3 l3.length lc3, .int .u64 (a3 : Int), .int .u64 (t3 : Int), .int .u64 (k3 : Int), .bool bp3, .int .u64 (vp3 : Int), .bool bm3, .int .u64 (vm3 : Int), .bool bg3, .int .u64 (vg3 : Int), .int .i32 sc3, .int .u64 (zc3 : Int), .bool gp3, .int .i32 pb3.off, .slice po3 pb3.cs.length pc3, .string Xpu3, .bool gn3, .int .i32 nb3.off, .slice no3 nb3.cs.length nc3, .string Xnu3, .slice eo3 es3.length ec3, .int .u32 (f3 : Int), .int .u64 (th3 : Int), .string Xu3] rfl (by show E3 = _; exact HE3.out.symm) 33 _ HZ (by kernel_rfl) rfl (by simp [Value.oneCell']) ?_
 obtain ⟨blr3, hbl⟩ : ∃ b, w6.heap.size = b := ⟨_, rfl⟩
 obtain ⟨W7, hW⟩ : ∃ W, (w6.alloc (.cells #[.slice none 0 0, .int .u64 0, .int .u64 0, .int .u64 0, .bool false, .int .u64 0, .bool false, .int .u64 0, .bool false, .int .u64 0, .int .i32 0, .int .u64 0, .bool false, .int .i32 0, .slice none 0 0, .string ⟨#[]⟩, .bool false, .int .i32 0, .slice none 0 0, .string ⟨#[]⟩, .slice none 0 0, .int .u32 0, .int .u64 0, .string ⟨#[]⟩] 33)).setRow w6.heap.size #[.slice lo3 l3.length lc3, .int .u64 (a3 : Int), .int .u64 (t3 : Int), .int .u64 (k3 : Int), .bool bp3, .int .u64 (vp3 : Int), .bool bm3, .int .u64 (vm3 : Int), .bool bg3, .int .u64 (vg3 : Int), .int .i32 sc3, .int .u64 (zc3 : Int), .bool gp3, .int .i32 pb3.off, .slice po3 pb3.cs.length pc3, .string Xpu3, .bool gn3, .int .i32 nb3.off, .slice no3 nb3.cs.length nc3, .string Xnu3, .slice eo3 es3.length ec3, .int .u32 (f3 : Int), .int .u64 (th3 : Int), .string Xu3] = W := ⟨_, rfl⟩
 have hb : Below w6.heap.size w6 W7 := by rw [← hW]; exact below_setRow (below_new _ _) (Nat.le_refl _) _
 have hr : W7.heap[blr3]? = some (.cells #[.slice lo3 l3.length lc3, .int .u64 (a3 : Int), .int .u64 (t3 : Int), .int .u64 (k3 : Int), .bool bp3, .int .u64 (vp3 : Int), .bool bm3, .int .u64 (vm3 : Int), .bool bg3, .int .u64 (vg3 : Int), .int .i32 sc3, .int .u64 (zc3 : Int), .bool gp3, .int .i32 pb3.off, .slice po3 pb3.cs.length pc3, .string Xpu3, .bool gn3, .int .i32 nb3.off, .slice no3 nb3.cs.length nc3, .string Xnu3, .slice eo3 es3.length ec3, .int .u32 (f3 : Int), .int .u64 (th3 : Int), .string Xu3] 33 (0, 0)) := by rw [← hW, ← hbl]; exact setRow_heap _ _ _ _ _ _ HZ
 rw [hW, hbl]
 clear hW hbl HZ
 have H11 := Lib.hid (H10.out.below hb)
 clear hb H10
 have H12 := Lib.hid (H11.out.row (hr))
 clear H11
 clear hr
 go_wp2_with fail
 refine (first14 W7).mono ?_; rintro e w8 ⟨rfl, hb⟩
 have H13 := Lib.hid (H12.out.below hb)
 clear hb H12
 obtain rfl : Xu1 ++ Xu2 = Xu3 := by rw [← HNu1.out, ← HNu2.out, ← HNu3.out]; exact ByteArray.ext (Array.ext' (by simp))
 have q5 : ¬ 9223372036854775807 < Xu1.size + Xu2.size := by
  have e1 : Xu1.size = u1.length := by rw [← HNu1.out]; simp [ByteArray.size]
  have e2 : Xu2.size = u2.length := by rw [← HNu2.out]; simp [ByteArray.size]
  have := HLU.out
  omega
 obtain ⟨xa0, xa1, xa2, xa3, xa4, xa5, xa6, xa7, xa8, xa9, xa10, xa11, xa12, xa13, xa14, xa15, xa16, xa17, xa18, xa19, xa20, xa21, xa22, xa23⟩ := row24 (H13.out.is.2.2.1)
 obtain ⟨xb0, xb1, xb2, xb3, xb4, xb5, xb6, xb7, xb8, xb9, xb10, xb11, xb12, xb13, xb14, xb15, xb16, xb17, xb18, xb19, xb20, xb21, xb22, xb23⟩ := row24 (H13.out.is.2.1)
 obtain ⟨xc0, xc1, xc2, xc3, xc4, xc5, xc6, xc7, xc8, xc9, xc10, xc11, xc12, xc13, xc14, xc15, xc16, xc17, xc18, xc19, xc20, xc21, xc22, xc23⟩ := row24 (H13.out.is.1)
 obtain rfl : Xpu1 ++ Xpu2 = Xpu3 := by rw [← HNpu1.out, ← HNpu2.out, ← HNpu3.out, HPU.out]; exact ByteArray.ext (Array.ext' (by simp))
 have q6 : ¬ 9223372036854775807 < Xpu1.size + Xpu2.size := by
  have e1 : Xpu1.size = pu1.length := by rw [← HNpu1.out]; simp [ByteArray.size]
  have e2 : Xpu2.size = pu2.length := by rw [← HNpu2.out]; simp [ByteArray.size]
  have := HLP.out
  omega
 cases gp1 <;> cases gp2 <;> cases gp3 <;> first | (exact absurd HGP.out (by decide)) | skip
 all_goals
  go_wp2_with fail
  go_ret
  exact ⟨rfl, H13.out.is.2.2.2.1⟩
theorem xpjoin_any (s t : ByteArray) (d : Int) (w : World) (hd : -9223372036854775808 ≤ d ∧ d ≤ 9223372036854775807) :
 Calls Try.prog 3 #[.string s, .string t, .int .i64 d] w fun e w' => e = .returned (.bool true) ∧ Below w.heap.size w w' := by
 by_cases hs : 3000 < s.size
 · exact xpjoin_long1 s t d w hs
 by_cases ht : 3000 < t.size
 · exact xpjoin_long2 s t d w hs ht
 cases h1 : xprd s.data.toList d with
 | error c => exact xpjoin_A s t d w hd (by omega) (by omega) h1
 | ok x => cases h2 : xprd t.data.toList d with
  | error c => exact xpjoin_B s t d w hd (by omega) (by omega) h1 h2
  | ok y => exact xpjoin_C s t d w hd (by omega) (by omega) h1 h2
end Go.Proofs.Ytficgfemmijaaaa
