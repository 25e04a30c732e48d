/-
  hyglaw14.ExphDeep.
-/
import Derived.Test.YtficgfemmijaaaaGreatDoorXpJoin
import Derived.Test.YtficgfemmijaaaaGreatDoorFirst14
import Derived.Test.YtficgfemmijaaaaGreatDoorDeepT
import Derived.Deep.MidRow
set_option maxRecDepth 1000000
set_option maxHeartbeats 16000000
namespace Go.Proofs.YtficgfemmijaaaaGreatDoor
open Go.RowKit
theorem xp_tk90 (r : Rec) (h : r.num = 90) : xrF.tk r = false := by
  rw [xrF_tk]
  exact decide_eq_false (by omega)
theorem fnl_nest {F : Fld} {N : Fnl F} {s u : List UInt8} {x : N.τ} {d : Int} (htk : ∀ r : Rec, r.num = 90 → F.tk r = false) (n : Nat) (hn : (n : Int) ≤ d) (h : N.rd d s = .ok (x, u)) : N.rd d (s ++ gnest n) = .ok (x, u ++ gnest n) := by
  obtain ⟨st, h1, h2⟩ := Fnl.rd_inv h
  exact Fnl.rd_ok (mread_nest (σ := F.σ) htk n hn h1) h2
theorem fnl_nest_no {F : Fld} {N : Fnl F} {l t : List UInt8} {d : Int} {c : Nat} {x : N.τ × List UInt8} (h : N.rd d l = .ok x) (ht : wall t d = .error c) : N.rd d (l ++ t) = .error c := by
  obtain ⟨x, u⟩ := x
  obtain ⟨st, h1, _⟩ := Fnl.rd_inv h
  exact Fnl.rd_no1 (mread_nest_no (σ := F.σ) h1 ht)
theorem xpdeep_L1 (s : ByteArray) (d : Int) (w : World) (h1 : 6000 < s.size) :
 Calls Tryz.prog 5 #[.string s, .int .i64 d] w fun e w' => e = .returned (.bool true) ∧ Below w.heap.size w w' := by
 have q0 : decide ((6000 : Int) < (s.size : Int)) = true := decide_eq_true (by omega)
 clear h1
 have hb : Below w.heap.size w w := Below.refl _ _
 have H1 := Lib.hid (Fx.nil w)
 have H2 := Lib.hid (H1.out.base (hb))
 clear H1
 clear hb
 go_enter Tryz.func5, Tryz.ntmps5
 go_wp2_with fail
 refine (first14 w).mono ?_; rintro e w1 ⟨rfl, hb⟩
 have H3 := Lib.hid (H2.out.below hb)
 clear hb H2
 go_wp2_with fail
 refine (first14 w1).mono ?_; rintro e w2 ⟨rfl, hb⟩
 have H4 := Lib.hid (H3.out.below hb)
 clear hb H3
 go_wp2_with fail
 go_ret
 exact ⟨rfl, H4.out.is.1⟩
theorem xpdeep_L2 (s : ByteArray) (d : Int) (w : World) (h1 : ¬ 6000 < s.size) (h2 : d < 0) :
 Calls Tryz.prog 5 #[.string s, .int .i64 d] w fun e w' => e = .returned (.bool true) ∧ Below w.heap.size w w' := by
 have q0 : decide ((6000 : Int) < (s.size : Int)) = false := decide_eq_false (by omega)
 have q1 : decide (d < 0) = true := decide_eq_true h2
 clear h1 h2
 have hb : Below w.heap.size w w := Below.refl _ _
 have H1 := Lib.hid (Fx.nil w)
 have H2 := Lib.hid (H1.out.base (hb))
 clear H1
 clear hb
 go_enter Tryz.func5, Tryz.ntmps5
 go_wp2_with fail
 refine (first14 w).mono ?_; rintro e w1 ⟨rfl, hb⟩
 have H3 := Lib.hid (H2.out.below hb)
 clear hb H2
 go_wp2_with fail
 refine (first14 w1).mono ?_; rintro e w2 ⟨rfl, hb⟩
 have H4 := Lib.hid (H3.out.below hb)
 clear hb H3
 go_wp2_with fail
 go_ret
 exact ⟨rfl, H4.out.is.1⟩
theorem xpdeep_L3 (s : ByteArray) (d : Int) (w : World) (h1 : ¬ 6000 < s.size) (h2 : ¬ d < 0) (h3 : 100 < d) :
 Calls Tryz.prog 5 #[.string s, .int .i64 d] w fun e w' => e = .returned (.bool true) ∧ Below w.heap.size w w' := by
 have q0 : decide ((6000 : Int) < (s.size : Int)) = false := decide_eq_false (by omega)
 have q1 : decide (d < 0) = false := decide_eq_false h2
 have q2 : decide ((100 : Int) < d) = true := decide_eq_true h3
 clear h1 h2 h3
 have hb : Below w.heap.size w w := Below.refl _ _
 have H1 := Lib.hid (Fx.nil w)
 have H2 := Lib.hid (H1.out.base (hb))
 clear H1
 clear hb
 go_enter Tryz.func5, Tryz.ntmps5
 go_wp2_with fail
 refine (first14 w).mono ?_; rintro e w1 ⟨rfl, hb⟩
 have H3 := Lib.hid (H2.out.below hb)
 clear hb H2
 go_wp2_with fail
 refine (first14 w1).mono ?_; rintro e w2 ⟨rfl, hb⟩
 have H4 := Lib.hid (H3.out.below hb)
 clear hb H3
 go_wp2_with fail
 go_ret
 exact ⟨rfl, H4.out.is.1⟩
theorem xpdeep_A (s : ByteArray) (n' : Nat) (w : World) (hs : s.size ≤ 6000) (hn : n' ≤ 100) {c : Nat} (hx : xprd s.data.toList (n' : Int) = .error c) :
 Calls Tryz.prog 5 #[.string s, .int .i64 (n' : Int)] w fun e w' => e = .returned (.bool true) ∧ Below w.heap.size w w' := by
 have d0 : decide ((6000 : Int) < (s.size : Int)) = false := decide_eq_false (by omega)
 have d1 : decide ((n' : Int) < 0) = false := decide_eq_false (by omega)
 have d2 : decide ((100 : Int) < (n' : Int)) = false := decide_eq_false (by omega)
 have HS1 := Lib.hid (fun w' => xp_un s (n' : Int) w' (by omega) (by omega))
 rw [hx] at HS1
 clear hs hn hx
 have hb : Below w.heap.size w w := Below.refl _ _
 have H1 := Lib.hid (Fx.nil w)
 have H2 := Lib.hid (H1.out.base (hb))
 clear H1
 clear hb
 go_enter Tryz.func5, Tryz.ntmps5
 go_wp2_with fail
 refine (first14 w).mono ?_; rintro e w1 ⟨rfl, hb⟩
 have H3 := Lib.hid (H2.out.below hb)
 clear hb H2
 go_upto_region 5 with fail
 refine wp_region_lit ?_
 refine wpList_plain rfl (fun K hK => ?_); go_simp; refine hK _ _ ?_; clear hK K
 refine wpList_plain rfl (fun K hK => ?_); go_simp; refine hK _ _ ?_; clear hK K
 refine wpList_plain rfl (fun K hK => ?_); go_simp
 refine (HS1.out w1).mono ?_; rintro e w2 ⟨hb, v1, q1, rfl, _, hew⟩
 obtain ⟨T1, y1, rfl⟩ := hew.iface
 clear HS1
 unfold xpzero
 have H4 := Lib.hid (H3.out.below hb)
 clear hb H3
 clear hew
 obtain ⟨E1, hE⟩ : ∃ E, Value.agg #[.slice none 0 0, .int .u64 0, .int .u64 0, .int .u64 0, .bool false, .int .u64 0, .bool false, .int .u64 0, .bool false, .int .u64 0, .int .i32 0, .int .u64 0, .bool false, .int .i32 0, .slice none 0 0, .string ⟨#[]⟩, .bool false, .int .i32 0, .slice none 0 0, .string ⟨#[]⟩, .slice none 0 0, .int .u32 0, .int .u64 0, .string ⟨#[]⟩] = E := ⟨_, rfl⟩
 rw [hE]
 have HE1 := Lib.hid hE
 clear hE
 refine hK _ _ ?_; clear hK K
 refine wpList_plain rfl (fun K hK => ?_); go_simp; refine hK _ _ ?_; clear hK K
 refine wpList_plain rfl (fun K hK => ?_); go_simp; refine hK _ _ ?_; clear hK K
 refine wpList_plain rfl (fun K hK => ?_); go_simp; refine hK _ _ ?_; clear hK K
 refine wpList_plain rfl (fun K hK => ?_); go_simp; refine hK _ _ ?_; clear hK K
 have HZ := heap_alloc_new w2 (.cells #[.slice none 0 0, .int .u64 0, .int .u64 0, .int .u64 0, .bool false, .int .u64 0, .bool false, .int .u64 0, .bool false, .int .u64 0, .int .i32 0, .int .u64 0, .bool false, .int .i32 0, .slice none 0 0, .string ⟨#[]⟩, .bool false, .int .i32 0, .slice none 0 0, .string ⟨#[]⟩, .slice none 0 0, .int .u32 0, .int .u64 0, .string ⟨#[]⟩] 33)
 refine wpList_store_row rfl 33 (.tmp 5) (.tmp 35) rfl w2.heap.size #[.slice none 0 0, .int .u64 0, .int .u64 0, .int .u64 0, .bool false, .int .u64 0, .bool false, .int .u64 0, .bool false, .int .u64 0, .int .i32 0, .int .u64 0, .bool false, .int .i32 0, .slice none 0 0, .string ⟨#[]⟩, .bool false, .int .i32 0, .slice none 0 0, .string ⟨#[]⟩, .slice none 0 0, .int .u32 0, .int .u64 0, .string ⟨#[]⟩] rfl (by show E1 = _; exact HE1.out.symm) 33 _ HZ (by kernel_rfl) rfl (by simp [Value.oneCell']) ?_
 obtain ⟨blr1, hbl⟩ : ∃ b, w2.heap.size = b := ⟨_, rfl⟩
 obtain ⟨W3, hW⟩ : ∃ W, (w2.alloc (.cells #[.slice none 0 0, .int .u64 0, .int .u64 0, .int .u64 0, .bool false, .int .u64 0, .bool false, .int .u64 0, .bool false, .int .u64 0, .int .i32 0, .int .u64 0, .bool false, .int .i32 0, .slice none 0 0, .string ⟨#[]⟩, .bool false, .int .i32 0, .slice none 0 0, .string ⟨#[]⟩, .slice none 0 0, .int .u32 0, .int .u64 0, .string ⟨#[]⟩] 33)).setRow w2.heap.size #[.slice none 0 0, .int .u64 0, .int .u64 0, .int .u64 0, .bool false, .int .u64 0, .bool false, .int .u64 0, .bool false, .int .u64 0, .int .i32 0, .int .u64 0, .bool false, .int .i32 0, .slice none 0 0, .string ⟨#[]⟩, .bool false, .int .i32 0, .slice none 0 0, .string ⟨#[]⟩, .slice none 0 0, .int .u32 0, .int .u64 0, .string ⟨#[]⟩] = W := ⟨_, rfl⟩
 have hb : Below w2.heap.size w2 W3 := by rw [← hW]; exact below_setRow (below_new _ _) (Nat.le_refl _) _
 have hr : W3.heap[blr1]? = some (.cells #[.slice none 0 0, .int .u64 0, .int .u64 0, .int .u64 0, .bool false, .int .u64 0, .bool false, .int .u64 0, .bool false, .int .u64 0, .int .i32 0, .int .u64 0, .bool false, .int .i32 0, .slice none 0 0, .string ⟨#[]⟩, .bool false, .int .i32 0, .slice none 0 0, .string ⟨#[]⟩, .slice none 0 0, .int .u32 0, .int .u64 0, .string ⟨#[]⟩] 33 (0, 0)) := by rw [← hW, ← hbl]; exact setRow_heap _ _ _ _ _ _ HZ
 rw [hW, hbl]
 clear hW hbl HZ
 have H5 := Lib.hid (H4.out.below hb)
 clear hb H4
 have H6 := Lib.hid (H5.out.row (hr))
 clear H5
 clear hr
 go_wp2_with fail
 refine (first14 W3).mono ?_; rintro e w4 ⟨rfl, hb⟩
 have H7 := Lib.hid (H6.out.below hb)
 clear hb H6
 go_wp2_with fail
 go_ret
 exact ⟨rfl, H7.out.is.2.1⟩
theorem xpdeep_C (s : ByteArray) (n' : Nat) (w : World) (hs : s.size ≤ 6000) (hn : n' ≤ 100) (hg : Glob w) {x : Xp} (hx : xprd s.data.toList (n' : Int) = .ok x) :
 Calls Tryz.prog 5 #[.string s, .int .i64 (n' : Int)] w fun e w' => e = .returned (.bool true) ∧ Below w.heap.size w w' := by
 have d0 : decide ((6000 : Int) < (s.size : Int)) = false := decide_eq_false (by omega)
 have d1 : decide ((n' : Int) < 0) = false := decide_eq_false (by omega)
 have d2 : decide ((100 : Int) < (n' : Int)) = false := decide_eq_false (by omega)
 have HS1 := Lib.hid (fun w' => xp_un s (n' : Int) w' (by omega) (by omega))
 rw [hx] at HS1
 obtain ⟨⟨TB, TE, TC, TD, TF⟩, HTB, HTE, HTC, HTD, HTF, hz, lB, lE, lC, lD, lF⟩ := deep_tags
 dsimp only at HTB HTE HTC HTD HTF hz lB lE lC lD lF
 have HTB := Lib.hid HTB
 have HTE := Lib.hid HTE
 have HTC := Lib.hid HTC
 have HTD := Lib.hid HTD
 have HTF := Lib.hid HTF
 have HZ := Lib.hid hz
 have lB := Lib.hid lB
 have lE := Lib.hid lE
 have lC := Lib.hid lC
 have lD := Lib.hid lD
 have lF := Lib.hid lF
 have HSS := Lib.hid hs
 have HNN := Lib.hid hn
 have HG := Lib.hid hg
 obtain ⟨⟨l, ⟨a, ⟨t, ⟨k, ⟨⟨bp, vp⟩, ⟨sc, ⟨zc, ⟨⟨gp, pb, pu⟩, ⟨⟨gn, nb, nu⟩, ⟨f, ⟨es, ⟨⟨bm, vm⟩, ⟨⟨bg, vg⟩, th⟩⟩⟩⟩⟩⟩⟩⟩⟩⟩⟩⟩⟩, u⟩ := x
 obtain ⟨Xpu, epu⟩ : ∃ X : ByteArray, (⟨pu.toArray⟩ : ByteArray) = X := ⟨_, rfl⟩
 have HNpu := Lib.hid epu
 clear epu
 obtain ⟨Xnu, enu⟩ : ∃ X : ByteArray, (⟨nu.toArray⟩ : ByteArray) = X := ⟨_, rfl⟩
 have HNnu := Lib.hid enu
 clear enu
 obtain ⟨Xu, eu⟩ : ∃ X : ByteArray, (⟨u.toArray⟩ : ByteArray) = X := ⟨_, rfl⟩
 have HNu := Lib.hid eu
 clear eu
 have HSD : Hid (Xu.data.toList = u) := Lib.hid (by rw [← HNu.out])
 have hSz : Xu.size ≤ 6000 := by
  have h1 : Xu.size = u.length := by rw [← HSD.out]; simp
  have h2 := xprd_unk hx
  have h3 : s.data.toList.length = s.size := by simp
  omega
 have HX := Lib.hid hx
 clear hg hx hz
 have hb : Below w.heap.size w w := Below.refl _ _
 have H1 := Lib.hid (Fx.nil w)
 have H2 := Lib.hid (H1.out.base (hb))
 clear H1
 clear hb
 go_enter Tryz.func5, Tryz.ntmps5
 go_wp2_with fail
 refine (first14 w).mono ?_; rintro e w1 ⟨rfl, hb⟩
 have H3 := Lib.hid (H2.out.below hb)
 clear hb H2
 go_upto_region 5 with fail
 refine wp_region_lit ?_
 refine wpList_plain rfl (fun K hK => ?_); go_simp; refine hK _ _ ?_; clear hK K
 refine wpList_plain rfl (fun K hK => ?_); go_simp; refine hK _ _ ?_; clear hK K
 refine wpList_plain rfl (fun K hK => ?_); go_simp
 refine (HS1.out w1).mono ?_; rintro e w2 ⟨hb, cs, rfl, hrel⟩
 clear HS1
 have hr2 := hrel
 obtain ⟨lo1, lc1, po1, pc1, no1, nc1, eo1, ec1, rfl, _, _, _, _⟩ := hr2
 dsimp only [strV]
 rw [HNu.out, HNpu.out, HNnu.out]
 have H4 := Lib.hid (H3.out.below hb)
 clear hb H3
 clear hrel
 obtain ⟨E1, hE⟩ : ∃ E, Value.agg #[.slice lo1 l.length lc1, .int .u64 (a : Int), .int .u64 (t : Int), .int .u64 (k : Int), .bool bp, .int .u64 (vp : Int), .bool bm, .int .u64 (vm : Int), .bool bg, .int .u64 (vg : Int), .int .i32 sc, .int .u64 (zc : Int), .bool gp, .int .i32 pb.off, .slice po1 pb.cs.length pc1, .string Xpu, .bool gn, .int .i32 nb.off, .slice no1 nb.cs.length nc1, .string Xnu, .slice eo1 es.length ec1, .int .u32 (f : Int), .int .u64 (th : Int), .string Xu] = E := ⟨_, rfl⟩
 rw [hE]
 have HE1 := Lib.hid hE
 clear hE
 refine hK _ _ ?_; clear hK K
 refine wpList_plain rfl (fun K hK => ?_); go_simp; refine hK _ _ ?_; clear hK K
 refine wpList_plain rfl (fun K hK => ?_); go_simp; refine hK _ _ ?_; clear hK K
 refine wpList_plain rfl (fun K hK => ?_); go_simp; refine hK _ _ ?_; clear hK K
 refine wpList_plain rfl (fun K hK => ?_); go_simp; refine hK _ _ ?_; clear hK K
 have HZ := heap_alloc_new w2 (.cells #[.slice none 0 0, .int .u64 0, .int .u64 0, .int .u64 0, .bool false, .int .u64 0, .bool false, .int .u64 0, .bool false, .int .u64 0, .int .i32 0, .int .u64 0, .bool false, .int .i32 0, .slice none 0 0, .string ⟨#[]⟩, .bool false, .int .i32 0, .slice none 0 0, .string ⟨#[]⟩, .slice none 0 0, .int .u32 0, .int .u64 0, .string ⟨#[]⟩] 33)
 refine wpList_store_row rfl 33 (.tmp 5) (.tmp 35) rfl w2.heap.size #[.slice lo1 l.length lc1, .int .u64 (a : Int), .int .u64 (t : Int), .int .u64 (k : Int), .bool bp, .int .u64 (vp : Int), .bool bm, .int .u64 (vm : Int), .bool bg, .int .u64 (vg : Int), .int .i32 sc, .int .u64 (zc : Int), .bool gp, .int .i32 pb.off, .slice po1 pb.cs.length pc1, .string Xpu, .bool gn, .int .i32 nb.off, .slice no1 nb.cs.length nc1, .string Xnu, .slice eo1 es.length ec1, .int .u32 (f : Int), .int .u64 (th : Int), .string Xu] rfl (by show E1 = _; exact HE1.out.symm) 33 _ HZ (by kernel_rfl) rfl (by simp [Value.oneCell']) ?_
 obtain ⟨blr1, hbl⟩ : ∃ b, w2.heap.size = b := ⟨_, rfl⟩
 obtain ⟨W3, hW⟩ : ∃ W, (w2.alloc (.cells #[.slice none 0 0, .int .u64 0, .int .u64 0, .int .u64 0, .bool false, .int .u64 0, .bool false, .int .u64 0, .bool false, .int .u64 0, .int .i32 0, .int .u64 0, .bool false, .int .i32 0, .slice none 0 0, .string ⟨#[]⟩, .bool false, .int .i32 0, .slice none 0 0, .string ⟨#[]⟩, .slice none 0 0, .int .u32 0, .int .u64 0, .string ⟨#[]⟩] 33)).setRow w2.heap.size #[.slice lo1 l.length lc1, .int .u64 (a : Int), .int .u64 (t : Int), .int .u64 (k : Int), .bool bp, .int .u64 (vp : Int), .bool bm, .int .u64 (vm : Int), .bool bg, .int .u64 (vg : Int), .int .i32 sc, .int .u64 (zc : Int), .bool gp, .int .i32 pb.off, .slice po1 pb.cs.length pc1, .string Xpu, .bool gn, .int .i32 nb.off, .slice no1 nb.cs.length nc1, .string Xnu, .slice eo1 es.length ec1, .int .u32 (f : Int), .int .u64 (th : Int), .string Xu] = W := ⟨_, rfl⟩
 have hb : Below w2.heap.size w2 W3 := by rw [← hW]; exact below_setRow (below_new _ _) (Nat.le_refl _) _
 have hr : W3.heap[blr1]? = some (.cells #[.slice lo1 l.length lc1, .int .u64 (a : Int), .int .u64 (t : Int), .int .u64 (k : Int), .bool bp, .int .u64 (vp : Int), .bool bm, .int .u64 (vm : Int), .bool bg, .int .u64 (vg : Int), .int .i32 sc, .int .u64 (zc : Int), .bool gp, .int .i32 pb.off, .slice po1 pb.cs.length pc1, .string Xpu, .bool gn, .int .i32 nb.off, .slice no1 nb.cs.length nc1, .string Xnu, .slice eo1 es.length ec1, .int .u32 (f : Int), .int .u64 (th : Int), .string Xu] 33 (0, 0)) := by rw [← hW, ← hbl]; exact setRow_heap _ _ _ _ _ _ HZ
 rw [hW, hbl]
 clear hW hbl HZ
 have H5 := Lib.hid (H4.out.below hb)
 clear hb H4
 have H6 := Lib.hid (H5.out.row (hr))
 clear H5
 clear hr
 go_wp2_with fail
 go_loopg [7, 8] n' (fun k' sv i wr => ∃ (j : Nat) (U : ByteArray), j + k' = n' ∧ i = .int .i64 (j : Int) ∧ sv = .string U ∧ Hid (U.data.toList = gnest j) ∧ Below W3.heap.size W3 wr)
 case atStart => exact ⟨0, ⟨#[]⟩, by omega, rfl, rfl, Lib.hid rfl, Below.refl _ _⟩
 case round =>
  obtain ⟨j, U, hj, rfl, rfl, HU, hb⟩ := hrel
  have HB := Lib.hid hb
  have HJJ := Lib.hid hj
  have hjn : j ≤ 100 := by have := HNN.out; omega
  have hUz : U.size = 4 * j := by
   have h1 : U.size = (gnest j).length := by rw [← HU.out]; simp
   rw [h1, gnest_len]
  have hUs : U.size ≤ 400 := by omega
  clear hj hb hUz
  by_cases hlt : j < n'
  · have q1 : ¬ 9223372036854775807 < TB.size + U.size := by have := HZ.out; omega
    have q2 : ¬ 9223372036854775807 < (TB ++ U).size + TE.size := by rw [ByteArray.size_append]; have := HZ.out; omega
    go_wp2_with fail
    refine (HTB.out wr).mono ?_; rintro e w4 ⟨rfl, hb4⟩
    have HB4 := Lib.hid (below_step HB.out hb4)
    clear hb4
    go_wp2_with fail
    refine (HTE.out w4).mono ?_; rintro e w5 ⟨rfl, hb5⟩
    have HB5 := Lib.hid (below_step HB4.out hb5)
    clear hb5
    go_wp2_with fail
    have hj := HJJ.out
    go_roundg (gk - 1)
    case measure => omega
    case rel => exact ⟨j + 1, TB ++ U ++ TE, by omega, by simp, rfl, Lib.hid (by rw [gnest]; simp [lB.out, lE.out, HU.out]), HB5.out⟩
  · have hjn2 : j = n' := by have := HJJ.out; omega
    rw [hjn2] at HU
    have hb := HB.out
    have H7 := Lib.hid (H6.out.below hb)
    clear hb H6
    have zz := HZ.out
    obtain ⟨X1, hX1⟩ : ∃ X, s ++ U = X := ⟨_, rfl⟩
    obtain ⟨X2, hX2⟩ : ∃ X, s ++ TC ++ U ++ TD = X := ⟨_, rfl⟩
    obtain ⟨X3, hX3⟩ : ∃ X, s ++ TB = X := ⟨_, rfl⟩
    obtain ⟨X4, hX4⟩ : ∃ X, s ++ TB ++ TF = X := ⟨_, rfl⟩
    have z1 : X1.size = s.size + U.size := by rw [← hX1]; exact ByteArray.size_append ..
    have z2 : (s ++ TC).size = s.size + TC.size := ByteArray.size_append ..
    have z3 : (s ++ TC ++ U).size = s.size + TC.size + U.size := by rw [ByteArray.size_append, z2]
    have z4 : X2.size = s.size + TC.size + U.size + TD.size := by rw [← hX2, ByteArray.size_append, z3]
    have z5 : X3.size = s.size + TB.size := by rw [← hX3]; exact ByteArray.size_append ..
    have z6 : X4.size = s.size + TB.size + TF.size := by rw [← hX4, ByteArray.size_append, hX3, z5]
    have e1 : X1.data.toList = s.data.toList ++ gnest n' := by rw [← hX1]; simp [HU.out]
    have e2 : X2.data.toList = s.data.toList ++ (vput (8 * 91 + 3) ++ (gnest n' ++ vput (8 * 91 + 4))) := by rw [← hX2]; simp [HU.out, lC.out, lD.out]
    have e3 : X3.data.toList = s.data.toList ++ vput (8 * 90 + 3) := by rw [← hX3]; simp [lB.out]
    have e4 : X4.data.toList = s.data.toList ++ (vput (8 * 90 + 3) ++ vput (8 * 92 + 4)) := by rw [← hX4]; simp [lB.out, lF.out]
    obtain ⟨c3, hc3⟩ := gnest_open (n' : Int)
    obtain ⟨c4, hc4⟩ := gnest_other (n' : Int)
    obtain ⟨SU, hSU⟩ : ∃ X : ByteArray, (⟨(u ++ gnest n').toArray⟩ : ByteArray) = X := ⟨_, rfl⟩
    have hSE : SU = Xu ++ U := by rw [← hSU]; exact ByteArray.ext (Array.ext' (by simp [HSD.out, HU.out]))
    have hSq : (SU.toList == (Xu ++ U).toList) = true := by rw [hSE]; simp
    have HS1 := Lib.hid (fun w' => xp_un X1 (n' : Int) w' (by omega) (by omega))
    have HS2 := Lib.hid (fun w' => xp_un X2 (n' : Int) w' (by omega) (by omega))
    have HS3 := Lib.hid (fun w' => xp_un X3 (n' : Int) w' (by omega) (by omega))
    have HS4 := Lib.hid (fun w' => xp_un X4 (n' : Int) w' (by omega) (by omega))
    rw [e1, show xprd (s.data.toList ++ gnest n') n' = .ok ((l, (a, (t, (k, ((bp, vp), (sc, (zc, ((gp, pb, pu), ((gn, nb, nu), (f, (es, ((bm, vm), ((bg, vg), th))))))))))))), u ++ gnest n') from fnl_nest (N := xpN) xp_tk90 n' (Int.le_refl _) HX.out] at HS1
    rw [e2, show xprd _ n' = .error _ from fnl_nest_no (N := xpN) HX.out (gnest_too n' _ (Int.le_refl _))] at HS2
    rw [e3, show xprd _ n' = .error _ from fnl_nest_no (N := xpN) HX.out hc3] at HS3
    rw [e4, show xprd _ n' = .error _ from fnl_nest_no (N := xpN) HX.out hc4] at HS4
    have q1 : ¬ 9223372036854775807 < s.size + U.size := by omega
    have q2 : ¬ 9223372036854775807 < s.size + TC.size := by omega
    have q3 : ¬ 9223372036854775807 < (s ++ TC).size + U.size := by omega
    have q4 : ¬ 9223372036854775807 < (s ++ TC ++ U).size + TD.size := by omega
    have q5 : ¬ 9223372036854775807 < s.size + TB.size := by omega
    have q6 : ¬ 9223372036854775807 < X3.size + TF.size := by omega
    have q7 : ¬ 9223372036854775807 < Xu.size + U.size := by omega
    have q8 : ¬ 9223372036854775807 < s.size + TC.size + U.size := by omega
    have q9 : ¬ 9223372036854775807 < s.size + TC.size + U.size + TD.size := by omega
    have HX1 := Lib.hid hX1
    have HX2 := Lib.hid hX2
    have HX3 := Lib.hid hX3
    have HX4 := Lib.hid hX4
    have HSQN := Lib.hid hSU
    rw [hX3] at hX4
    have HX4B := Lib.hid hX4
    clear e1 e2 e3 e4 z1 z2 z3 z4 z5 z6 zz hc3 hc4 hSU hSE hjn2 hX1 hX2 hX3 hX4
    go_upto_region 13 with fail
    refine wp_region_lit ?_
    refine wpList_plain rfl (fun K hK => ?_); go_simp; refine hK _ _ ?_; clear hK K
    refine wpList_plain rfl (fun K hK => ?_); go_simp; refine hK _ _ ?_; clear hK K
    refine wpList_plain rfl (fun K hK => ?_); go_simp; refine hK _ _ ?_; clear hK K
    refine wpList_plain rfl (fun K hK => ?_); go_simp; refine hK _ _ ?_; clear hK K
    refine wpList_plain rfl (fun K hK => ?_); go_simp
    rw [HX1.out]
    refine (HS1.out wr).mono ?_; rintro e w5 ⟨hb, cs, rfl, hrel⟩
    clear HS1
    have hr2 := hrel
    obtain ⟨lo2, lc2, po2, pc2, no2, nc2, eo2, ec2, rfl, _, _, _, _⟩ := hr2
    dsimp only [strV]
    rw [HSQN.out, HNpu.out, HNnu.out]
    have H8 := Lib.hid (H7.out.below hb)
    clear hb H7
    clear hrel
    obtain ⟨E2, hE⟩ : ∃ E, Value.agg #[.slice lo2 l.length lc2, .int .u64 (a : Int), .int .u64 (t : Int), .int .u64 (k : Int), .bool bp, .int .u64 (vp : Int), .bool bm, .int .u64 (vm : Int), .bool bg, .int .u64 (vg : Int), .int .i32 sc, .int .u64 (zc : Int), .bool gp, .int .i32 pb.off, .slice po2 pb.cs.length pc2, .string Xpu, .bool gn, .int .i32 nb.off, .slice no2 nb.cs.length nc2, .string Xnu, .slice eo2 es.length ec2, .int .u32 (f : Int), .int .u64 (th : Int), .string SU] = E := ⟨_, rfl⟩
    rw [hE]
    have HE2 := Lib.hid hE
    clear hE
    refine hK _ _ ?_; clear hK K
    refine wpList_plain rfl (fun K hK => ?_); go_simp; refine hK _ _ ?_; clear hK K
    refine wpList_plain rfl (fun K hK => ?_); go_simp; refine hK _ _ ?_; clear hK K
    refine wpList_plain rfl (fun K hK => ?_); go_simp; refine hK _ _ ?_; clear hK K
    refine wpList_plain rfl (fun K hK => ?_); go_simp; refine hK _ _ ?_; clear hK K
    have HZ := heap_alloc_new w5 (.cells #[.slice none 0 0, .int .u64 0, .int .u64 0, .int .u64 0, .bool false, .int .u64 0, .bool false, .int .u64 0, .bool false, .int .u64 0, .int .i32 0, .int .u64 0, .bool false, .int .i32 0, .slice none 0 0, .string ⟨#[]⟩, .bool false, .int .i32 0, .slice none 0 0, .string ⟨#[]⟩, .slice none 0 0, .int .u32 0, .int .u64 0, .string ⟨#[]⟩] 33)
    refine wpList_store_row rfl 33 (.tmp 9) (.tmp 56) rfl w5.heap.size #[.slice lo2 l.length lc2, .int .u64 (a : Int), .int .u64 (t : Int), .int .u64 (k : Int), .bool bp, .int .u64 (vp : Int), .bool bm, .int .u64 (vm : Int), .bool bg, .int .u64 (vg : Int), .int .i32 sc, .int .u64 (zc : Int), .bool gp, .int .i32 pb.off, .slice po2 pb.cs.length pc2, .string Xpu, .bool gn, .int .i32 nb.off, .slice no2 nb.cs.length nc2, .string Xnu, .slice eo2 es.length ec2, .int .u32 (f : Int), .int .u64 (th : Int), .string SU] rfl (by show E2 = _; exact HE2.out.symm) 33 _ HZ (by kernel_rfl) rfl (by simp [Value.oneCell']) ?_
    obtain ⟨blr2, hbl⟩ : ∃ b, w5.heap.size = b := ⟨_, rfl⟩
    obtain ⟨W6, hW⟩ : ∃ W, (w5.alloc (.cells #[.slice none 0 0, .int .u64 0, .int .u64 0, .int .u64 0, .bool false, .int .u64 0, .bool false, .int .u64 0, .bool false, .int .u64 0, .int .i32 0, .int .u64 0, .bool false, .int .i32 0, .slice none 0 0, .string ⟨#[]⟩, .bool false, .int .i32 0, .slice none 0 0, .string ⟨#[]⟩, .slice none 0 0, .int .u32 0, .int .u64 0, .string ⟨#[]⟩] 33)).setRow w5.heap.size #[.slice lo2 l.length lc2, .int .u64 (a : Int), .int .u64 (t : Int), .int .u64 (k : Int), .bool bp, .int .u64 (vp : Int), .bool bm, .int .u64 (vm : Int), .bool bg, .int .u64 (vg : Int), .int .i32 sc, .int .u64 (zc : Int), .bool gp, .int .i32 pb.off, .slice po2 pb.cs.length pc2, .string Xpu, .bool gn, .int .i32 nb.off, .slice no2 nb.cs.length nc2, .string Xnu, .slice eo2 es.length ec2, .int .u32 (f : Int), .int .u64 (th : Int), .string SU] = W := ⟨_, rfl⟩
    have hb : Below w5.heap.size w5 W6 := by rw [← hW]; exact below_setRow (below_new _ _) (Nat.le_refl _) _
    have hr : W6.heap[blr2]? = some (.cells #[.slice lo2 l.length lc2, .int .u64 (a : Int), .int .u64 (t : Int), .int .u64 (k : Int), .bool bp, .int .u64 (vp : Int), .bool bm, .int .u64 (vm : Int), .bool bg, .int .u64 (vg : Int), .int .i32 sc, .int .u64 (zc : Int), .bool gp, .int .i32 pb.off, .slice po2 pb.cs.length pc2, .string Xpu, .bool gn, .int .i32 nb.off, .slice no2 nb.cs.length nc2, .string Xnu, .slice eo2 es.length ec2, .int .u32 (f : Int), .int .u64 (th : Int), .string SU] 33 (0, 0)) := by rw [← hW, ← hbl]; exact setRow_heap _ _ _ _ _ _ HZ
    rw [hW, hbl]
    clear hW hbl HZ
    have H9 := Lib.hid (H8.out.below hb)
    clear hb H8
    have H10 := Lib.hid (H9.out.row (hr))
    clear H9
    clear hr
    go_upto_region 14 with fail
    refine wp_region_lit ?_
    refine wpList_plain rfl (fun K hK => ?_); go_simp; refine hK _ _ ?_; clear hK K
    refine wpList_plain rfl (fun K hK => ?_); go_simp
    refine (HTC.out W6).mono ?_; rintro e w7 ⟨rfl, hb⟩
    have H11 := Lib.hid (H10.out.below hb)
    clear hb H10
    refine hK _ _ ?_; clear hK K
    refine wpList_plain rfl (fun K hK => ?_); go_simp; refine hK _ _ ?_; clear hK K
    refine wpList_plain rfl (fun K hK => ?_); go_simp; refine hK _ _ ?_; clear hK K
    refine wpList_plain rfl (fun K hK => ?_); go_simp; refine hK _ _ ?_; clear hK K
    refine wpList_plain rfl (fun K hK => ?_); go_simp
    refine (HTD.out w7).mono ?_; rintro e w8 ⟨rfl, hb⟩
    have H12 := Lib.hid (H11.out.below hb)
    clear hb H11
    refine hK _ _ ?_; clear hK K
    refine wpList_plain rfl (fun K hK => ?_); go_simp; refine hK _ _ ?_; clear hK K
    rw [HX2.out]
    refine wpList_plain rfl (fun K hK => ?_); go_simp; refine hK _ _ ?_; clear hK K
    refine wpList_plain rfl (fun K hK => ?_); go_simp
    refine (HS2.out w8).mono ?_; rintro e w9 ⟨hb, v3, q3, rfl, _, hew⟩
    obtain ⟨T3, y3, rfl⟩ := hew.iface
    clear HS2
    unfold xpzero
    have H13 := Lib.hid (H12.out.below hb)
    clear hb H12
    have H14 := Lib.hid (H13.out.ew (hew))
    clear H13
    clear hew
    obtain ⟨E3, hE⟩ : ∃ E, Value.agg #[.slice none 0 0, .int .u64 0, .int .u64 0, .int .u64 0, .bool false, .int .u64 0, .bool false, .int .u64 0, .bool false, .int .u64 0, .int .i32 0, .int .u64 0, .bool false, .int .i32 0, .slice none 0 0, .string ⟨#[]⟩, .bool false, .int .i32 0, .slice none 0 0, .string ⟨#[]⟩, .slice none 0 0, .int .u32 0, .int .u64 0, .string ⟨#[]⟩] = E := ⟨_, rfl⟩
    rw [hE]
    have HE3 := Lib.hid hE
    clear hE
    refine hK _ _ ?_; clear hK K
    refine wpList_plain rfl (fun K hK => ?_); go_simp; refine hK _ _ ?_; clear hK K
    refine wpList_plain rfl (fun K hK => ?_); go_simp; refine hK _ _ ?_; clear hK K
    refine wpList_plain rfl (fun K hK => ?_); go_simp; refine hK _ _ ?_; clear hK K
    refine wpList_plain rfl (fun K hK => ?_); go_simp; refine hK _ _ ?_; clear hK K
    have HZ := heap_alloc_new w9 (.cells #[.slice none 0 0, .int .u64 0, .int .u64 0, .int .u64 0, .bool false, .int .u64 0, .bool false, .int .u64 0, .bool false, .int .u64 0, .int .i32 0, .int .u64 0, .bool false, .int .i32 0, .slice none 0 0, .string ⟨#[]⟩, .bool false, .int .i32 0, .slice none 0 0, .string ⟨#[]⟩, .slice none 0 0, .int .u32 0, .int .u64 0, .string ⟨#[]⟩] 33)
    refine wpList_store_row rfl 33 (.tmp 11) (.tmp 68) rfl w9.heap.size #[.slice none 0 0, .int .u64 0, .int .u64 0, .int .u64 0, .bool false, .int .u64 0, .bool false, .int .u64 0, .bool false, .int .u64 0, .int .i32 0, .int .u64 0, .bool false, .int .i32 0, .slice none 0 0, .string ⟨#[]⟩, .bool false, .int .i32 0, .slice none 0 0, .string ⟨#[]⟩, .slice none 0 0, .int .u32 0, .int .u64 0, .string ⟨#[]⟩] rfl (by show E3 = _; exact HE3.out.symm) 33 _ HZ (by kernel_rfl) rfl (by simp [Value.oneCell']) ?_
    obtain ⟨blr3, hbl⟩ : ∃ b, w9.heap.size = b := ⟨_, rfl⟩
    obtain ⟨Wa, hW⟩ : ∃ W, (w9.alloc (.cells #[.slice none 0 0, .int .u64 0, .int .u64 0, .int .u64 0, .bool false, .int .u64 0, .bool false, .int .u64 0, .bool false, .int .u64 0, .int .i32 0, .int .u64 0, .bool false, .int .i32 0, .slice none 0 0, .string ⟨#[]⟩, .bool false, .int .i32 0, .slice none 0 0, .string ⟨#[]⟩, .slice none 0 0, .int .u32 0, .int .u64 0, .string ⟨#[]⟩] 33)).setRow w9.heap.size #[.slice none 0 0, .int .u64 0, .int .u64 0, .int .u64 0, .bool false, .int .u64 0, .bool false, .int .u64 0, .bool false, .int .u64 0, .int .i32 0, .int .u64 0, .bool false, .int .i32 0, .slice none 0 0, .string ⟨#[]⟩, .bool false, .int .i32 0, .slice none 0 0, .string ⟨#[]⟩, .slice none 0 0, .int .u32 0, .int .u64 0, .string ⟨#[]⟩] = W := ⟨_, rfl⟩
    have hb : Below w9.heap.size w9 Wa := by rw [← hW]; exact below_setRow (below_new _ _) (Nat.le_refl _) _
    have hr : Wa.heap[blr3]? = some (.cells #[.slice none 0 0, .int .u64 0, .int .u64 0, .int .u64 0, .bool false, .int .u64 0, .bool false, .int .u64 0, .bool false, .int .u64 0, .int .i32 0, .int .u64 0, .bool false, .int .i32 0, .slice none 0 0, .string ⟨#[]⟩, .bool false, .int .i32 0, .slice none 0 0, .string ⟨#[]⟩, .slice none 0 0, .int .u32 0, .int .u64 0, .string ⟨#[]⟩] 33 (0, 0)) := by rw [← hW, ← hbl]; exact setRow_heap _ _ _ _ _ _ HZ
    rw [hW, hbl]
    clear hW hbl HZ
    have H15 := Lib.hid (H14.out.below hb)
    clear hb H14
    have H16 := Lib.hid (H15.out.row (hr))
    clear H15
    clear hr
    go_upto_region 15 with fail
    refine wp_region_lit ?_
    refine wpList_plain rfl (fun K hK => ?_); go_simp; refine hK _ _ ?_; clear hK K
    refine wpList_plain rfl (fun K hK => ?_); go_simp
    refine (HTB.out Wa).mono ?_; rintro e wb ⟨rfl, hb⟩
    have H17 := Lib.hid (H16.out.below hb)
    clear hb H16
    refine hK _ _ ?_; clear hK K
    refine wpList_plain rfl (fun K hK => ?_); go_simp; refine hK _ _ ?_; clear hK K
    rw [HX3.out]
    refine wpList_plain rfl (fun K hK => ?_); go_simp; refine hK _ _ ?_; clear hK K
    refine wpList_plain rfl (fun K hK => ?_); go_simp
    refine (HS3.out wb).mono ?_; rintro e wc ⟨hb, v4, q4, rfl, _, hew⟩
    obtain ⟨T4, y4, rfl⟩ := hew.iface
    clear HS3
    unfold xpzero
    have H18 := Lib.hid (H17.out.below hb)
    clear hb H17
    clear hew
    obtain ⟨E4, hE⟩ : ∃ E, Value.agg #[.slice none 0 0, .int .u64 0, .int .u64 0, .int .u64 0, .bool false, .int .u64 0, .bool false, .int .u64 0, .bool false, .int .u64 0, .int .i32 0, .int .u64 0, .bool false, .int .i32 0, .slice none 0 0, .string ⟨#[]⟩, .bool false, .int .i32 0, .slice none 0 0, .string ⟨#[]⟩, .slice none 0 0, .int .u32 0, .int .u64 0, .string ⟨#[]⟩] = E := ⟨_, rfl⟩
    rw [hE]
    have HE4 := Lib.hid hE
    clear hE
    refine hK _ _ ?_; clear hK K
    refine wpList_plain rfl (fun K hK => ?_); go_simp; refine hK _ _ ?_; clear hK K
    refine wpList_plain rfl (fun K hK => ?_); go_simp; refine hK _ _ ?_; clear hK K
    refine wpList_plain rfl (fun K hK => ?_); go_simp; refine hK _ _ ?_; clear hK K
    refine wpList_plain rfl (fun K hK => ?_); go_simp; refine hK _ _ ?_; clear hK K
    have HZ := heap_alloc_new wc (.cells #[.slice none 0 0, .int .u64 0, .int .u64 0, .int .u64 0, .bool false, .int .u64 0, .bool false, .int .u64 0, .bool false, .int .u64 0, .int .i32 0, .int .u64 0, .bool false, .int .i32 0, .slice none 0 0, .string ⟨#[]⟩, .bool false, .int .i32 0, .slice none 0 0, .string ⟨#[]⟩, .slice none 0 0, .int .u32 0, .int .u64 0, .string ⟨#[]⟩] 33)
    refine wpList_store_row rfl 33 (.tmp 13) (.tmp 76) rfl wc.heap.size #[.slice none 0 0, .int .u64 0, .int .u64 0, .int .u64 0, .bool false, .int .u64 0, .bool false, .int .u64 0, .bool false, .int .u64 0, .int .i32 0, .int .u64 0, .bool false, .int .i32 0, .slice none 0 0, .string ⟨#[]⟩, .bool false, .int .i32 0, .slice none 0 0, .string ⟨#[]⟩, .slice none 0 0, .int .u32 0, .int .u64 0, .string ⟨#[]⟩] rfl (by show E4 = _; exact HE4.out.symm) 33 _ HZ (by kernel_rfl) rfl (by simp [Value.oneCell']) ?_
    obtain ⟨blr4, hbl⟩ : ∃ b, wc.heap.size = b := ⟨_, rfl⟩
    obtain ⟨Wd, hW⟩ : ∃ W, (wc.alloc (.cells #[.slice none 0 0, .int .u64 0, .int .u64 0, .int .u64 0, .bool false, .int .u64 0, .bool false, .int .u64 0, .bool false, .int .u64 0, .int .i32 0, .int .u64 0, .bool false, .int .i32 0, .slice none 0 0, .string ⟨#[]⟩, .bool false, .int .i32 0, .slice none 0 0, .string ⟨#[]⟩, .slice none 0 0, .int .u32 0, .int .u64 0, .string ⟨#[]⟩] 33)).setRow wc.heap.size #[.slice none 0 0, .int .u64 0, .int .u64 0, .int .u64 0, .bool false, .int .u64 0, .bool false, .int .u64 0, .bool false, .int .u64 0, .int .i32 0, .int .u64 0, .bool false, .int .i32 0, .slice none 0 0, .string ⟨#[]⟩, .bool false, .int .i32 0, .slice none 0 0, .string ⟨#[]⟩, .slice none 0 0, .int .u32 0, .int .u64 0, .string ⟨#[]⟩] = W := ⟨_, rfl⟩
    have hb : Below wc.heap.size wc Wd := by rw [← hW]; exact below_setRow (below_new _ _) (Nat.le_refl _) _
    have hr : Wd.heap[blr4]? = some (.cells #[.slice none 0 0, .int .u64 0, .int .u64 0, .int .u64 0, .bool false, .int .u64 0, .bool false, .int .u64 0, .bool false, .int .u64 0, .int .i32 0, .int .u64 0, .bool false, .int .i32 0, .slice none 0 0, .string ⟨#[]⟩, .bool false, .int .i32 0, .slice none 0 0, .string ⟨#[]⟩, .slice none 0 0, .int .u32 0, .int .u64 0, .string ⟨#[]⟩] 33 (0, 0)) := by rw [← hW, ← hbl]; exact setRow_heap _ _ _ _ _ _ HZ
    rw [hW, hbl]
    clear hW hbl HZ
    have H19 := Lib.hid (H18.out.below hb)
    clear hb H18
    have H20 := Lib.hid (H19.out.row (hr))
    clear H19
    clear hr
    go_upto_region 16 with fail
    refine wp_region_lit ?_
    refine wpList_plain rfl (fun K hK => ?_); go_simp; refine hK _ _ ?_; clear hK K
    refine wpList_plain rfl (fun K hK => ?_); go_simp
    refine (HTB.out Wd).mono ?_; rintro e we ⟨rfl, hb⟩
    have H21 := Lib.hid (H20.out.below hb)
    clear hb H20
    refine hK _ _ ?_; clear hK K
    refine wpList_plain rfl (fun K hK => ?_); go_simp; refine hK _ _ ?_; clear hK K
    rw [HX3.out]
    refine wpList_plain rfl (fun K hK => ?_); go_simp
    refine (HTF.out we).mono ?_; rintro e wf ⟨rfl, hb⟩
    have H22 := Lib.hid (H21.out.below hb)
    clear hb H21
    refine hK _ _ ?_; clear hK K
    refine wpList_plain rfl (fun K hK => ?_); go_simp; refine hK _ _ ?_; clear hK K
    first | rw [HX4B.out] | rw [HX4.out]
    refine wpList_plain rfl (fun K hK => ?_); go_simp; refine hK _ _ ?_; clear hK K
    refine wpList_plain rfl (fun K hK => ?_); go_simp
    refine (HS4.out wf).mono ?_; rintro e wg ⟨hb, v5, q5, rfl, _, hew⟩
    obtain ⟨T5, y5, rfl⟩ := hew.iface
    clear HS4
    unfold xpzero
    have H23 := Lib.hid (H22.out.below hb)
    clear hb H22
    clear hew
    obtain ⟨E5, hE⟩ : ∃ E, Value.agg #[.slice none 0 0, .int .u64 0, .int .u64 0, .int .u64 0, .bool false, .int .u64 0, .bool false, .int .u64 0, .bool false, .int .u64 0, .int .i32 0, .int .u64 0, .bool false, .int .i32 0, .slice none 0 0, .string ⟨#[]⟩, .bool false, .int .i32 0, .slice none 0 0, .string ⟨#[]⟩, .slice none 0 0, .int .u32 0, .int .u64 0, .string ⟨#[]⟩] = E := ⟨_, rfl⟩
    rw [hE]
    have HE5 := Lib.hid hE
    clear hE
    refine hK _ _ ?_; clear hK K
    refine wpList_plain rfl (fun K hK => ?_); go_simp; refine hK _ _ ?_; clear hK K
    refine wpList_plain rfl (fun K hK => ?_); go_simp; refine hK _ _ ?_; clear hK K
    refine wpList_plain rfl (fun K hK => ?_); go_simp; refine hK _ _ ?_; clear hK K
    refine wpList_plain rfl (fun K hK => ?_); go_simp; refine hK _ _ ?_; clear hK K
    have HZ := heap_alloc_new wg (.cells #[.slice none 0 0, .int .u64 0, .int .u64 0, .int .u64 0, .bool false, .int .u64 0, .bool false, .int .u64 0, .bool false, .int .u64 0, .int .i32 0, .int .u64 0, .bool false, .int .i32 0, .slice none 0 0, .string ⟨#[]⟩, .bool false, .int .i32 0, .slice none 0 0, .string ⟨#[]⟩, .slice none 0 0, .int .u32 0, .int .u64 0, .string ⟨#[]⟩] 33)
    refine wpList_store_row rfl 33 (.tmp 15) (.tmp 86) rfl wg.heap.size #[.slice none 0 0, .int .u64 0, .int .u64 0, .int .u64 0, .bool false, .int .u64 0, .bool false, .int .u64 0, .bool false, .int .u64 0, .int .i32 0, .int .u64 0, .bool false, .int .i32 0, .slice none 0 0, .string ⟨#[]⟩, .bool false, .int .i32 0, .slice none 0 0, .string ⟨#[]⟩, .slice none 0 0, .int .u32 0, .int .u64 0, .string ⟨#[]⟩] rfl (by show E5 = _; exact HE5.out.symm) 33 _ HZ (by kernel_rfl) rfl (by simp [Value.oneCell']) ?_
    obtain ⟨blr5, hbl⟩ : ∃ b, wg.heap.size = b := ⟨_, rfl⟩
    obtain ⟨Wh, hW⟩ : ∃ W, (wg.alloc (.cells #[.slice none 0 0, .int .u64 0, .int .u64 0, .int .u64 0, .bool false, .int .u64 0, .bool false, .int .u64 0, .bool false, .int .u64 0, .int .i32 0, .int .u64 0, .bool false, .int .i32 0, .slice none 0 0, .string ⟨#[]⟩, .bool false, .int .i32 0, .slice none 0 0, .string ⟨#[]⟩, .slice none 0 0, .int .u32 0, .int .u64 0, .string ⟨#[]⟩] 33)).setRow wg.heap.size #[.slice none 0 0, .int .u64 0, .int .u64 0, .int .u64 0, .bool false, .int .u64 0, .bool false, .int .u64 0, .bool false, .int .u64 0, .int .i32 0, .int .u64 0, .bool false, .int .i32 0, .slice none 0 0, .string ⟨#[]⟩, .bool false, .int .i32 0, .slice none 0 0, .string ⟨#[]⟩, .slice none 0 0, .int .u32 0, .int .u64 0, .string ⟨#[]⟩] = W := ⟨_, rfl⟩
    have hb : Below wg.heap.size wg Wh := by rw [← hW]; exact below_setRow (below_new _ _) (Nat.le_refl _) _
    have hr : Wh.heap[blr5]? = some (.cells #[.slice none 0 0, .int .u64 0, .int .u64 0, .int .u64 0, .bool false, .int .u64 0, .bool false, .int .u64 0, .bool false, .int .u64 0, .int .i32 0, .int .u64 0, .bool false, .int .i32 0, .slice none 0 0, .string ⟨#[]⟩, .bool false, .int .i32 0, .slice none 0 0, .string ⟨#[]⟩, .slice none 0 0, .int .u32 0, .int .u64 0, .string ⟨#[]⟩] 33 (0, 0)) := by rw [← hW, ← hbl]; exact setRow_heap _ _ _ _ _ _ HZ
    rw [hW, hbl]
    clear hW hbl HZ
    have H24 := Lib.hid (H23.out.below hb)
    clear hb H23
    have H25 := Lib.hid (H24.out.row (hr))
    clear H24
    clear hr
    go_wp2_with fail
    refine (first14 Wh).mono ?_; rintro e wi ⟨rfl, hb⟩
    have H26 := Lib.hid (H25.out.below hb)
    clear hb H25
    have ca : wi.cell? ⟨blr1, 23, none⟩ = some (.string Xu) := row_cell (H26.out.is.2.2.2.2.2.1) (j := 23) rfl
    have cb : wi.cell? ⟨blr2, 23, none⟩ = some (.string SU) := row_cell (H26.out.is.2.2.2.2.1) (j := 23) rfl
    go_wp2_with fail
    obtain ⟨ws, he⟩ := (H26.out.is.2.2.2.1).ec
    refine (code_any ws _ _ wi he (root_code _) (HG.out.below (H26.out.is.2.2.2.2.2.2.1))).mono ?_; rintro e wj ⟨rfl, hb⟩
    rw [show codeOf (codeV ((6 : Nat) : Int)) = 6 from rfl]
    have H27 := Lib.hid (H26.out.below hb)
    clear hb H26
    clear he ca cb
    go_wp2_with fail
    go_ret
    exact ⟨rfl, H27.out.is.2.2.2.2.2.2.1⟩
theorem xpdeep_any (s : ByteArray) (d : Int) (w : World) (hg : Glob w) :
 Calls Tryz.prog 5 #[.string s, .int .i64 d] w fun e w' => e = .returned (.bool true) ∧ Below w.heap.size w w' := by
 by_cases h1 : 6000 < s.size
 · exact xpdeep_L1 s d w h1
 by_cases h2 : d < 0
 · exact xpdeep_L2 s d w h1 h2
 by_cases h3 : 100 < d
 · exact xpdeep_L3 s d w h1 h2 h3
 obtain ⟨n', rfl⟩ := Int.eq_ofNat_of_zero_le (show 0 ≤ d by omega)
 cases hx : xprd s.data.toList (n' : Int) with
 | error c => exact xpdeep_A s n' w (by omega) (by omega) hx
 | ok x => exact xpdeep_C s n' w (by omega) (by omega) hg hx
end Go.Proofs.YtficgfemmijaaaaGreatDoor
