/-
  ExTakes, ExList, ValKey, NuRead
-/
import Derived.Test.YtjbingoliffjiaaGreatDoorExBack
import Derived.Test.YtjbingoliffjiaaGreatDoorExSub
import Derived.Test.YtjbingoliffjiaaGreatDoorValTake
import Derived.Deep.Cut
import Derived.Test.YtjbingoliffjiaaGreatDoorFld
import Derived.Test.YtjbingoliffjiaaGreatDoorNuBack
set_option maxRecDepth 1000000
set_option maxHeartbeats 16000000
namespace Go.Proofs.YtjbingoliffjiaaGreatDoor
open Go.RowKit
theorem extakes_any (r : Rec) (w : World) : Calls Tryz.prog 124 #[.int .i64 (r.num : Int), .int .i64 (r.ty : Int)] w fun e w' => e = .returned (.bool (exF.tk r)) ∧ w = w' := by
 obtain ⟨num, ty, n, s, raw⟩ := r
 have hq := exF_tk ⟨num, ty, n, s, raw⟩
 dsimp only at hq
 obtain ⟨q, hqe⟩ : ∃ q, exF.tk ⟨num, ty, n, s, raw⟩ = q := ⟨_, rfl⟩
 rw [hqe] at hq ⊢
 clear hqe
 by_cases h2 : num = 2
 ·subst h2
  have hb : Hid (q = ((ty : Int) == (1 : Int))) := Lib.hid (by rw [show ((1 : Int)) = ((1 : Nat) : Int) from rfl, ibeq, hq]; exact decide_eq_decide.2 (by omega))
  clear hq
  go_enter Tryz.func124, Tryz.ntmps124
  go_wp2_with fail
  go_ret
  exact ⟨by rw [hb.out]; rfl, rfl⟩
 by_cases h6 : num = 6
 ·subst h6
  have hb : Hid (q = ((ty : Int) == (1 : Int))) := Lib.hid (by rw [show ((1 : Int)) = ((1 : Nat) : Int) from rfl, ibeq, hq]; exact decide_eq_decide.2 (by omega))
  clear hq
  go_enter Tryz.func124, Tryz.ntmps124
  go_wp2_with fail
  go_ret
  exact ⟨by rw [hb.out]; rfl, rfl⟩
 by_cases h3 : num = 3
 ·subst h3
  have hb : Hid (q = ((ty : Int) == (1 : Int))) := Lib.hid (by rw [show ((1 : Int)) = ((1 : Nat) : Int) from rfl, ibeq, hq]; exact decide_eq_decide.2 (by omega))
  clear hq
  go_enter Tryz.func124, Tryz.ntmps124
  go_wp2_with fail
  go_ret
  exact ⟨by rw [hb.out]; rfl, rfl⟩
 by_cases h4 : num = 4
 ·subst h4
  have hb : Hid (q = ((ty : Int) == (2 : Int))) := Lib.hid (by rw [show ((2 : Int)) = ((2 : Nat) : Int) from rfl, ibeq, hq]; exact decide_eq_decide.2 (by omega))
  clear hq
  go_enter Tryz.func124, Tryz.ntmps124
  go_wp2_with fail
  go_ret
  exact ⟨by rw [hb.out]; rfl, rfl⟩
 by_cases h5 : num = 5
 ·subst h5
  have hb : Hid (q = ((ty : Int) == (2 : Int))) := Lib.hid (by rw [show ((2 : Int)) = ((2 : Nat) : Int) from rfl, ibeq, hq]; exact decide_eq_decide.2 (by omega))
  clear hq
  go_enter Tryz.func124, Tryz.ntmps124
  go_wp2_with fail
  go_ret
  exact ⟨by rw [hb.out]; rfl, rfl⟩
 by_cases h7 : num = 7
 ·subst h7
  have hb : Hid (q = ((ty : Int) == (2 : Int))) := Lib.hid (by rw [show ((2 : Int)) = ((2 : Nat) : Int) from rfl, ibeq, hq]; exact decide_eq_decide.2 (by omega))
  clear hq
  go_enter Tryz.func124, Tryz.ntmps124
  go_wp2_with fail
  go_ret
  exact ⟨by rw [hb.out]; rfl, rfl⟩
 have d2 : ((num : Int) == (2 : Int)) = false := by rw [beq_eq_false_iff_ne]; omega
 have d6 : ((num : Int) == (6 : Int)) = false := by rw [beq_eq_false_iff_ne]; omega
 have d3 : ((num : Int) == (3 : Int)) = false := by rw [beq_eq_false_iff_ne]; omega
 have d4 : ((num : Int) == (4 : Int)) = false := by rw [beq_eq_false_iff_ne]; omega
 have d5 : ((num : Int) == (5 : Int)) = false := by rw [beq_eq_false_iff_ne]; omega
 have d7 : ((num : Int) == (7 : Int)) = false := by rw [beq_eq_false_iff_ne]; omega
 have hb : Hid (q = false) := Lib.hid (by rw [hq]; exact decide_eq_false (by omega))
 clear h2 h6 h3 h4 h5 h7 hq
 go_enter Tryz.func124, Tryz.ntmps124
 go_wp2_with fail
 go_ret
 exact ⟨by rw [hb.out]; rfl, rfl⟩
open Go.RowKit
theorem Tryz.elExL : Elem Tryz.prog 25 91 (.agg #[.slice none 0 0, .int .u64 0, .int .i64 0, .int .u64 0, .string ⟨#[]⟩, .string ⟨#[]⟩, .string ⟨#[]⟩]) 7 96 := ⟨Tryz.underlying25, by kernel_rfl, by decide⟩
theorem addex_any (b o base : Nat) (cs0 : Array Value) (T0 : TypeId) (v : Value) (xs : List Ex) (P : Nat → Prop) (F : Nat) (X : ByteArray) (d : Int) (rd : Except Nat Ex) (w : World) (hET : ∀ args w, (callFunc F args).run Tryz.prog w = .ok (.enter F args) w) (hrow : Hid (w.heap[b]? = some (.cells cs0 T0 (0, 0)))) (hcs : cs0[o]? = some v) (hbase : b < base ∧ base ≤ w.heap.size) (h : Hid (LsAt exCel 91 base v xs P w)) (hl : xs.length ≤ 1000000) (hread : Hid (∀ w', Calls Tryz.prog F #[.string X, .int .i64 d] w' (RdPost exCel exzero rd X.size w'))) :
  Calls Tryz.prog 106 #[.pointer (some ⟨b, o, none⟩), .string X, .int .i64 d, .func (.func F) #[] #[]] w (AddPost exCel 91 T0 b o base cs0 xs P rd w) := by
 obtain ⟨css, Q, h2, h3, h4, h5, rfl⟩ := h.out
 obtain ⟨ao, cap, rfl⟩ := own_slice h2
 have H2 := Lib.hid h2
 have H3 := Lib.hid h3
 have H4 := Lib.hid h4
 have H5 := Lib.hid h5
 have hbw := row_lt hrow.out
 clear h h2 h3 h4 h5
 go_enter Tryz.func106, Tryz.ntmps106
 go_wp2_with fail
 refine (hread.out w).mono ?_; intro e w1 hpost
 obtain ⟨hb1, hcase⟩ := hpost
 have HB1 := Lib.hid hb1
 clear hb1
 cases rd with
 | error c =>
  obtain ⟨y, q, rfl, hq, hew⟩ := hcase
  obtain ⟨T', z, rfl⟩ := hew.iface
  have HEW := Lib.hid hew
  clear hew
  unfold exzero
  go_wp2_with fail
  go_ret
  exact ⟨(Upd.of_new HB1.out).trans (Upd.alloc _ _ _), _, rfl, (HEW.out.below (below_new _ _)).ec⟩
 | ok x =>
  obtain ⟨cs, rfl, hrel⟩ := hcase
  have HREL := Lib.hid hrel
  obtain ⟨lo, llo, lc, jt, jk, jn, Xa, Xb, Xu, hcs1⟩ := ExRel.form hrel
  have HCS := Lib.hid hcs1
  rw [hcs1]
  clear hcs1 hrel
  go_wp2_with fail
  obtain ⟨bx, hbx⟩ : ∃ bx, w1.heap.size = bx := ⟨_, rfl⟩
  obtain ⟨W2, hW2⟩ : ∃ W, w1.alloc (.cells #[.slice lo llo lc, .int .u64 jt, .int .i64 jk, .int .u64 jn, .string Xa, .string Xb, .string Xu] 91) = W := ⟨_, rfl⟩
  have HB2 : Hid (Below w1.heap.size w1 W2) := Lib.hid (by rw [← hW2]; exact below_new _ _)
  have HX2 : Hid (W2.heap[bx]? = some (.cells #[.slice lo llo lc, .int .u64 jt, .int .i64 jk, .int .u64 jn, .string Xa, .string Xb, .string Xu] 91 (0, 0))) := Lib.hid (by rw [← hW2, ← hbx]; exact heap_alloc_new _ _)
  have HBX := Lib.hid hbx
  rw [hW2, hbx]
  clear hW2 hbx
  obtain ⟨D, hD⟩ : ∃ D, W2.drew = D := ⟨_, rfl⟩
  have HBD : Hid (Below w1.heap.size w1 D) := Lib.hid (by rw [← hD]; exact HB2.out.drew)
  have HXD : Hid (D.heap[bx]? = some (.cells #[.slice lo llo lc, .int .u64 jt, .int .i64 jk, .int .u64 jn, .string Xa, .string Xb, .string Xu] 91 (0, 0))) := Lib.hid (by rw [← hD]; exact HX2.out)
  have HWD := Lib.hid (below_step HB1.out HBD.out)
  have HLD : Hid (D.heap[b]? = some (.cells cs0 T0 (0, 0))) := Lib.hid ((HWD.out.block _ hbw).trans hrow.out)
  have HOD : Hid (D.ownsRow base 91 7 (.slice ao xs.length cap) xs.length css.flatten) := Lib.hid (own_below H2.out HWD.out)
  have hcb : D.cell? ⟨b, o, none⟩ = some (.slice ao xs.length cap) := row_cell HLD.out hcs
  have hne : Nonempty {w' : World // w'.heap[bx]? = some (.cells #[.slice lo llo lc, .int .u64 jt, .int .i64 jk, .int .u64 jn, .string Xa, .string Xb, .string Xu] 91 (0, 0))} := ⟨⟨_, HXD.out⟩⟩
  have hsz := HWD.out.size
  have hxlt := row_lt HXD.out
  refine wp_region_seqP (S := fun w' => w'.heap[bx]? = some (.cells #[.slice lo llo lc, .int .u64 jt, .int .i64 jk, .int .u64 jn, .string Xa, .string Xb, .string Xu] 91 (0, 0))) (.take 0 (.take 1 (.take 2 (.take 4 (.two 3 5 (.come 5 (.come 6 (.take 7 (.come 8 .done)))) (.come 3 (.come 6 (.take 7 (.come 8 .done))))))))) (by kernel_rfl) (by kernel_rfl) (by kernel_rfl) (by kernel_rfl) (by rw [hD]; exact HXD.out) ?_
  rw [hD]
  clear hD
  iterate 3 (refine seqP_take _ rfl (fun K hK => ?_); go_simp; (first | refine hK _ ?_ | refine ⟨_, fun _ _ => rfl, hK _ ?_⟩); clear hK K)
  refine seqP_take _ rfl (fun K hK => ?_); go_simp
  refine ⟨.agg #[.slice lo llo lc, .int .u64 jt, .int .i64 jk, .int .u64 jn, .string Xa, .string Xb, .string Xu], fun a ha => by (have e0 := row_cell ha (j := 0) rfl; have e1 := row_cell ha (j := 1) rfl; have e2 := row_cell ha (j := 2) rfl; have e3 := row_cell ha (j := 3) rfl; have e4 := row_cell ha (j := 4) rfl; have e5 := row_cell ha (j := 5) rfl; have e6 := row_cell ha (j := 6) rfl); simp only [e0, e1, e2, e3, e4, e5, e6, Result.andThen]; rfl, hK _ ?_⟩; clear hK K
  have HXE : Hid ((D.alloc (.cells #[.slice lo llo lc, .int .u64 jt, .int .i64 jk, .int .u64 jn, .string Xa, .string Xb, .string Xu] 91)).heap[bx]? = some (.cells #[.slice lo llo lc, .int .u64 jt, .int .i64 jk, .int .u64 jn, .string Xa, .string Xb, .string Xu] 91 (0, 0))) := Lib.hid ((Below.heap_alloc _ _ _ hxlt).trans HXD.out)
  have hcbE : (D.alloc (.cells #[.slice lo llo lc, .int .u64 jt, .int .i64 jk, .int .u64 jn, .string Xa, .string Xb, .string Xu] 91)).cell? ⟨b, o, none⟩ = some (.slice ao xs.length cap) := row_cell ((Below.heap_alloc _ _ _ (row_lt HLD.out)).trans HLD.out) hcs
  refine seqP_two _ _ rfl rfl (fun K hK => ?_) (fun K hK => ?_)
  all_goals go_simp
  ·refine hK.out _ _ HXD.out ?_; clear hK K
   refine seqP_come _ rfl (fun K hK => ?_); go_simp
   refine hK.out _ _ HXE.out ?_; clear hK K
   refine seqP_wp _ rfl rfl (fun K hK => ?_)
   refine wp_app_at _ _ 25 rfl Tryz.elExL (by decide) (HOD.out.alloc _) rfl (b := D.heap.size) (off := 0) (m := 1) (c := 1) (news := [.slice lo llo lc, .int .u64 jt, .int .i64 jk, .int .u64 jn, .string Xa, .string Xb, .string Xu]) rfl rfl (fun j u hj => by rw [Nat.zero_add]; exact row_cell (heap_alloc_new D _) (by simpa using hj)) (by simp [Value.oneCell']) (by unfold maxLen; omega) (by omega) (by simp; omega) (fun v' w3 hown3 hgrow hnew => ?_)
   obtain ⟨g, cap', hv', hg1, hg2, _, _⟩ := own_some hown3 (by omega)
   subst hv'
   have hgu : Upd (fun k => (Value.slice ao xs.length cap).ownBlock = some k) (D.alloc (.cells #[.slice lo llo lc, .int .u64 jt, .int .i64 jk, .int .u64 jn, .string Xa, .string Xb, .string Xu] 91)) w3 := Upd.of_grown hgrow
   have HGU := Lib.hid hgu
   have HO3 := Lib.hid hown3
   have HNEW : Hid (∀ k, (Value.slice (some ⟨g, 0, none⟩) (xs.length + 1) cap').ownBlock = some k → (Value.slice ao xs.length cap).ownBlock = some k ∨ k = D.heap.size + 1) := Lib.hid (fun k hk => (hnew k hk).imp id (fun h => by rw [h]; exact Array.size_push ..))
   have HGB : Hid (¬ (Value.slice ao xs.length cap).ownBlock = some bx) := Lib.hid (fun h => by have := (H2.out.lt bx h).2; have := HB1.out.size; have := HBX.out; omega)
   have HGL : Hid (¬ (Value.slice ao xs.length cap).ownBlock = some b) := Lib.hid (fun h => by have := (H2.out.lt b h).1; omega)
   have HX3 : Hid (w3.heap[bx]? = some (.cells #[.slice lo llo lc, .int .u64 jt, .int .i64 jk, .int .u64 jn, .string Xa, .string Xb, .string Xu] 91 (0, 0))) := Lib.hid ((hgu.block bx (row_lt HXE.out) HGB.out).trans HXE.out)
   have HL3 : Hid (w3.heap[b]? = some (.cells cs0 T0 (0, 0))) := Lib.hid ((hgu.block b (by have := row_lt HLD.out; simp; omega) HGL.out).trans ((Below.heap_alloc _ _ _ (row_lt HLD.out)).trans HLD.out))
   refine hK.out _ _ HX3.out ?_; clear hK K
   clear hgu hown3 hnew hgrow
   (refine seqP_take _ rfl (fun K hK => ?_); go_simp; (first | refine hK _ ?_ | refine ⟨_, fun _ _ => rfl, hK _ ?_⟩); clear hK K)
   have hbxb : bx ≠ b := by have := HBX.out; have := HB1.out.size; omega
   refine seqP_come _ rfl (fun K hK => ?_)
   have hcb : w3.cell? ⟨b, o, none⟩ = some (.slice ao xs.length cap) := row_cell HL3.out hcs
   have hfb : w3.frozen? ⟨b, o, none⟩ = false := row_thaw HL3.out o
   go_simp
   obtain ⟨W4, hW4⟩ : ∃ W, w3.setCell ⟨b, o, none⟩ (.slice (some ⟨g, 0, none⟩) (xs.length + 1) cap') = W := ⟨_, rfl⟩
   have hu4 := Upd.set w3 ⟨b, o, none⟩ (.slice (some ⟨g, 0, none⟩) (xs.length + 1) cap')
   have hl4 := row_set HL3.out o (.slice (some ⟨g, 0, none⟩) (xs.length + 1) cap')
   rw [hW4] at hu4 hl4 ⊢
   clear hW4 hcb hfb
   have HU4 := Lib.hid hu4
   have HL4 := Lib.hid hl4
   have HO4 := Lib.hid (hu4.own HO3.out (fun k hk e => by have e : k = b := e; have := (HO3.out.lt k hk).1; omega))
   have HX4 : Hid (W4.heap[bx]? = some (.cells #[.slice lo llo lc, .int .u64 jt, .int .i64 jk, .int .u64 jn, .string Xa, .string Xb, .string Xu] 91 (0, 0))) := Lib.hid ((hu4.block bx (row_lt HX3.out) (fun e => hbxb e)).trans HX3.out)
   clear hu4 hl4
   refine hK.out _ _ HX4.out ?_; clear hK K
   refine seqP_done ?_
   go_wp2_with fail
   go_ret
   refine add_fin hbase HB1.out H3.out H4.out H5.out HREL.out (g := g) (hb0 := fun k hk => (H2.out.lt k hk).2) (cap' := cap') (W := W4) HL4.out ?_ ?_ ?_
   ·exact HCS.out ▸ HO4.out
   ·refine ((Upd.of_new HBD.out).trans ((Upd.alloc _ _ _).trans (HGU.out.mono fun k _ h => .inr h))).trans' (S' := fun k => k = b) (HU4.out.mono fun k _ h => h) (fun k hk h => .inl h)
   ·rcases HNEW.out g rfl with h | h
    ·exact .inl h
    ·exact .inr (by have := HBD.out.size; omega)
  ·refine hK.out _ _ HXE.out ?_; clear hK K
   refine seqP_come _ rfl (fun K hK => ?_); go_simp
   refine hK.out _ _ HXE.out ?_; clear hK K
   refine seqP_wp _ rfl rfl (fun K hK => ?_)
   refine wp_app_at _ _ 25 rfl Tryz.elExL (by decide) (HOD.out.alloc _) rfl (b := D.heap.size) (off := 0) (m := 1) (c := 1) (news := [.slice lo llo lc, .int .u64 jt, .int .i64 jk, .int .u64 jn, .string Xa, .string Xb, .string Xu]) rfl rfl (fun j u hj => by rw [Nat.zero_add]; exact row_cell (heap_alloc_new D _) (by simpa using hj)) (by simp [Value.oneCell']) (by unfold maxLen; omega) (by omega) (by simp; omega) (fun v' w3 hown3 hgrow hnew => ?_)
   obtain ⟨g, cap', hv', hg1, hg2, _, _⟩ := own_some hown3 (by omega)
   subst hv'
   have hgu : Upd (fun k => (Value.slice ao xs.length cap).ownBlock = some k) (D.alloc (.cells #[.slice lo llo lc, .int .u64 jt, .int .i64 jk, .int .u64 jn, .string Xa, .string Xb, .string Xu] 91)) w3 := Upd.of_grown hgrow
   have HGU := Lib.hid hgu
   have HO3 := Lib.hid hown3
   have HNEW : Hid (∀ k, (Value.slice (some ⟨g, 0, none⟩) (xs.length + 1) cap').ownBlock = some k → (Value.slice ao xs.length cap).ownBlock = some k ∨ k = D.heap.size + 1) := Lib.hid (fun k hk => (hnew k hk).imp id (fun h => by rw [h]; exact Array.size_push ..))
   have HGB : Hid (¬ (Value.slice ao xs.length cap).ownBlock = some bx) := Lib.hid (fun h => by have := (H2.out.lt bx h).2; have := HB1.out.size; have := HBX.out; omega)
   have HGL : Hid (¬ (Value.slice ao xs.length cap).ownBlock = some b) := Lib.hid (fun h => by have := (H2.out.lt b h).1; omega)
   have HX3 : Hid (w3.heap[bx]? = some (.cells #[.slice lo llo lc, .int .u64 jt, .int .i64 jk, .int .u64 jn, .string Xa, .string Xb, .string Xu] 91 (0, 0))) := Lib.hid ((hgu.block bx (row_lt HXE.out) HGB.out).trans HXE.out)
   have HL3 : Hid (w3.heap[b]? = some (.cells cs0 T0 (0, 0))) := Lib.hid ((hgu.block b (by have := row_lt HLD.out; simp; omega) HGL.out).trans ((Below.heap_alloc _ _ _ (row_lt HLD.out)).trans HLD.out))
   refine hK.out _ _ HX3.out ?_; clear hK K
   clear hgu hown3 hnew hgrow
   (refine seqP_take _ rfl (fun K hK => ?_); go_simp; (first | refine hK _ ?_ | refine ⟨_, fun _ _ => rfl, hK _ ?_⟩); clear hK K)
   have hbxb : bx ≠ b := by have := HBX.out; have := HB1.out.size; omega
   refine seqP_come _ rfl (fun K hK => ?_)
   have hcb : w3.cell? ⟨b, o, none⟩ = some (.slice ao xs.length cap) := row_cell HL3.out hcs
   have hfb : w3.frozen? ⟨b, o, none⟩ = false := row_thaw HL3.out o
   go_simp
   obtain ⟨W4, hW4⟩ : ∃ W, w3.setCell ⟨b, o, none⟩ (.slice (some ⟨g, 0, none⟩) (xs.length + 1) cap') = W := ⟨_, rfl⟩
   have hu4 := Upd.set w3 ⟨b, o, none⟩ (.slice (some ⟨g, 0, none⟩) (xs.length + 1) cap')
   have hl4 := row_set HL3.out o (.slice (some ⟨g, 0, none⟩) (xs.length + 1) cap')
   rw [hW4] at hu4 hl4 ⊢
   clear hW4 hcb hfb
   have HU4 := Lib.hid hu4
   have HL4 := Lib.hid hl4
   have HO4 := Lib.hid (hu4.own HO3.out (fun k hk e => by have e : k = b := e; have := (HO3.out.lt k hk).1; omega))
   have HX4 : Hid (W4.heap[bx]? = some (.cells #[.slice lo llo lc, .int .u64 jt, .int .i64 jk, .int .u64 jn, .string Xa, .string Xb, .string Xu] 91 (0, 0))) := Lib.hid ((hu4.block bx (row_lt HX3.out) (fun e => hbxb e)).trans HX3.out)
   clear hu4 hl4
   refine hK.out _ _ HX4.out ?_; clear hK K
   refine seqP_done ?_
   go_wp2_with fail
   go_ret
   refine add_fin hbase HB1.out H3.out H4.out H5.out HREL.out (g := g) (hb0 := fun k hk => (H2.out.lt k hk).2) (cap' := cap') (W := W4) HL4.out ?_ ?_ ?_
   ·exact HCS.out ▸ HO4.out
   ·refine ((Upd.of_new HBD.out).trans ((Upd.alloc _ _ _).trans (HGU.out.mono fun k _ h => .inr h))).trans' (S' := fun k => k = b) (HU4.out.mono fun k _ h => h) (fun k hk h => .inl h)
   ·rcases HNEW.out g rfl with h | h
    ·exact .inl h
    ·exact .inr (by have := HBD.out.size; omega)
open Go.RowKit
def Val.withUnk : Val → List UInt8 → Val
 | .mk k s b n l m i _, u => .mk k s b n l m i u
theorem VRel.unk {w : World} {P : Nat → Prop} {u : List UInt8} : ∀ {x : Val} {cs : List Value}, VRel w P x cs → VRel w P (x.withUnk u) (cs.set 7 (strV u))
 | .mk k s b n l m i _, cs, h => by
  rw [VRel] at h
  obtain ⟨lo, lc, mo, mc, rfl, h1, h2⟩ := h
  rw [Val.withUnk, VRel]
  exact ⟨lo, lc, mo, mc, rfl, h1, h2⟩
open Go.RowKit
open Go.RowKit
open Go.RowKit
open Go.RowKit
open Go.RowKit
def ExUn : Prop := ∀ (Y : ByteArray) (d' : Int) (w' : World), Y.size ≤ 500000 → -9223372036854775808 ≤ d' ∧ d' ≤ 9223372036854775807 → Calls Tryz.prog 107 #[.string Y, .int .i64 d'] w' (RdPost exCel exzero (exrd Y.data.toList d') Y.size w')
abbrev nuS : Type := Nat × Nat × ((Int × Nat) × List Ex) × List KV × Nat
def nuA (bx : Nat) : LPart nuS (bx + 1) := ltwo (lone kcel 98 (bx + 1) (fun st : nuS => st.2.2.2.1)) (lone exCel 91 (bx + 1) (fun st : nuS => st.2.2.1.2))
def nuRow : nuS → Value × Value → Array Value
 | (a, (t, (((k, n), _), (_, f)))), (vl, ves) => #[vl, .int .u64 (a : Int), .int .u64 (t : Int), .int .i64 k, .int .u64 (n : Int), ves, .int .u32 (f : Int), .string ⟨#[]⟩]
def nuT (bx : Nat) : Taker nuS := rowL (nuA bx) 28 nuRow
theorem nu_see_l (bx : Nat) : (nuA bx).Sees kcel 98 (fun st : nuS => st.2.2.2.1) (fun v : Value × Value => v.1) (fun (v : Value × Value) v' => ((v', v.2) : Value × Value)) (fun st st' => (True) ∧ st'.2.2.1.2 = st.2.2.1.2) := (sees_l (sees_one _ _ _ _))
theorem nu_see_es (bx : Nat) : (nuA bx).Sees exCel 91 (fun st : nuS => st.2.2.1.2) (fun v : Value × Value => v.2) (fun (v : Value × Value) v' => ((v.1, v') : Value × Value)) (fun st st' => (st'.2.2.2.1 = st.2.2.2.1) ∧ True) := (sees_r (sees_one _ _ _ _))
theorem nutake_any (bx : Nat) (D : Int) (r : Rec) (hUl : Hid (r.num = 7 → UKey)) (hUes : Hid (r.num = 5 → ExUn)) (st : nuS) (P : Nat → Prop) (w : World) (hD : -9223372036854775807 ≤ D ∧ D ≤ 9223372036854775807) (hk : nuF.tk r = true) (hs : r.s.length ≤ 500000) (hll : st.2.2.2.1.length ≤ 1000000) (hles : st.2.2.1.2.length ≤ 1000000) (h : Hid ((nuT bx).rel st P w)) :
  Calls Tryz.prog 47 #[.pointer (some ⟨bx, 0, none⟩), recV r, .int .i64 (D - 1)] w (TakePost (nuT bx) (nuF.step D) st P r w) := by
 obtain ⟨v, P1, h1, h2, rfl⟩ := h.out
 obtain ⟨a, ⟨t, ⟨⟨⟨k, n⟩, es⟩, ⟨l, f⟩⟩⟩⟩ := st
 obtain ⟨vl, ves⟩ := v
 have H1 := Lib.hid h1
 have H2 := Lib.hid h2
 clear h h1 h2
 obtain ⟨X, hX⟩ : ∃ X : ByteArray, (⟨r.s.toArray⟩ : ByteArray) = X := ⟨_, rfl⟩
 have hXs : X.size ≤ 500000 := by rw [← hX]; simp [ByteArray.size]; omega
 have HXD : Hid (X.data.toList = r.s) := Lib.hid (by rw [← hX])
 have HX : Hid ((⟨r.s.toArray⟩ : ByteArray) = X) := Lib.hid hX
 obtain ⟨rb, hrb⟩ : ∃ rb, w.heap.size = rb := ⟨_, rfl⟩
 obtain ⟨W0, hW0⟩ : ∃ W0, w.alloc (.cells #[.int .i64 (r.num : Int), .int .i64 (r.ty : Int), .int .u64 (r.n : Int), .string X, .string ⟨r.raw.toArray⟩] 78) = W0 := ⟨_, rfl⟩
 have HU0 : Hid (Upd (fun _ => False) w W0) := Lib.hid (by rw [← hW0]; exact Upd.alloc _ _ _)
 have HR0 : Hid (W0.heap[rb]? = some (.cells #[.int .i64 (r.num : Int), .int .i64 (r.ty : Int), .int .u64 (r.n : Int), .string X, .string ⟨r.raw.toArray⟩] 78 (0, 0))) := Lib.hid (by rw [← hW0, ← hrb]; exact heap_alloc_new _ _)
 have H10 : Hid (W0.heap[bx]? = some (.cells (nuRow (a, (t, (((k, n), es), (l, f)))) (vl, ves)) 28 (0, 0))) := Lib.hid ((HU0.out.block bx (row_lt H1.out) (fun h => h)).trans H1.out)
 have H20 : Hid ((nuA bx).rel (a, (t, (((k, n), es), (l, f)))) (vl, ves) P1 W0) := Lib.hid ((nuA bx).kept H2.out (HU0.out.mono fun _ _ h => h.elim))
 have HP1 : Hid (∀ k, P1 k → k < w.heap.size) := Lib.hid (fun k hk => ((nuA bx).lt H2.out k hk).2)
 have HW0 := Lib.hid hW0
 have HRB := Lib.hid hrb
 have hsz := HU0.out.size
 have hbx := row_lt H1.out
 have hn0 : W0.cell? ⟨rb, 0, none⟩ = some (.int .i64 (r.num : Int)) := row_cell HR0.out (j := 0) rfl
 rw [nuF_tk, decide_eq_true_eq] at hk
 have HKN := Lib.hid hk
 unfold recV
 rw [hX]
 rw [← hW0, ← hrb] at hn0
 clear hX hW0
 by_cases hN2 : r.num = 2
 ·have hty : r.num = 2 ∧ r.ty = 1 := by omega
  have HSE := Lib.hid (nuF_2 hty D a t k n es l f)
  have d2 : ((r.num : Int) == 2) = true := by rw [beq_iff_eq]; omega
  have hc1 : W0.cell? ⟨bx, 1, none⟩ = some (.int .u64 (a : Int)) := row_cell H10.out (j := 1) rfl
  have hf1 : W0.frozen? ⟨bx, 1, none⟩ = false := row_thaw H10.out 1
  have HP := Lib.hid (rowL_set (A := nuA bx) (T0 := 28) (row := nuRow) (st := (a, (t, (((k, n), es), (l, f))))) (st' := (r.n, (t, (((k, n), es), (l, f))))) (v := (vl, ves)) 1 (.int .u64 (r.n : Int)) H10.out H20.out (rfl) ⟨rfl, rfl⟩)
  rw [← HW0.out] at hc1 hf1
  clear hty hk HKN hN2
  go_enter Tryz.func47, Tryz.ntmps47
  go_wp2_with fail
  rw [HW0.out]
  go_ret
  exact takepost_ok HSE.out ((HU0.out.mono fun _ _ h => h.elim).trans (HP.out.2.mono fun k _ h => .inl h)) HP.out.1 (fun k hk => .inl hk)
 by_cases hN3 : r.num = 3
 ·have hty : r.num = 3 ∧ r.ty = 1 := by omega
  have HSE := Lib.hid (nuF_3 hty D a t k n es l f)
  have d2 : ((r.num : Int) == 2) = false := by rw [beq_eq_false_iff_ne]; omega
  have d3 : ((r.num : Int) == 3) = true := by rw [beq_iff_eq]; omega
  have hc2 : W0.cell? ⟨bx, 2, none⟩ = some (.int .u64 (t : Int)) := row_cell H10.out (j := 2) rfl
  have hf2 : W0.frozen? ⟨bx, 2, none⟩ = false := row_thaw H10.out 2
  have HP := Lib.hid (rowL_set (A := nuA bx) (T0 := 28) (row := nuRow) (st := (a, (t, (((k, n), es), (l, f))))) (st' := (a, (r.n, (((k, n), es), (l, f))))) (v := (vl, ves)) 2 (.int .u64 (r.n : Int)) H10.out H20.out (rfl) ⟨rfl, rfl⟩)
  rw [← HW0.out] at hc2 hf2
  clear hty hk HKN hN3
  go_enter Tryz.func47, Tryz.ntmps47
  go_wp2_with fail
  rw [HW0.out]
  go_ret
  exact takepost_ok HSE.out ((HU0.out.mono fun _ _ h => h.elim).trans (HP.out.2.mono fun k _ h => .inl h)) HP.out.1 (fun k hk => .inl hk)
 by_cases hN6 : r.num = 6
 ·have hty : r.num = 6 ∧ r.ty = 1 := by omega
  have HSE := Lib.hid (nuF_6 hty D a t k n es l f)
  have d2 : ((r.num : Int) == 2) = false := by rw [beq_eq_false_iff_ne]; omega
  have d3 : ((r.num : Int) == 3) = false := by rw [beq_eq_false_iff_ne]; omega
  have d6 : ((r.num : Int) == 6) = true := by rw [beq_iff_eq]; omega
  clear hty hk HKN hN6
  go_enter Tryz.func47, Tryz.ntmps47
  go_wp2_with fail
  rw [HW0.out]
  go_upto_region 11 with fail
  all_goals
   obtain ⟨D0, hD0⟩ : ∃ D0, W0.drew = D0 := ⟨_, rfl⟩
   have hB0 : Below W0.heap.size W0 D0 := by rw [← hD0]; exact (Below.refl _ _).drew
   have hS : (fun w' : World => w'.heap[rb]? = some (.cells #[.int .i64 (r.num : Int), .int .i64 (r.ty : Int), .int .u64 (r.n : Int), .string X, .string ⟨r.raw.toArray⟩] 78 (0, 0))) D0 := (hB0.block _ (row_lt HR0.out)).trans HR0.out
   have hne : Nonempty {w' : World // (fun w' : World => w'.heap[rb]? = some (.cells #[.int .i64 (r.num : Int), .int .i64 (r.ty : Int), .int .u64 (r.n : Int), .string X, .string ⟨r.raw.toArray⟩] 78 (0, 0))) w'} := ⟨⟨_, hS⟩⟩
   have hx : D0.heap[bx]? = some (.cells (nuRow (a, (t, (((k, n), es), (l, f)))) (vl, ves)) 28 (0, 0)) := (hB0.block _ (row_lt H10.out)).trans H10.out
   have hset := rowL_set2 (A := nuA bx) (T0 := 28) (row := nuRow) (st := (a, (t, (((k, n), es), (l, f))))) (st' := (a, (t, (((2, r.n), es), (l, f))))) (v := (vl, ves)) 3 4 (.int .i64 2) (.int .u64 (r.n : Int)) hx ((nuA bx).kept H20.out ((Upd.of_new (S := fun _ => False) hB0).mono fun _ _ h => h.elim)) rfl ⟨rfl, rfl⟩
   have hS1 : (fun w' : World => w'.heap[rb]? = some (.cells #[.int .i64 (r.num : Int), .int .i64 (r.ty : Int), .int .u64 (r.n : Int), .string X, .string ⟨r.raw.toArray⟩] 78 (0, 0))) (D0.setCell ⟨bx, 3, none⟩ (.int .i64 2)) := ((Upd.set D0 ⟨bx, 3, none⟩ (.int .i64 2)).block rb (row_lt hS) (fun e => by have e : rb = bx := e; omega)).trans hS
   have hS2 : (fun w' : World => w'.heap[rb]? = some (.cells #[.int .i64 (r.num : Int), .int .i64 (r.ty : Int), .int .u64 (r.n : Int), .string X, .string ⟨r.raw.toArray⟩] 78 (0, 0))) ((D0.setCell ⟨bx, 3, none⟩ (.int .i64 2)).setCell ⟨bx, 4, none⟩ (.int .u64 (r.n : Int))) := ((Upd.set _ ⟨bx, 4, none⟩ (.int .u64 (r.n : Int))).block rb (row_lt hS1) (fun e => by have e : rb = bx := e; omega)).trans hS1
   have HSET := Lib.hid hset
   have hc1 : D0.cell? ⟨bx, 3, none⟩ = some (.int .i64 k) := row_cell hx (j := 3) rfl
   have hf1 : D0.frozen? ⟨bx, 3, none⟩ = false := row_thaw hx 3
   have hx1 := row_set hx 3 (.int .i64 2)
   have hc2 : (D0.setCell ⟨bx, 3, none⟩ (.int .i64 2)).cell? ⟨bx, 4, none⟩ = some (.int .u64 (n : Int)) := row_cell hx1 (j := 4) rfl
   have hf2 : (D0.setCell ⟨bx, 3, none⟩ (.int .i64 2)).frozen? ⟨bx, 4, none⟩ = false := row_thaw hx1 4
   clear hset hx hx1
   refine wp_region_seq (S := fun w' : World => w'.heap[rb]? = some (.cells #[.int .i64 (r.num : Int), .int .i64 (r.ty : Int), .int .u64 (r.n : Int), .string X, .string ⟨r.raw.toArray⟩] 78 (0, 0))) [(0, true), (1, true), (2, true), (3, true), (4, true), (5, true), (6, true), (7, false), (8, true), (9, true), (10, false)] (by kernel_rfl) (by kernel_rfl) (by kernel_rfl) (by kernel_rfl) (by rw [hD0]; exact hS) ?_
   rw [hD0]
   iterate 4 (refine seq_take _ rfl (fun KC hK => ?_); go_simp; (first | refine hK _ ?_ | refine ⟨_, fun _ _ => rfl, hK _ ?_⟩); clear hK KC)
   refine seq_take _ rfl (fun KC hK => ?_); go_simp
   refine ⟨.int .u64 (r.n : Int), fun a ha => by rw [row_cell ha (j := 2) rfl]; rfl, hK _ ?_⟩
   clear hK KC
   iterate 2 (refine seq_take _ rfl (fun KC hK => ?_); go_simp; (first | refine hK _ ?_ | refine ⟨_, fun _ _ => rfl, hK _ ?_⟩); clear hK KC)
   refine seq_come _ rfl (fun KC hK => ?_); go_simp
   refine hK.out _ _ hS1 ?_; clear hK KC
   iterate 2 (refine seq_take _ rfl (fun KC hK => ?_); go_simp; (first | refine hK _ ?_ | refine ⟨_, fun _ _ => rfl, hK _ ?_⟩); clear hK KC)
   refine seq_come _ rfl (fun KC hK => ?_); go_simp
   refine hK.out _ _ hS2 ?_; clear hK KC
   refine seq_done ?_
   go_wp2_with fail
   go_ret
   exact takepost_ok HSE.out (((HU0.out.mono fun _ _ h => h.elim).trans (Upd.of_new hB0)).trans (HSET.out.2.mono fun k _ h => .inl h)) HSET.out.1 (fun k hk => .inl hk)
 by_cases hN4 : r.num = 4
 ·have hty : r.num = 4 ∧ r.ty = 1 := by omega
  have HSE := Lib.hid (nuF_4 hty D a t k n es l f)
  have d2 : ((r.num : Int) == 2) = false := by rw [beq_eq_false_iff_ne]; omega
  have d3 : ((r.num : Int) == 3) = false := by rw [beq_eq_false_iff_ne]; omega
  have d6 : ((r.num : Int) == 6) = false := by rw [beq_eq_false_iff_ne]; omega
  have d4 : ((r.num : Int) == 4) = true := by rw [beq_iff_eq]; omega
  clear hty hk HKN hN4
  go_enter Tryz.func47, Tryz.ntmps47
  go_wp2_with fail
  rw [HW0.out]
  go_upto_region 11 with fail
  all_goals
   obtain ⟨D0, hD0⟩ : ∃ D0, W0.drew = D0 := ⟨_, rfl⟩
   have hB0 : Below W0.heap.size W0 D0 := by rw [← hD0]; exact (Below.refl _ _).drew
   have hS : (fun w' : World => w'.heap[rb]? = some (.cells #[.int .i64 (r.num : Int), .int .i64 (r.ty : Int), .int .u64 (r.n : Int), .string X, .string ⟨r.raw.toArray⟩] 78 (0, 0))) D0 := (hB0.block _ (row_lt HR0.out)).trans HR0.out
   have hne : Nonempty {w' : World // (fun w' : World => w'.heap[rb]? = some (.cells #[.int .i64 (r.num : Int), .int .i64 (r.ty : Int), .int .u64 (r.n : Int), .string X, .string ⟨r.raw.toArray⟩] 78 (0, 0))) w'} := ⟨⟨_, hS⟩⟩
   have hx : D0.heap[bx]? = some (.cells (nuRow (a, (t, (((k, n), es), (l, f)))) (vl, ves)) 28 (0, 0)) := (hB0.block _ (row_lt H10.out)).trans H10.out
   have hset := rowL_set2 (A := nuA bx) (T0 := 28) (row := nuRow) (st := (a, (t, (((k, n), es), (l, f))))) (st' := (a, (t, (((1, r.n), es), (l, f))))) (v := (vl, ves)) 3 4 (.int .i64 1) (.int .u64 (r.n : Int)) hx ((nuA bx).kept H20.out ((Upd.of_new (S := fun _ => False) hB0).mono fun _ _ h => h.elim)) rfl ⟨rfl, rfl⟩
   have hS1 : (fun w' : World => w'.heap[rb]? = some (.cells #[.int .i64 (r.num : Int), .int .i64 (r.ty : Int), .int .u64 (r.n : Int), .string X, .string ⟨r.raw.toArray⟩] 78 (0, 0))) (D0.setCell ⟨bx, 3, none⟩ (.int .i64 1)) := ((Upd.set D0 ⟨bx, 3, none⟩ (.int .i64 1)).block rb (row_lt hS) (fun e => by have e : rb = bx := e; omega)).trans hS
   have hS2 : (fun w' : World => w'.heap[rb]? = some (.cells #[.int .i64 (r.num : Int), .int .i64 (r.ty : Int), .int .u64 (r.n : Int), .string X, .string ⟨r.raw.toArray⟩] 78 (0, 0))) ((D0.setCell ⟨bx, 3, none⟩ (.int .i64 1)).setCell ⟨bx, 4, none⟩ (.int .u64 (r.n : Int))) := ((Upd.set _ ⟨bx, 4, none⟩ (.int .u64 (r.n : Int))).block rb (row_lt hS1) (fun e => by have e : rb = bx := e; omega)).trans hS1
   have HSET := Lib.hid hset
   have hc1 : D0.cell? ⟨bx, 3, none⟩ = some (.int .i64 k) := row_cell hx (j := 3) rfl
   have hf1 : D0.frozen? ⟨bx, 3, none⟩ = false := row_thaw hx 3
   have hx1 := row_set hx 3 (.int .i64 1)
   have hc2 : (D0.setCell ⟨bx, 3, none⟩ (.int .i64 1)).cell? ⟨bx, 4, none⟩ = some (.int .u64 (n : Int)) := row_cell hx1 (j := 4) rfl
   have hf2 : (D0.setCell ⟨bx, 3, none⟩ (.int .i64 1)).frozen? ⟨bx, 4, none⟩ = false := row_thaw hx1 4
   clear hset hx hx1
   refine wp_region_seq (S := fun w' : World => w'.heap[rb]? = some (.cells #[.int .i64 (r.num : Int), .int .i64 (r.ty : Int), .int .u64 (r.n : Int), .string X, .string ⟨r.raw.toArray⟩] 78 (0, 0))) [(0, true), (1, true), (2, true), (3, true), (4, true), (5, true), (6, true), (7, false), (8, true), (9, true), (10, false)] (by kernel_rfl) (by kernel_rfl) (by kernel_rfl) (by kernel_rfl) (by rw [hD0]; exact hS) ?_
   rw [hD0]
   iterate 4 (refine seq_take _ rfl (fun KC hK => ?_); go_simp; (first | refine hK _ ?_ | refine ⟨_, fun _ _ => rfl, hK _ ?_⟩); clear hK KC)
   refine seq_take _ rfl (fun KC hK => ?_); go_simp
   refine ⟨.int .u64 (r.n : Int), fun a ha => by rw [row_cell ha (j := 2) rfl]; rfl, hK _ ?_⟩
   clear hK KC
   iterate 2 (refine seq_take _ rfl (fun KC hK => ?_); go_simp; (first | refine hK _ ?_ | refine ⟨_, fun _ _ => rfl, hK _ ?_⟩); clear hK KC)
   refine seq_come _ rfl (fun KC hK => ?_); go_simp
   refine hK.out _ _ hS1 ?_; clear hK KC
   iterate 2 (refine seq_take _ rfl (fun KC hK => ?_); go_simp; (first | refine hK _ ?_ | refine ⟨_, fun _ _ => rfl, hK _ ?_⟩); clear hK KC)
   refine seq_come _ rfl (fun KC hK => ?_); go_simp
   refine hK.out _ _ hS2 ?_; clear hK KC
   refine seq_done ?_
   go_wp2_with fail
   go_ret
   exact takepost_ok HSE.out (((HU0.out.mono fun _ _ h => h.elim).trans (Upd.of_new hB0)).trans (HSET.out.2.mono fun k _ h => .inl h)) HSET.out.1 (fun k hk => .inl hk)
 by_cases hN5 : r.num = 5
 ·have hty : r.num = 5 ∧ r.ty = 2 := by omega
  have HSE := Lib.hid (nuF_5 hty D a t k n es l f)
  have HUK := Lib.hid (hUes.out hty.1)
  have d2 : ((r.num : Int) == 2) = false := by rw [beq_eq_false_iff_ne]; omega
  have d3 : ((r.num : Int) == 3) = false := by rw [beq_eq_false_iff_ne]; omega
  have d6 : ((r.num : Int) == 6) = false := by rw [beq_eq_false_iff_ne]; omega
  have d4 : ((r.num : Int) == 4) = false := by rw [beq_eq_false_iff_ne]; omega
  have d5 : ((r.num : Int) == 5) = true := by rw [beq_iff_eq]; omega
  clear hty hk HKN hN5
  go_enter Tryz.func47, Tryz.ntmps47
  go_wp2_with fail
  rw [HW0.out]
  go_upto_region 14 with fail
  all_goals
   obtain ⟨D0, hD0⟩ : ∃ D0, W0.drew = D0 := ⟨_, rfl⟩
   have hB0 : Below W0.heap.size W0 D0 := by rw [← hD0]; exact (Below.refl _ _).drew
   have hS : (fun w' : World => w'.heap[rb]? = some (.cells #[.int .i64 (r.num : Int), .int .i64 (r.ty : Int), .int .u64 (r.n : Int), .string X, .string ⟨r.raw.toArray⟩] 78 (0, 0))) D0 := (hB0.block _ (row_lt HR0.out)).trans HR0.out
   have hne : Nonempty {w' : World // (fun w' : World => w'.heap[rb]? = some (.cells #[.int .i64 (r.num : Int), .int .i64 (r.ty : Int), .int .u64 (r.n : Int), .string X, .string ⟨r.raw.toArray⟩] 78 (0, 0))) w'} := ⟨⟨_, hS⟩⟩
   refine wp_region_seq (S := fun w' : World => w'.heap[rb]? = some (.cells #[.int .i64 (r.num : Int), .int .i64 (r.ty : Int), .int .u64 (r.n : Int), .string X, .string ⟨r.raw.toArray⟩] 78 (0, 0))) [(0, true), (1, true), (2, true), (3, true), (4, true), (5, true), (6, false), (7, true)] (by kernel_rfl) (by kernel_rfl) (by kernel_rfl) (by kernel_rfl) (by rw [hD0]; exact hS) ?_
   rw [hD0]
   iterate 4 (refine seq_take _ rfl (fun KC hK => ?_); go_simp; (first | refine hK _ ?_ | refine ⟨_, fun _ _ => rfl, hK _ ?_⟩); clear hK KC)
   refine seq_take _ rfl (fun KC hK => ?_); go_simp
   refine ⟨.string X, fun a ha => by rw [row_cell ha (j := 3) rfl]; rfl, hK _ ?_⟩
   clear hK KC
   (refine seq_take _ rfl (fun KC hK => ?_); go_simp; (first | refine hK _ ?_ | refine ⟨_, fun _ _ => rfl, hK _ ?_⟩); clear hK KC)
   have H2D : Hid ((nuA bx).rel (a, (t, (((k, n), es), (l, f)))) (vl, ves) P1 D0) := Lib.hid ((nuA bx).kept H20.out ((Upd.of_new (S := fun _ => False) hB0).mono fun _ _ h => h.elim))
   obtain ⟨Pi, hls, hsub, hput⟩ := nu_see_es bx _ _ _ _ H2D.out
   have HPUT := Lib.hid hput
   have HSUB := Lib.hid hsub
   clear hput hsub
   have HA := Lib.hid (addex_any bx 5 (bx + 1) (nuRow (a, (t, (((k, n), es), (l, f)))) (vl, ves)) 28 ves es Pi 107 X (D - 1) (exrd r.s (D - 1)) D0 (enters_of Tryz.func107 (by kernel_rfl) rfl) (Lib.hid ((hB0.block _ (row_lt H10.out)).trans H10.out)) rfl ⟨by omega, by have := hB0.size; omega⟩ (Lib.hid hls) hles (Lib.hid (fun w' => by have := HUK.out X (D - 1) w' (by omega) (by omega); rwa [HXD.out] at this)))
   clear hls
   refine seq_come _ rfl (fun KC hK => ?_); go_simp
   refine HA.out.mono ?_; intro e w1 hpost
   have hS1 : (fun w' : World => w'.heap[rb]? = some (.cells #[.int .i64 (r.num : Int), .int .i64 (r.ty : Int), .int .u64 (r.n : Int), .string X, .string ⟨r.raw.toArray⟩] 78 (0, 0))) w1 := (hpost.1.block rb (row_lt hS) (fun e => by
    rcases e with e | e
    ·omega
    ·have := HP1.out rb (HSUB.out rb e); have := HRB.out; omega)).trans hS
   cases hrd : exrd r.s (D - 1) with
   | error c =>
    rw [hrd] at hpost HSE
    obtain ⟨hu1, y, rfl, hec⟩ := hpost
    have hu1 := hu1.mono (S' := fun k => k = bx ∨ P1 k) (fun k _ h => h.imp id (HSUB.out k))
    obtain ⟨T', z, rfl⟩ := hec.iface
    go_simp
    refine hK.out _ _ hS1 ?_; clear hK KC
    (refine seq_take _ rfl (fun KC hK => ?_); go_simp; (first | refine hK _ ?_ | refine ⟨_, fun _ _ => rfl, hK _ ?_⟩); clear hK KC)
    refine seq_done ?_
    go_wp2_with fail
    go_ret
    exact takepost_no HSE.out (((HU0.out.mono fun _ _ h => h.elim).trans (Upd.of_new hB0)).trans hu1) hec
   | ok x =>
    rw [hrd] at hpost HSE
    obtain ⟨rfl, hu, P', hr, hp⟩ := rowL_add (A := nuA bx) (put := fun (v : Value × Value) v' => ((v.1, v') : Value × Value)) (sm := fun st st' : nuS => (st'.2.2.2.1 = st.2.2.2.1) ∧ True) (ls := fun st : nuS => st.2.2.1.2) (st := (a, (t, (((k, n), es), (l, f))))) (st' := (a, (t, (((k, n), es ++ [x]), (l, f))))) (v := (vl, ves)) H2D.out HPUT.out hpost (fun v' => rfl) ⟨rfl, trivial⟩ rfl HSUB.out
    go_simp
    refine hK.out _ _ hS1 ?_; clear hK KC
    (refine seq_take _ rfl (fun KC hK => ?_); go_simp; (first | refine hK _ ?_ | refine ⟨_, fun _ _ => rfl, hK _ ?_⟩); clear hK KC)
    refine seq_done ?_
    have HU := Lib.hid hu
    have HRL := Lib.hid hr
    have HP := Lib.hid hp
    clear hu hr hp hpost hrd
    go_wp2_with fail
    go_ret
    exact takepost_ok HSE.out (((HU0.out.mono fun _ _ h => h.elim).trans (Upd.of_new hB0)).trans HU.out) HRL.out (fun k hk => (HP.out k hk).imp id (fun h => Nat.le_trans (Nat.le_trans hsz hB0.size) h))
 by_cases hN7 : r.num = 7
 ·have hty : r.num = 7 ∧ r.ty = 2 := by omega
  have HSE := Lib.hid (nuF_7 hty D a t k n es l f)
  have HUK := Lib.hid (hUl.out hty.1)
  have d2 : ((r.num : Int) == 2) = false := by rw [beq_eq_false_iff_ne]; omega
  have d3 : ((r.num : Int) == 3) = false := by rw [beq_eq_false_iff_ne]; omega
  have d6 : ((r.num : Int) == 6) = false := by rw [beq_eq_false_iff_ne]; omega
  have d4 : ((r.num : Int) == 4) = false := by rw [beq_eq_false_iff_ne]; omega
  have d5 : ((r.num : Int) == 5) = false := by rw [beq_eq_false_iff_ne]; omega
  have d7 : ((r.num : Int) == 7) = true := by rw [beq_iff_eq]; omega
  clear hty hk HKN hN7
  go_enter Tryz.func47, Tryz.ntmps47
  go_wp2_with fail
  rw [HW0.out]
  go_upto_region 15 with fail
  all_goals
   obtain ⟨D0, hD0⟩ : ∃ D0, W0.drew = D0 := ⟨_, rfl⟩
   have hB0 : Below W0.heap.size W0 D0 := by rw [← hD0]; exact (Below.refl _ _).drew
   have hS : (fun w' : World => w'.heap[rb]? = some (.cells #[.int .i64 (r.num : Int), .int .i64 (r.ty : Int), .int .u64 (r.n : Int), .string X, .string ⟨r.raw.toArray⟩] 78 (0, 0))) D0 := (hB0.block _ (row_lt HR0.out)).trans HR0.out
   have hne : Nonempty {w' : World // (fun w' : World => w'.heap[rb]? = some (.cells #[.int .i64 (r.num : Int), .int .i64 (r.ty : Int), .int .u64 (r.n : Int), .string X, .string ⟨r.raw.toArray⟩] 78 (0, 0))) w'} := ⟨⟨_, hS⟩⟩
   refine wp_region_seq (S := fun w' : World => w'.heap[rb]? = some (.cells #[.int .i64 (r.num : Int), .int .i64 (r.ty : Int), .int .u64 (r.n : Int), .string X, .string ⟨r.raw.toArray⟩] 78 (0, 0))) [(0, true), (1, true), (2, true), (3, true), (4, true), (5, true), (6, false), (7, true)] (by kernel_rfl) (by kernel_rfl) (by kernel_rfl) (by kernel_rfl) (by rw [hD0]; exact hS) ?_
   rw [hD0]
   iterate 4 (refine seq_take _ rfl (fun KC hK => ?_); go_simp; (first | refine hK _ ?_ | refine ⟨_, fun _ _ => rfl, hK _ ?_⟩); clear hK KC)
   refine seq_take _ rfl (fun KC hK => ?_); go_simp
   refine ⟨.string X, fun a ha => by rw [row_cell ha (j := 3) rfl]; rfl, hK _ ?_⟩
   clear hK KC
   (refine seq_take _ rfl (fun KC hK => ?_); go_simp; (first | refine hK _ ?_ | refine ⟨_, fun _ _ => rfl, hK _ ?_⟩); clear hK KC)
   have H2D : Hid ((nuA bx).rel (a, (t, (((k, n), es), (l, f)))) (vl, ves) P1 D0) := Lib.hid ((nuA bx).kept H20.out ((Upd.of_new (S := fun _ => False) hB0).mono fun _ _ h => h.elim))
   obtain ⟨Pi, hls, hsub, hput⟩ := nu_see_l bx _ _ _ _ H2D.out
   have HPUT := Lib.hid hput
   have HSUB := Lib.hid hsub
   clear hput hsub
   have HA := Lib.hid (addk_any bx 0 (bx + 1) (nuRow (a, (t, (((k, n), es), (l, f)))) (vl, ves)) 28 vl l Pi 109 X (D - 1) (kread 1000001 r.s (D - 1)) D0 (enters_of Tryz.func109 (by kernel_rfl) rfl) (Lib.hid ((hB0.block _ (row_lt H10.out)).trans H10.out)) rfl ⟨by omega, by have := hB0.size; omega⟩ (Lib.hid hls) hll (Lib.hid (fun w' => by have := HUK.out X (D - 1) w' (by omega) (by omega); rwa [HXD.out] at this)))
   clear hls
   refine seq_come _ rfl (fun KC hK => ?_); go_simp
   refine HA.out.mono ?_; intro e w1 hpost
   have hS1 : (fun w' : World => w'.heap[rb]? = some (.cells #[.int .i64 (r.num : Int), .int .i64 (r.ty : Int), .int .u64 (r.n : Int), .string X, .string ⟨r.raw.toArray⟩] 78 (0, 0))) w1 := (hpost.1.block rb (row_lt hS) (fun e => by
    rcases e with e | e
    ·omega
    ·have := HP1.out rb (HSUB.out rb e); have := HRB.out; omega)).trans hS
   cases hrd : kread 1000001 r.s (D - 1) with
   | error c =>
    rw [hrd] at hpost HSE
    obtain ⟨hu1, y, rfl, hec⟩ := hpost
    have hu1 := hu1.mono (S' := fun k => k = bx ∨ P1 k) (fun k _ h => h.imp id (HSUB.out k))
    obtain ⟨T', z, rfl⟩ := hec.iface
    go_simp
    refine hK.out _ _ hS1 ?_; clear hK KC
    (refine seq_take _ rfl (fun KC hK => ?_); go_simp; (first | refine hK _ ?_ | refine ⟨_, fun _ _ => rfl, hK _ ?_⟩); clear hK KC)
    refine seq_done ?_
    go_wp2_with fail
    go_ret
    exact takepost_no HSE.out (((HU0.out.mono fun _ _ h => h.elim).trans (Upd.of_new hB0)).trans hu1) hec
   | ok x =>
    rw [hrd] at hpost HSE
    obtain ⟨rfl, hu, P', hr, hp⟩ := rowL_add (A := nuA bx) (put := fun (v : Value × Value) v' => ((v', v.2) : Value × Value)) (sm := fun st st' : nuS => (True) ∧ st'.2.2.1.2 = st.2.2.1.2) (ls := fun st : nuS => st.2.2.2.1) (st := (a, (t, (((k, n), es), (l, f))))) (st' := (a, (t, (((k, n), es), (l ++ [x], f))))) (v := (vl, ves)) H2D.out HPUT.out hpost (fun v' => rfl) ⟨trivial, rfl⟩ rfl HSUB.out
    go_simp
    refine hK.out _ _ hS1 ?_; clear hK KC
    (refine seq_take _ rfl (fun KC hK => ?_); go_simp; (first | refine hK _ ?_ | refine ⟨_, fun _ _ => rfl, hK _ ?_⟩); clear hK KC)
    refine seq_done ?_
    have HU := Lib.hid hu
    have HRL := Lib.hid hr
    have HP := Lib.hid hp
    clear hu hr hp hpost hrd
    go_wp2_with fail
    go_ret
    exact takepost_ok HSE.out (((HU0.out.mono fun _ _ h => h.elim).trans (Upd.of_new hB0)).trans HU.out) HRL.out (fun k hk => (HP.out k hk).imp id (fun h => Nat.le_trans (Nat.le_trans hsz hB0.size) h))
 have hty : r.num = 8 ∧ r.ty = 0 := by omega
 have HSE := Lib.hid (nuF_8 hty D a t k n es l f)
 have d2 : ((r.num : Int) == 2) = false := by rw [beq_eq_false_iff_ne]; omega
 have d3 : ((r.num : Int) == 3) = false := by rw [beq_eq_false_iff_ne]; omega
 have d6 : ((r.num : Int) == 6) = false := by rw [beq_eq_false_iff_ne]; omega
 have d4 : ((r.num : Int) == 4) = false := by rw [beq_eq_false_iff_ne]; omega
 have d5 : ((r.num : Int) == 5) = false := by rw [beq_eq_false_iff_ne]; omega
 have d7 : ((r.num : Int) == 7) = false := by rw [beq_eq_false_iff_ne]; omega
 have d8 : ((r.num : Int) == 8) = true := by rw [beq_iff_eq]; omega
 have q1 := u32_wrap r.n
 have hc6 : W0.cell? ⟨bx, 6, none⟩ = some (.int .u32 (f : Int)) := row_cell H10.out (j := 6) rfl
 have hf6 : W0.frozen? ⟨bx, 6, none⟩ = false := row_thaw H10.out 6
 have HP := Lib.hid (rowL_set (A := nuA bx) (T0 := 28) (row := nuRow) (st := (a, (t, (((k, n), es), (l, f))))) (st' := (a, (t, (((k, n), es), (l, r.n % 4294967296))))) (v := (vl, ves)) 6 (.int .u32 ((r.n : Int) % 4294967296)) H10.out H20.out (by unfold nuRow; rw [show ((r.n : Int) % 4294967296) = ((r.n % 4294967296 : Nat) : Int) by omega]; rfl) ⟨rfl, rfl⟩)
 rw [← HW0.out] at hc6 hf6
 clear hty hk HKN
 go_enter Tryz.func47, Tryz.ntmps47
 go_wp2_with fail
 rw [HW0.out]
 go_ret
 exact takepost_ok HSE.out ((HU0.out.mono fun _ _ h => h.elim).trans (HP.out.2.mono fun k _ h => .inl h)) HP.out.1 (fun k hk => .inl hk)
theorem nuclo_any (bx bd : Nat) (D : Int) (r : Rec) (hUl : Hid (r.num = 7 → UKey)) (hUes : Hid (r.num = 5 → ExUn)) (st : nuS) (P : Nat → Prop) (w : World) (hD : -9223372036854775807 ≤ D ∧ D ≤ 9223372036854775807) (hk : nuF.tk r = true) (hs : r.s.length ≤ 500000) (hll : st.2.2.2.1.length ≤ 1000000) (hles : st.2.2.1.2.length ≤ 1000000) (h : Hid ((capT (nuT bx) bd D).rel st P w)) :
  Calls Tryz.prog 45 #[recV r, .pointer (some ⟨bx, 0, none⟩), .pointer (some ⟨bd, 0, none⟩)] w (TakePost (capT (nuT bx) bd D) (nuF.step D) st P r w) := by
 obtain ⟨P0, hr, hn, hb, rfl⟩ := h.out
 refine Calls.mono ?_ (fun e w' hp => capT_post hp hn hb)
 have HR := Lib.hid hr
 have HB := Lib.hid hb
 clear h hr hb
 obtain ⟨X, hX⟩ : ∃ X : ByteArray, (⟨r.s.toArray⟩ : ByteArray) = X := ⟨_, rfl⟩
 have HX : Hid ((⟨r.s.toArray⟩ : ByteArray) = X) := Lib.hid hX
 obtain ⟨rb, hrb⟩ : ∃ rb, w.heap.size = rb := ⟨_, rfl⟩
 obtain ⟨W0, hW0⟩ : ∃ W0, w.alloc (.cells #[.int .i64 (r.num : Int), .int .i64 (r.ty : Int), .int .u64 (r.n : Int), .string X, .string ⟨r.raw.toArray⟩] 78) = W0 := ⟨_, rfl⟩
 have HB0 : Hid (Below w.heap.size w W0) := Lib.hid (by rw [← hW0]; exact below_new _ _)
 have HR0 : Hid (W0.heap[rb]? = some (.cells #[.int .i64 (r.num : Int), .int .i64 (r.ty : Int), .int .u64 (r.n : Int), .string X, .string ⟨r.raw.toArray⟩] 78 (0, 0))) := Lib.hid (by rw [← hW0, ← hrb]; exact heap_alloc_new _ _)
 have HW0 := Lib.hid hW0
 have HRB := Lib.hid hrb
 have q1 : IntKind.i64.wrap (D - 1) = D - 1 := IntWalk.i64_in _ (by omega)
 unfold recV
 rw [hX]
 clear hX hW0
 go_enter Tryz.func45, Tryz.ntmps45
 go_wp2_with fail
 rw [HW0.out]
 go_upto_region 1 with fail
 all_goals
  obtain ⟨D0, hD0⟩ : ∃ D0, W0.drew = D0 := ⟨_, rfl⟩
  have hB0 : Below W0.heap.size W0 D0 := by rw [← hD0]; exact (Below.refl _ _).drew
  have HBD := Lib.hid (below_step HB0.out hB0)
  have hS : R2 rb #[.int .i64 (r.num : Int), .int .i64 (r.ty : Int), .int .u64 (r.n : Int), .string X, .string ⟨r.raw.toArray⟩] 78 bd #[.int .i64 D] 3 D0 := ⟨(hB0.block _ (row_lt HR0.out)).trans HR0.out, (HBD.out.block _ (row_lt HB.out)).trans HB.out⟩
  have hne : Nonempty {w' : World // R2 rb #[.int .i64 (r.num : Int), .int .i64 (r.ty : Int), .int .u64 (r.n : Int), .string X, .string ⟨r.raw.toArray⟩] 78 bd #[.int .i64 D] 3 w'} := ⟨⟨_, hS⟩⟩
  refine wp_region_seq (S := R2 rb #[.int .i64 (r.num : Int), .int .i64 (r.ty : Int), .int .u64 (r.n : Int), .string X, .string ⟨r.raw.toArray⟩] 78 bd #[.int .i64 D] 3) [(0, true), (1, true), (2, true), (3, true), (4, true), (5, false), (6, false), (7, true)] (by kernel_rfl) (by kernel_rfl) (by kernel_rfl) (by kernel_rfl) (by rw [hD0]; exact hS) ?_
  rw [hD0]
  (refine seq_take _ rfl (fun KC hK => ?_); go_simp; (first | refine hK _ ?_ | refine ⟨_, fun _ _ => rfl, hK _ ?_⟩); clear hK KC)
  refine seq_take _ rfl (fun KC hK => ?_); go_simp
  refine ⟨.int .i64 (r.num : Int), fun a ha => by rw [row_cell ha.1 (j := 0) rfl]; rfl, hK _ ?_⟩
  clear hK KC
  refine seq_take _ rfl (fun KC hK => ?_); go_simp
  refine ⟨.agg #[.int .i64 (r.num : Int), .int .i64 (r.ty : Int), .int .u64 (r.n : Int), .string X, .string ⟨r.raw.toArray⟩], fun a ha => by (have e0 := row_cell ha.1 (j := 0) rfl; have e1 := row_cell ha.1 (j := 1) rfl; have e2 := row_cell ha.1 (j := 2) rfl; have e3 := row_cell ha.1 (j := 3) rfl; have e4 := row_cell ha.1 (j := 4) rfl); simp only [e0, e1, e2, e3, e4, Result.andThen]; rfl, hK _ ?_⟩
  clear hK KC
  refine seq_take _ rfl (fun KC hK => ?_); go_simp
  refine ⟨.int .i64 D, fun a ha => by rw [row_cell ha.2 (j := 0) rfl]; rfl, hK _ ?_⟩
  clear hK KC
  (refine seq_take _ rfl (fun KC hK => ?_); go_simp; (first | refine hK _ ?_ | refine ⟨_, fun _ _ => rfl, hK _ ?_⟩); clear hK KC)
  have HT := Lib.hid (nutake_any bx D r hUl hUes st P0 D0 hD hk hs hll hles (Lib.hid ((nuT bx).kept _ _ _ _ HR.out (Upd.of_new HBD.out))))
  unfold recV at HT
  rw [HX.out] at HT
  refine seq_come _ rfl (fun KC hK => ?_); go_simp
  refine HT.out.mono ?_; rintro e w1 ⟨hu, hcase⟩
  have hlt := (nuT bx).lt _ _ _ HR.out
  have hS1 : R2 rb #[.int .i64 (r.num : Int), .int .i64 (r.ty : Int), .int .u64 (r.n : Int), .string X, .string ⟨r.raw.toArray⟩] 78 bd #[.int .i64 D] 3 w1 := ⟨(hu.block rb (row_lt hS.1) (fun e => by have := hlt rb e; have := HRB.out; omega)).trans hS.1, (hu.block bd (row_lt hS.2) hn).trans hS.2⟩
  cases hst : nuF.step D st r with
  | error c =>
   rw [hst] at hcase
   obtain ⟨y, rfl, hec⟩ := hcase
   obtain ⟨T', z, rfl⟩ := hec.iface
   have HEC := Lib.hid hec
   have HU := Lib.hid hu
   clear hec hu hlt
   go_simp
   refine hK.out _ _ hS1 ?_; clear hK KC
   refine seq_come _ rfl (fun KC hK => ?_); go_simp
   refine (in_any _ _ _ _).mono ?_; rintro e w' ⟨rfl, rfl⟩
   go_simp
   refine hK.out _ _ (hS1.below (below_new _ _)) ?_; clear hK KC
   (refine seq_take _ rfl (fun KC hK => ?_); go_simp; (first | refine hK _ ?_ | refine ⟨_, fun _ _ => rfl, hK _ ?_⟩); clear hK KC)
   refine seq_done ?_
   go_wp2_with fail
   go_ret
   exact takepost_no hst (((Upd.of_new HBD.out).trans HU.out).trans (Upd.alloc _ _ _)) (ec_field HEC.out)
  | ok st' =>
   rw [hst] at hcase
   obtain ⟨rfl, P', hr, hp⟩ := hcase
   have HRL := Lib.hid hr
   have HP := Lib.hid hp
   have HU := Lib.hid hu
   clear hr hp hu hlt
   go_simp
   refine hK.out _ _ hS1 ?_; clear hK KC
   refine seq_come _ rfl (fun KC hK => ?_); go_simp
   refine (in_nil _ _).mono ?_; rintro e w' ⟨rfl, rfl⟩
   go_simp
   refine hK.out _ _ hS1 ?_; clear hK KC
   (refine seq_take _ rfl (fun KC hK => ?_); go_simp; (first | refine hK _ ?_ | refine ⟨_, fun _ _ => rfl, hK _ ?_⟩); clear hK KC)
   refine seq_done ?_
   go_wp2_with fail
   go_ret
   exact takepost_ok hst ((Upd.of_new HBD.out).trans HU.out) HRL.out (fun k hk => (HP.out k hk).imp id (fun h => Nat.le_trans HBD.out.size h))
theorem nu_set {w : World} {g : Nat} {T : TypeId} {z0 z1 z2 z3 z4 z5 z6 z7 : Value} (h : w.heap[g]? = some (.cells #[z0, z1, z2, z3, z4, z5, z6, z7] T (0, 0))) (c0 c1 c2 c3 c4 c5 c6 c7 : Value) : ((((((((w.setCell ⟨g, 0, none⟩ c0).setCell ⟨g, 1, none⟩ c1).setCell ⟨g, 2, none⟩ c2).setCell ⟨g, 3, none⟩ c3).setCell ⟨g, 4, none⟩ c4).setCell ⟨g, 5, none⟩ c5).setCell ⟨g, 6, none⟩ c6).setCell ⟨g, 7, none⟩ c7).heap[g]? = some (.cells #[c0, c1, c2, c3, c4, c5, c6, c7] T (0, 0)) ∧ Upd (fun k => k = g) w ((((((((w.setCell ⟨g, 0, none⟩ c0).setCell ⟨g, 1, none⟩ c1).setCell ⟨g, 2, none⟩ c2).setCell ⟨g, 3, none⟩ c3).setCell ⟨g, 4, none⟩ c4).setCell ⟨g, 5, none⟩ c5).setCell ⟨g, 6, none⟩ c6).setCell ⟨g, 7, none⟩ c7) := by
 have r0 : (w.setCell ⟨g, 0, none⟩ c0).heap[g]? = some (.cells #[c0, z1, z2, z3, z4, z5, z6, z7] T (0, 0)) := row_set h 0 c0
 have u0 : Upd (fun k => k = g) w (w.setCell ⟨g, 0, none⟩ c0) := Upd.set w ⟨g, 0, none⟩ c0
 have r1 : ((w.setCell ⟨g, 0, none⟩ c0).setCell ⟨g, 1, none⟩ c1).heap[g]? = some (.cells #[c0, c1, z2, z3, z4, z5, z6, z7] T (0, 0)) := row_set r0 1 c1
 have u1 : Upd (fun k => k = g) w ((w.setCell ⟨g, 0, none⟩ c0).setCell ⟨g, 1, none⟩ c1) := u0.trans (Upd.set (w.setCell ⟨g, 0, none⟩ c0) ⟨g, 1, none⟩ c1)
 have r2 : (((w.setCell ⟨g, 0, none⟩ c0).setCell ⟨g, 1, none⟩ c1).setCell ⟨g, 2, none⟩ c2).heap[g]? = some (.cells #[c0, c1, c2, z3, z4, z5, z6, z7] T (0, 0)) := row_set r1 2 c2
 have u2 : Upd (fun k => k = g) w (((w.setCell ⟨g, 0, none⟩ c0).setCell ⟨g, 1, none⟩ c1).setCell ⟨g, 2, none⟩ c2) := u1.trans (Upd.set ((w.setCell ⟨g, 0, none⟩ c0).setCell ⟨g, 1, none⟩ c1) ⟨g, 2, none⟩ c2)
 have r3 : ((((w.setCell ⟨g, 0, none⟩ c0).setCell ⟨g, 1, none⟩ c1).setCell ⟨g, 2, none⟩ c2).setCell ⟨g, 3, none⟩ c3).heap[g]? = some (.cells #[c0, c1, c2, c3, z4, z5, z6, z7] T (0, 0)) := row_set r2 3 c3
 have u3 : Upd (fun k => k = g) w ((((w.setCell ⟨g, 0, none⟩ c0).setCell ⟨g, 1, none⟩ c1).setCell ⟨g, 2, none⟩ c2).setCell ⟨g, 3, none⟩ c3) := u2.trans (Upd.set (((w.setCell ⟨g, 0, none⟩ c0).setCell ⟨g, 1, none⟩ c1).setCell ⟨g, 2, none⟩ c2) ⟨g, 3, none⟩ c3)
 have r4 : (((((w.setCell ⟨g, 0, none⟩ c0).setCell ⟨g, 1, none⟩ c1).setCell ⟨g, 2, none⟩ c2).setCell ⟨g, 3, none⟩ c3).setCell ⟨g, 4, none⟩ c4).heap[g]? = some (.cells #[c0, c1, c2, c3, c4, z5, z6, z7] T (0, 0)) := row_set r3 4 c4
 have u4 : Upd (fun k => k = g) w (((((w.setCell ⟨g, 0, none⟩ c0).setCell ⟨g, 1, none⟩ c1).setCell ⟨g, 2, none⟩ c2).setCell ⟨g, 3, none⟩ c3).setCell ⟨g, 4, none⟩ c4) := u3.trans (Upd.set ((((w.setCell ⟨g, 0, none⟩ c0).setCell ⟨g, 1, none⟩ c1).setCell ⟨g, 2, none⟩ c2).setCell ⟨g, 3, none⟩ c3) ⟨g, 4, none⟩ c4)
 have r5 : ((((((w.setCell ⟨g, 0, none⟩ c0).setCell ⟨g, 1, none⟩ c1).setCell ⟨g, 2, none⟩ c2).setCell ⟨g, 3, none⟩ c3).setCell ⟨g, 4, none⟩ c4).setCell ⟨g, 5, none⟩ c5).heap[g]? = some (.cells #[c0, c1, c2, c3, c4, c5, z6, z7] T (0, 0)) := row_set r4 5 c5
 have u5 : Upd (fun k => k = g) w ((((((w.setCell ⟨g, 0, none⟩ c0).setCell ⟨g, 1, none⟩ c1).setCell ⟨g, 2, none⟩ c2).setCell ⟨g, 3, none⟩ c3).setCell ⟨g, 4, none⟩ c4).setCell ⟨g, 5, none⟩ c5) := u4.trans (Upd.set (((((w.setCell ⟨g, 0, none⟩ c0).setCell ⟨g, 1, none⟩ c1).setCell ⟨g, 2, none⟩ c2).setCell ⟨g, 3, none⟩ c3).setCell ⟨g, 4, none⟩ c4) ⟨g, 5, none⟩ c5)
 have r6 : (((((((w.setCell ⟨g, 0, none⟩ c0).setCell ⟨g, 1, none⟩ c1).setCell ⟨g, 2, none⟩ c2).setCell ⟨g, 3, none⟩ c3).setCell ⟨g, 4, none⟩ c4).setCell ⟨g, 5, none⟩ c5).setCell ⟨g, 6, none⟩ c6).heap[g]? = some (.cells #[c0, c1, c2, c3, c4, c5, c6, z7] T (0, 0)) := row_set r5 6 c6
 have u6 : Upd (fun k => k = g) w (((((((w.setCell ⟨g, 0, none⟩ c0).setCell ⟨g, 1, none⟩ c1).setCell ⟨g, 2, none⟩ c2).setCell ⟨g, 3, none⟩ c3).setCell ⟨g, 4, none⟩ c4).setCell ⟨g, 5, none⟩ c5).setCell ⟨g, 6, none⟩ c6) := u5.trans (Upd.set ((((((w.setCell ⟨g, 0, none⟩ c0).setCell ⟨g, 1, none⟩ c1).setCell ⟨g, 2, none⟩ c2).setCell ⟨g, 3, none⟩ c3).setCell ⟨g, 4, none⟩ c4).setCell ⟨g, 5, none⟩ c5) ⟨g, 6, none⟩ c6)
 have r7 : ((((((((w.setCell ⟨g, 0, none⟩ c0).setCell ⟨g, 1, none⟩ c1).setCell ⟨g, 2, none⟩ c2).setCell ⟨g, 3, none⟩ c3).setCell ⟨g, 4, none⟩ c4).setCell ⟨g, 5, none⟩ c5).setCell ⟨g, 6, none⟩ c6).setCell ⟨g, 7, none⟩ c7).heap[g]? = some (.cells #[c0, c1, c2, c3, c4, c5, c6, c7] T (0, 0)) := row_set r6 7 c7
 have u7 : Upd (fun k => k = g) w ((((((((w.setCell ⟨g, 0, none⟩ c0).setCell ⟨g, 1, none⟩ c1).setCell ⟨g, 2, none⟩ c2).setCell ⟨g, 3, none⟩ c3).setCell ⟨g, 4, none⟩ c4).setCell ⟨g, 5, none⟩ c5).setCell ⟨g, 6, none⟩ c6).setCell ⟨g, 7, none⟩ c7) := u6.trans (Upd.set (((((((w.setCell ⟨g, 0, none⟩ c0).setCell ⟨g, 1, none⟩ c1).setCell ⟨g, 2, none⟩ c2).setCell ⟨g, 3, none⟩ c3).setCell ⟨g, 4, none⟩ c4).setCell ⟨g, 5, none⟩ c5).setCell ⟨g, 6, none⟩ c6) ⟨g, 7, none⟩ c7)
 exact ⟨r7, u7⟩
theorem nu_len_l {d : Int} {pre : List Rec} {st : nuS} (h1 : ∀ x ∈ pre, IsRec d x) (h2 : mfold nuF.tk (nuF.step d) nuF.z pre = .ok st) (h3 : (pre.flatMap Rec.raw).length ≤ 500000) : st.2.2.2.1.length ≤ 1000000 := by
 have hi := mfold_tlen (d := d) 1000000 (nuF.inv d) (nuF_ok.go d) pre nuF.z st 0 h1 (nuF_ok.start d) (by have := tlen_le nuF.tk pre; omega) h2
 rw [Nat.zero_add] at hi
 have := tlen_le nuF.tk pre
 obtain ⟨s, t, q, _, ⟨sb, tb, qb, _, ⟨sbb, tbb, qbb, _, ⟨sbbb, tbbb, qbbb, i1, _⟩⟩⟩⟩ := hi
 have := kv_len i1
 omega
theorem nu_len_es {d : Int} {pre : List Rec} {st : nuS} (h1 : ∀ x ∈ pre, IsRec d x) (h2 : mfold nuF.tk (nuF.step d) nuF.z pre = .ok st) (h3 : (pre.flatMap Rec.raw).length ≤ 500000) : st.2.2.1.2.length ≤ 1000000 := by
 have hi := mfold_tlen (d := d) 1000000 (nuF.inv d) (nuF_ok.go d) pre nuF.z st 0 h1 (nuF_ok.start d) (by have := tlen_le nuF.tk pre; omega) h2
 rw [Nat.zero_add] at hi
 have := tlen_le nuF.tk pre
 obtain ⟨s, t, q, _, ⟨sb, tb, qb, _, ⟨sbb, tbb, qbb, ⟨sbba, tbba, qbba, _, i1⟩, _⟩⟩⟩ := hi
 have i2 : lwt exSb st.2.2.1.2 ≤ 51 * _ := i1.2
 have := exs_len st.2.2.1.2
 omega
theorem load_nu {w : World} {g : Nat} {cs : Array Value} (hg : w.heap[g]? = some (.cells cs 28 (0, 0))) (hc : cs.size = 8) : (loadVar 28 ⟨g, 0, none⟩).run Tryz.prog w = .ok (.agg cs) w :=
 run_loadVar_row w g 28 28 cs (0, 0) _ hg Tryz.underlying28 rfl (by rw [hc]; kernel_rfl)
theorem unnu_if (X : ByteArray) (d : Int) (hUl : Hid (∀ r : Rec, (∀ rs, wall X.data.toList d = .ok rs → r ∈ rs) → r.num = 7 → UKey)) (hUes : Hid (∀ r : Rec, (∀ rs, wall X.data.toList d = .ok rs → r ∈ rs) → r.num = 5 → ExUn)) (w : World) (hX : X.size ≤ 500000) (hd : -9223372036854775808 ≤ d ∧ d ≤ 9223372036854775807) :
  Calls Tryz.prog 11 #[.string X, .int .i64 d] w (RdPost nuCel nuzero (nurd X.data.toList d) X.size w) := by
 have HE1 := enters_of Tryz.func44 (by kernel_rfl) rfl
 have HE2 := enters_of Tryz.func45 (by kernel_rfl) rfl
 obtain ⟨g, hg⟩ : ∃ g, w.heap.size = g := ⟨_, rfl⟩
 obtain ⟨W0, hW0⟩ : ∃ W0, ((w.alloc (.cells #[.int .i64 d] 3)).alloc (.cells #[.slice none 0 0, .int .u64 0, .int .u64 0, .int .i64 0, .int .u64 0, .slice none 0 0, .int .u32 0, .string ⟨#[]⟩] 28)).alloc (.cells #[.slice none 0 0, .int .u64 0, .int .u64 0, .int .i64 0, .int .u64 0, .slice none 0 0, .int .u32 0, .string ⟨#[]⟩] 28) = W0 := ⟨_, rfl⟩
 have HB0 : Hid (Below w.heap.size w W0) := Lib.hid (by rw [← hW0]; exact below_step (below_step (below_new _ _) (below_new _ _)) (below_new _ _))
 have h3 := new_three_c hg (.cells #[.int .i64 d] 3) (.cells #[.slice none 0 0, .int .u64 0, .int .u64 0, .int .i64 0, .int .u64 0, .slice none 0 0, .int .u32 0, .string ⟨#[]⟩] 28) (.cells #[.slice none 0 0, .int .u64 0, .int .u64 0, .int .i64 0, .int .u64 0, .slice none 0 0, .int .u32 0, .string ⟨#[]⟩] 28)
 rw [hW0] at h3
 have HR0 := Lib.hid h3.2.1
 have hcd : W0.cell? ⟨g, 0, none⟩ = some (.int .i64 d) := row_cell h3.1 (j := 0) rfl
 have htk : (capT (nuT (g + 2)) g d).rel nuF.z (fun k => (k = g + 2 ∨ False) ∨ k = g) W0 := ⟨fun k => k = g + 2 ∨ False, ⟨(.slice none 0 0, .slice none 0 0), fun _ => False, h3.2.2, ltwo_nil (lone_nil rfl) (lone_nil rfl), rfl⟩, by simp, h3.1, rfl⟩
 have HRD : Hid (Calls Tryz.prog 43 #[.string X, .int .i64 d, .func (.func 44) #[] #[], .func (.func 45) #[] #[.pointer (some ⟨g + 2, 0, none⟩), .pointer (some ⟨g, 0, none⟩)]] W0 (ReadPost (capT (nuT (g + 2)) g d) nuF.tk (nuF.step d) nuF.z (fun k => (k = g + 2 ∨ False) ∨ k = g) X d W0)) := Lib.hid (by
  by_cases h0 : d < 0
  ·refine (mread_neg _ _ _ X d W0 h0).mono ?_
   rintro e w' ⟨v, rfl, hb, he⟩
   refine ⟨Upd.of_new hb, ?_⟩
   have e6 : mread (σ := nuS) nuF.tk (nuF.step d) nuF.z X.data.toList d = .error 6 := by unfold mread; rw [if_pos h0]
   rw [e6]
   exact ⟨v, 0, rfl, Nat.zero_le _, he⟩
  ·exact mread_any (capT (nuT (g + 2)) g d) nuF.tk (nuF.step d) 44 45 #[.pointer (some ⟨g + 2, 0, none⟩), .pointer (some ⟨g, 0, none⟩)] nuF.z X d W0 (by omega) HE1 HE2 (fun r w _ => nutakes_any r w) (fun r st P w hk hr hraw hmem hpre h => nuclo_any (g + 2) g d r (Lib.hid (fun h1 => hUl.out r hmem h1)) (Lib.hid (fun h1 => hUes.out r hmem h1)) st P w (by omega) hk (by have := isrec_s hr; omega) (by obtain ⟨pre, h1, h2, h3⟩ := hpre; exact nu_len_l h1 h2 (by omega)) (by obtain ⟨pre, h1, h2, h3⟩ := hpre; exact nu_len_es h1 h2 (by omega)) (Lib.hid h)) _ htk)
 have HW0 := Lib.hid hW0
 have HGG := Lib.hid hg
 clear hW0 h3 htk HE1 HE2
 go_enter Tryz.func11, Tryz.ntmps11
 go_wp2_with fail
 rw [HW0.out]
 go_wp2_with fail
 refine HRD.out.mono ?_; intro e w1 hpost
 obtain ⟨hu, hcase⟩ := hpost
 have hu1 : Upd (fun k => k = g + 2 ∨ k = g) W0 w1 := hu.mono (fun k _ h => by
  rcases h with (h | h) | h
  ·exact .inl h
  ·exact h.elim
  ·exact .inr h)
 have HR1 : Hid (w1.heap[g + 1]? = some (.cells #[.slice none 0 0, .int .u64 0, .int .u64 0, .int .i64 0, .int .u64 0, .slice none 0 0, .int .u32 0, .string ⟨#[]⟩] 28 (0, 0))) := Lib.hid ((hu1.block (g + 1) (row_lt HR0.out) (by omega)).trans HR0.out)
 have HB1 : Hid (Below w.heap.size w w1) := Lib.hid (HB0.out.trans (hu1.below (by have := HB0.out.size; omega) (fun k _ h => by omega)))
 clear hu hu1 hcd HRD
 have hz0 : w1.cell? ⟨g + 1, 0, none⟩ = some (.slice none 0 0) := row_cell HR1.out (j := 0) rfl
 have fz0 : w1.frozen? ⟨g + 1, 0, none⟩ = false := row_thaw HR1.out 0
 have hz1 : w1.cell? ⟨g + 1, 1, none⟩ = some (.int .u64 0) := row_cell HR1.out (j := 1) rfl
 have fz1 : w1.frozen? ⟨g + 1, 1, none⟩ = false := row_thaw HR1.out 1
 have hz2 : w1.cell? ⟨g + 1, 2, none⟩ = some (.int .u64 0) := row_cell HR1.out (j := 2) rfl
 have fz2 : w1.frozen? ⟨g + 1, 2, none⟩ = false := row_thaw HR1.out 2
 have hz3 : w1.cell? ⟨g + 1, 3, none⟩ = some (.int .i64 0) := row_cell HR1.out (j := 3) rfl
 have fz3 : w1.frozen? ⟨g + 1, 3, none⟩ = false := row_thaw HR1.out 3
 have hz4 : w1.cell? ⟨g + 1, 4, none⟩ = some (.int .u64 0) := row_cell HR1.out (j := 4) rfl
 have fz4 : w1.frozen? ⟨g + 1, 4, none⟩ = false := row_thaw HR1.out 4
 have hz5 : w1.cell? ⟨g + 1, 5, none⟩ = some (.slice none 0 0) := row_cell HR1.out (j := 5) rfl
 have fz5 : w1.frozen? ⟨g + 1, 5, none⟩ = false := row_thaw HR1.out 5
 have hz6 : w1.cell? ⟨g + 1, 6, none⟩ = some (.int .u32 0) := row_cell HR1.out (j := 6) rfl
 have fz6 : w1.frozen? ⟨g + 1, 6, none⟩ = false := row_thaw HR1.out 6
 have hz7 : w1.cell? ⟨g + 1, 7, none⟩ = some (.string ⟨#[]⟩) := row_cell HR1.out (j := 7) rfl
 have fz7 : w1.frozen? ⟨g + 1, 7, none⟩ = false := row_thaw HR1.out 7
 cases hb : mread (σ := nuS) nuF.tk (nuF.step d) nuF.z X.data.toList d with
 | error c =>
  rw [hb] at hcase
  obtain ⟨v, q, rfl, hq, hew⟩ := hcase
  obtain ⟨T', y, rfl⟩ := hew.iface
  have HBR : Hid (nurd X.data.toList d = .error c) := Lib.hid hb
  have HEW := Lib.hid hew
  clear hb hew
  go_wp2_with fail
  obtain ⟨hr, hua⟩ := nu_set HR1.out (.slice none 0 0) (.int .u64 0) (.int .u64 0) (.int .i64 0) (.int .u64 0) (.slice none 0 0) (.int .u32 0) (.string ⟨#[]⟩)
  refine body_cell2v rfl rfl (load_nu hr rfl) rfl ?_
  refine ⟨HB1.out.trans (hua.below (by have := HB1.out.size; omega) (fun k _ h => by have h : k = g + 1 := h; omega)), ?_⟩
  rw [HBR.out]
  obtain ⟨ws, he⟩ := HEW.out
  exact ⟨_, q, rfl, hq, ws, isErr_upd hua (fun k hk b m e h => by have hk : k = g + 1 := hk; subst hk; rw [HR1.out] at h; simp at h) he⟩
 | ok xu =>
  obtain ⟨st, u⟩ := xu
  rw [hb] at hcase
  obtain ⟨rfl, P', ⟨P0, ⟨v, P1, h1, h2, rfl⟩, h3, h4, rfl⟩, hp⟩ := hcase
  obtain ⟨a, ⟨t, ⟨⟨⟨k, n⟩, es⟩, ⟨l, f⟩⟩⟩⟩ := st
  obtain ⟨vl, ves⟩ := v
  have HBR : Hid (nurd X.data.toList d = .ok ((a, (t, (((k, n), es), (l, f)))), u)) := Lib.hid hb
  obtain ⟨Q0a, Q0b, r0, h2, _, rfl⟩ := h2
  have r0 : LsAt kcel 98 (g + 2 + 1) vl l _ w1 := r0
  have HLT0 := Lib.hid (LsAt.lt r0)
  obtain ⟨css, Q, g2, g3, g4, g5, rfl⟩ := r0
  obtain ⟨lo, lc, rfl⟩ := own_slice g2
  have HRL0 := Lib.hid (KRel_own g2 g3 (P := fun k => g + 3 ≤ k) (fun j a1 a2 => KRel.upd (Upd.refl (fun _ => False) w1) (fun _ _ h => h) (fun k hk => (g5 k hk).2.1) _ _ (g4 j a1 a2)) (fun k hk => (g2.lt k hk).1))
  clear g2 g3 g4 g5
  have r1 : LsAt exCel 91 (g + 2 + 1) ves es _ w1 := h2
  have HLT1 := Lib.hid (LsAt.lt r1)
  obtain ⟨eo, ec, rfl⟩ : ∃ ao cap, ves = .slice ao es.length cap := by obtain ⟨_, _, g2, _⟩ := r1; exact own_slice g2
  have HRL1 := Lib.hid (CRels.of_ls r1)
  clear r1
  obtain ⟨Xu, hU⟩ : ∃ U : ByteArray, (⟨u.toArray⟩ : ByteArray) = U := ⟨_, rfl⟩
  have HUU := Lib.hid hU
  rw [hU]
  have HX1 : Hid (w1.heap[g + 2]? = some (.cells #[.slice lo l.length lc, .int .u64 (a : Int), .int .u64 (t : Int), .int .i64 k, .int .u64 (n : Int), .slice eo es.length ec, .int .u32 (f : Int), .string ⟨#[]⟩] 28 (0, 0))) := Lib.hid (h1)
  have hx0 : w1.cell? ⟨g + 2, 0, none⟩ = some (.slice lo l.length lc) := row_cell HX1.out (j := 0) rfl
  have hx1 : w1.cell? ⟨g + 2, 1, none⟩ = some (.int .u64 (a : Int)) := row_cell HX1.out (j := 1) rfl
  have hx2 : w1.cell? ⟨g + 2, 2, none⟩ = some (.int .u64 (t : Int)) := row_cell HX1.out (j := 2) rfl
  have hx3 : w1.cell? ⟨g + 2, 3, none⟩ = some (.int .i64 k) := row_cell HX1.out (j := 3) rfl
  have hx4 : w1.cell? ⟨g + 2, 4, none⟩ = some (.int .u64 (n : Int)) := row_cell HX1.out (j := 4) rfl
  have hx5 : w1.cell? ⟨g + 2, 5, none⟩ = some (.slice eo es.length ec) := row_cell HX1.out (j := 5) rfl
  have hx6 : w1.cell? ⟨g + 2, 6, none⟩ = some (.int .u32 (f : Int)) := row_cell HX1.out (j := 6) rfl
  have hx7 : w1.cell? ⟨g + 2, 7, none⟩ = some (.string ⟨#[]⟩) := row_cell HX1.out (j := 7) rfl
  have hfx : w1.frozen? ⟨g + 2, 7, none⟩ = false := row_thaw HX1.out 7
  clear hb h1 h2 h3 h4 hp hU
  go_wp2_with fail
  have hux := Upd.set w1 ⟨g + 2, 7, none⟩ (.string Xu)
  obtain ⟨hr, hua⟩ := nu_set ((hux.block (g + 1) (row_lt HR1.out) (fun e => by have e : g + 1 = g + 2 := e; omega)).trans HR1.out) (.slice lo l.length lc) (.int .u64 (a : Int)) (.int .u64 (t : Int)) (.int .i64 k) (.int .u64 (n : Int)) (.slice eo es.length ec) (.int .u32 (f : Int)) (.string Xu)
  refine body_cell2v rfl rfl (load_nu hr rfl) rfl ?_
  have hub := (hux.mono (S' := fun k => k = g + 1 ∨ k = g + 2) fun k _ h => .inr h).trans (hua.mono fun k _ h => .inl h)
  refine ⟨HB1.out.trans (hub.below (by have := HB1.out.size; omega) (fun k _ h => by omega)), ?_⟩
  rw [HBR.out]
  refine ⟨[.slice lo l.length lc, .int .u64 (a : Int), .int .u64 (t : Int), .int .i64 k, .int .u64 (n : Int), .slice eo es.length ec, .int .u32 (f : Int), .string Xu], rfl, lo, lc, eo, ec, ?_, KRels.upd hub (fun k hk e => by omega) (fun k hk => by omega) _ _ _ HRL0.out, CRels.upd hub (fun k hk e => by have := (HLT1.out k hk).1; omega) (fun k hk => by have := (HLT1.out k hk).1; omega) HRL1.out⟩
  rw [← HUU.out]; rfl
end Go.Proofs.YtjbingoliffjiaaGreatDoor
