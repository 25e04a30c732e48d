/-
  message.Add of an exemplar.
-/
import Derived.Test.YtficgfemmijaaaaGreatDoorExSub
import Derived.Test.YtficgfemmijaaaaGreatDoorValTake
set_option maxRecDepth 1000000
set_option maxHeartbeats 16000000
namespace Go.Proofs.YtficgfemmijaaaaGreatDoor
open Go.RowKit
theorem Tryz.elExL : Elem Tryz.prog 30 84 (.agg #[.slice none 0 0, .int .u64 0, .int .i64 0, .int .u64 0, .string ⟨#[]⟩, .string ⟨#[]⟩, .string ⟨#[]⟩]) 7 96 := ⟨Tryz.underlying30, by kernel_rfl, by decide⟩
theorem addex_any (b o base : Nat) (cs0 : Array Value) (T0 : TypeId) (v : Value) (xs : List Ex) (P : Nat → Prop) (F : Nat) (X : ByteArray) (d : Int) (rd : Except Nat Ex) (w : World) (hET : ∀ args w, (callFunc F args).run Tryz.prog w = .ok (.enter F args) w) (hrow : Hid (w.heap[b]? = some (.cells cs0 T0 (0, 0)))) (hcs : cs0[o]? = some v) (hbase : b < base ∧ base ≤ w.heap.size) (h : Hid (LsAt exCel 84 base v xs P w)) (hl : xs.length ≤ 1000000) (hread : Hid (∀ w', Calls Tryz.prog F #[.string X, .int .i64 d] w' (RdPost exCel exzero rd X.size w'))) :
  Calls Tryz.prog 79 #[.pointer (some ⟨b, o, none⟩), .string X, .int .i64 d, .func (.func F) #[] #[]] w (AddPost exCel 84 T0 b o base cs0 xs P rd w) := by
 obtain ⟨css, Q, h2, h3, h4, h5, rfl⟩ := h.out
 obtain ⟨ao, cap, rfl⟩ := own_slice h2
 have H2 := Lib.hid h2
 have H3 := Lib.hid h3
 have H4 := Lib.hid h4
 have H5 := Lib.hid h5
 have hbw := row_lt hrow.out
 clear h h2 h3 h4 h5
 go_enter Tryz.func79, Tryz.ntmps79
 go_wp2_with fail
 refine (hread.out w).mono ?_; intro e w1 hpost
 obtain ⟨hb1, hcase⟩ := hpost
 have HB1 := Lib.hid hb1
 clear hb1
 cases rd with
 | error c =>
  obtain ⟨y, q, rfl, hq, hew⟩ := hcase
  obtain ⟨T', z, rfl⟩ := hew.iface
  have HEW := Lib.hid hew
  clear hew
  unfold exzero
  go_wp2_with fail
  go_ret
  exact ⟨(Upd.of_new HB1.out).trans (Upd.alloc _ _ _), _, rfl, (HEW.out.below (below_new _ _)).ec⟩
 | ok x =>
  obtain ⟨cs, rfl, hrel⟩ := hcase
  have HREL := Lib.hid hrel
  obtain ⟨lo, llo, lc, jt, jk, jn, Xa, Xb, Xu, hcs1⟩ := ExRel.form hrel
  have HCS := Lib.hid hcs1
  rw [hcs1]
  clear hcs1 hrel
  go_wp2_with fail
  obtain ⟨bx, hbx⟩ : ∃ bx, w1.heap.size = bx := ⟨_, rfl⟩
  obtain ⟨W2, hW2⟩ : ∃ W, w1.alloc (.cells #[.slice lo llo lc, .int .u64 jt, .int .i64 jk, .int .u64 jn, .string Xa, .string Xb, .string Xu] 84) = W := ⟨_, rfl⟩
  have HB2 : Hid (Below w1.heap.size w1 W2) := Lib.hid (by rw [← hW2]; exact below_new _ _)
  have HX2 : Hid (W2.heap[bx]? = some (.cells #[.slice lo llo lc, .int .u64 jt, .int .i64 jk, .int .u64 jn, .string Xa, .string Xb, .string Xu] 84 (0, 0))) := Lib.hid (by rw [← hW2, ← hbx]; exact heap_alloc_new _ _)
  have HBX := Lib.hid hbx
  rw [hW2, hbx]
  clear hW2 hbx
  obtain ⟨D, hD⟩ : ∃ D, W2.drew = D := ⟨_, rfl⟩
  have HBD : Hid (Below w1.heap.size w1 D) := Lib.hid (by rw [← hD]; exact HB2.out.drew)
  have HXD : Hid (D.heap[bx]? = some (.cells #[.slice lo llo lc, .int .u64 jt, .int .i64 jk, .int .u64 jn, .string Xa, .string Xb, .string Xu] 84 (0, 0))) := Lib.hid (by rw [← hD]; exact HX2.out)
  have HWD := Lib.hid (below_step HB1.out HBD.out)
  have HLD : Hid (D.heap[b]? = some (.cells cs0 T0 (0, 0))) := Lib.hid ((HWD.out.block _ hbw).trans hrow.out)
  have HOD : Hid (D.ownsRow base 84 7 (.slice ao xs.length cap) xs.length css.flatten) := Lib.hid (own_below H2.out HWD.out)
  have hcb : D.cell? ⟨b, o, none⟩ = some (.slice ao xs.length cap) := row_cell HLD.out hcs
  have hne : Nonempty {w' : World // w'.heap[bx]? = some (.cells #[.slice lo llo lc, .int .u64 jt, .int .i64 jk, .int .u64 jn, .string Xa, .string Xb, .string Xu] 84 (0, 0))} := ⟨⟨_, HXD.out⟩⟩
  have hsz := HWD.out.size
  have hxlt := row_lt HXD.out
  refine wp_region_seqP (S := fun w' => w'.heap[bx]? = some (.cells #[.slice lo llo lc, .int .u64 jt, .int .i64 jk, .int .u64 jn, .string Xa, .string Xb, .string Xu] 84 (0, 0))) (.take 0 (.take 1 (.take 2 (.take 4 (.two 3 5 (.come 5 (.come 6 (.take 7 (.come 8 .done)))) (.come 3 (.come 6 (.take 7 (.come 8 .done))))))))) (by kernel_rfl) (by kernel_rfl) (by kernel_rfl) (by kernel_rfl) (by rw [hD]; exact HXD.out) ?_
  rw [hD]
  clear hD
  iterate 3 (refine seqP_take _ rfl (fun K hK => ?_); go_simp; (first | refine hK _ ?_ | refine ⟨_, fun _ _ => rfl, hK _ ?_⟩); clear hK K)
  refine seqP_take _ rfl (fun K hK => ?_); go_simp
  refine ⟨.agg #[.slice lo llo lc, .int .u64 jt, .int .i64 jk, .int .u64 jn, .string Xa, .string Xb, .string Xu], fun a ha => by (have e0 := row_cell ha (j := 0) rfl; have e1 := row_cell ha (j := 1) rfl; have e2 := row_cell ha (j := 2) rfl; have e3 := row_cell ha (j := 3) rfl; have e4 := row_cell ha (j := 4) rfl; have e5 := row_cell ha (j := 5) rfl; have e6 := row_cell ha (j := 6) rfl); simp only [e0, e1, e2, e3, e4, e5, e6, Result.andThen]; rfl, hK _ ?_⟩; clear hK K
  have HXE : Hid ((D.alloc (.cells #[.slice lo llo lc, .int .u64 jt, .int .i64 jk, .int .u64 jn, .string Xa, .string Xb, .string Xu] 84)).heap[bx]? = some (.cells #[.slice lo llo lc, .int .u64 jt, .int .i64 jk, .int .u64 jn, .string Xa, .string Xb, .string Xu] 84 (0, 0))) := Lib.hid ((Below.heap_alloc _ _ _ hxlt).trans HXD.out)
  have hcbE : (D.alloc (.cells #[.slice lo llo lc, .int .u64 jt, .int .i64 jk, .int .u64 jn, .string Xa, .string Xb, .string Xu] 84)).cell? ⟨b, o, none⟩ = some (.slice ao xs.length cap) := row_cell ((Below.heap_alloc _ _ _ (row_lt HLD.out)).trans HLD.out) hcs
  refine seqP_two _ _ rfl rfl (fun K hK => ?_) (fun K hK => ?_)
  all_goals go_simp
  ·refine hK.out _ _ HXD.out ?_; clear hK K
   refine seqP_come _ rfl (fun K hK => ?_); go_simp
   refine hK.out _ _ HXE.out ?_; clear hK K
   refine seqP_wp _ rfl rfl (fun K hK => ?_)
   refine wp_app_at _ _ 30 rfl Tryz.elExL (by decide) (HOD.out.alloc _) rfl (b := D.heap.size) (off := 0) (m := 1) (c := 1) (news := [.slice lo llo lc, .int .u64 jt, .int .i64 jk, .int .u64 jn, .string Xa, .string Xb, .string Xu]) rfl rfl (fun j u hj => by rw [Nat.zero_add]; exact row_cell (heap_alloc_new D _) (by simpa using hj)) (by simp [Value.oneCell']) (by unfold maxLen; omega) (by omega) (by simp; omega) (fun v' w3 hown3 hgrow hnew => ?_)
   obtain ⟨g, cap', hv', hg1, hg2, _, _⟩ := own_some hown3 (by omega)
   subst hv'
   have hgu : Upd (fun k => (Value.slice ao xs.length cap).ownBlock = some k) (D.alloc (.cells #[.slice lo llo lc, .int .u64 jt, .int .i64 jk, .int .u64 jn, .string Xa, .string Xb, .string Xu] 84)) w3 := Upd.of_grown hgrow
   have HGU := Lib.hid hgu
   have HO3 := Lib.hid hown3
   have HNEW : Hid (∀ k, (Value.slice (some ⟨g, 0, none⟩) (xs.length + 1) cap').ownBlock = some k → (Value.slice ao xs.length cap).ownBlock = some k ∨ k = D.heap.size + 1) := Lib.hid (fun k hk => (hnew k hk).imp id (fun h => by rw [h]; exact Array.size_push ..))
   have HGB : Hid (¬ (Value.slice ao xs.length cap).ownBlock = some bx) := Lib.hid (fun h => by have := (H2.out.lt bx h).2; have := HB1.out.size; have := HBX.out; omega)
   have HGL : Hid (¬ (Value.slice ao xs.length cap).ownBlock = some b) := Lib.hid (fun h => by have := (H2.out.lt b h).1; omega)
   have HX3 : Hid (w3.heap[bx]? = some (.cells #[.slice lo llo lc, .int .u64 jt, .int .i64 jk, .int .u64 jn, .string Xa, .string Xb, .string Xu] 84 (0, 0))) := Lib.hid ((hgu.block bx (row_lt HXE.out) HGB.out).trans HXE.out)
   have HL3 : Hid (w3.heap[b]? = some (.cells cs0 T0 (0, 0))) := Lib.hid ((hgu.block b (by have := row_lt HLD.out; simp; omega) HGL.out).trans ((Below.heap_alloc _ _ _ (row_lt HLD.out)).trans HLD.out))
   refine hK.out _ _ HX3.out ?_; clear hK K
   clear hgu hown3 hnew hgrow
   (refine seqP_take _ rfl (fun K hK => ?_); go_simp; (first | refine hK _ ?_ | refine ⟨_, fun _ _ => rfl, hK _ ?_⟩); clear hK K)
   have hbxb : bx ≠ b := by have := HBX.out; have := HB1.out.size; omega
   refine seqP_come _ rfl (fun K hK => ?_)
   have hcb : w3.cell? ⟨b, o, none⟩ = some (.slice ao xs.length cap) := row_cell HL3.out hcs
   have hfb : w3.frozen? ⟨b, o, none⟩ = false := row_thaw HL3.out o
   go_simp
   obtain ⟨W4, hW4⟩ : ∃ W, w3.setCell ⟨b, o, none⟩ (.slice (some ⟨g, 0, none⟩) (xs.length + 1) cap') = W := ⟨_, rfl⟩
   have hu4 := Upd.set w3 ⟨b, o, none⟩ (.slice (some ⟨g, 0, none⟩) (xs.length + 1) cap')
   have hl4 := row_set HL3.out o (.slice (some ⟨g, 0, none⟩) (xs.length + 1) cap')
   rw [hW4] at hu4 hl4 ⊢
   clear hW4 hcb hfb
   have HU4 := Lib.hid hu4
   have HL4 := Lib.hid hl4
   have HO4 := Lib.hid (hu4.own HO3.out (fun k hk e => by have e : k = b := e; have := (HO3.out.lt k hk).1; omega))
   have HX4 : Hid (W4.heap[bx]? = some (.cells #[.slice lo llo lc, .int .u64 jt, .int .i64 jk, .int .u64 jn, .string Xa, .string Xb, .string Xu] 84 (0, 0))) := Lib.hid ((hu4.block bx (row_lt HX3.out) (fun e => hbxb e)).trans HX3.out)
   clear hu4 hl4
   refine hK.out _ _ HX4.out ?_; clear hK K
   refine seqP_done ?_
   go_wp2_with fail
   go_ret
   refine add_fin hbase HB1.out H3.out H4.out H5.out HREL.out (g := g) (hb0 := fun k hk => (H2.out.lt k hk).2) (cap' := cap') (W := W4) HL4.out ?_ ?_ ?_
   ·exact HCS.out ▸ HO4.out
   ·refine ((Upd.of_new HBD.out).trans ((Upd.alloc _ _ _).trans (HGU.out.mono fun k _ h => .inr h))).trans' (S' := fun k => k = b) (HU4.out.mono fun k _ h => h) (fun k hk h => .inl h)
   ·rcases HNEW.out g rfl with h | h
    ·exact .inl h
    ·exact .inr (by have := HBD.out.size; omega)
  ·refine hK.out _ _ HXE.out ?_; clear hK K
   refine seqP_come _ rfl (fun K hK => ?_); go_simp
   refine hK.out _ _ HXE.out ?_; clear hK K
   refine seqP_wp _ rfl rfl (fun K hK => ?_)
   refine wp_app_at _ _ 30 rfl Tryz.elExL (by decide) (HOD.out.alloc _) rfl (b := D.heap.size) (off := 0) (m := 1) (c := 1) (news := [.slice lo llo lc, .int .u64 jt, .int .i64 jk, .int .u64 jn, .string Xa, .string Xb, .string Xu]) rfl rfl (fun j u hj => by rw [Nat.zero_add]; exact row_cell (heap_alloc_new D _) (by simpa using hj)) (by simp [Value.oneCell']) (by unfold maxLen; omega) (by omega) (by simp; omega) (fun v' w3 hown3 hgrow hnew => ?_)
   obtain ⟨g, cap', hv', hg1, hg2, _, _⟩ := own_some hown3 (by omega)
   subst hv'
   have hgu : Upd (fun k => (Value.slice ao xs.length cap).ownBlock = some k) (D.alloc (.cells #[.slice lo llo lc, .int .u64 jt, .int .i64 jk, .int .u64 jn, .string Xa, .string Xb, .string Xu] 84)) w3 := Upd.of_grown hgrow
   have HGU := Lib.hid hgu
   have HO3 := Lib.hid hown3
   have HNEW : Hid (∀ k, (Value.slice (some ⟨g, 0, none⟩) (xs.length + 1) cap').ownBlock = some k → (Value.slice ao xs.length cap).ownBlock = some k ∨ k = D.heap.size + 1) := Lib.hid (fun k hk => (hnew k hk).imp id (fun h => by rw [h]; exact Array.size_push ..))
   have HGB : Hid (¬ (Value.slice ao xs.length cap).ownBlock = some bx) := Lib.hid (fun h => by have := (H2.out.lt bx h).2; have := HB1.out.size; have := HBX.out; omega)
   have HGL : Hid (¬ (Value.slice ao xs.length cap).ownBlock = some b) := Lib.hid (fun h => by have := (H2.out.lt b h).1; omega)
   have HX3 : Hid (w3.heap[bx]? = some (.cells #[.slice lo llo lc, .int .u64 jt, .int .i64 jk, .int .u64 jn, .string Xa, .string Xb, .string Xu] 84 (0, 0))) := Lib.hid ((hgu.block bx (row_lt HXE.out) HGB.out).trans HXE.out)
   have HL3 : Hid (w3.heap[b]? = some (.cells cs0 T0 (0, 0))) := Lib.hid ((hgu.block b (by have := row_lt HLD.out; simp; omega) HGL.out).trans ((Below.heap_alloc _ _ _ (row_lt HLD.out)).trans HLD.out))
   refine hK.out _ _ HX3.out ?_; clear hK K
   clear hgu hown3 hnew hgrow
   (refine seqP_take _ rfl (fun K hK => ?_); go_simp; (first | refine hK _ ?_ | refine ⟨_, fun _ _ => rfl, hK _ ?_⟩); clear hK K)
   have hbxb : bx ≠ b := by have := HBX.out; have := HB1.out.size; omega
   refine seqP_come _ rfl (fun K hK => ?_)
   have hcb : w3.cell? ⟨b, o, none⟩ = some (.slice ao xs.length cap) := row_cell HL3.out hcs
   have hfb : w3.frozen? ⟨b, o, none⟩ = false := row_thaw HL3.out o
   go_simp
   obtain ⟨W4, hW4⟩ : ∃ W, w3.setCell ⟨b, o, none⟩ (.slice (some ⟨g, 0, none⟩) (xs.length + 1) cap') = W := ⟨_, rfl⟩
   have hu4 := Upd.set w3 ⟨b, o, none⟩ (.slice (some ⟨g, 0, none⟩) (xs.length + 1) cap')
   have hl4 := row_set HL3.out o (.slice (some ⟨g, 0, none⟩) (xs.length + 1) cap')
   rw [hW4] at hu4 hl4 ⊢
   clear hW4 hcb hfb
   have HU4 := Lib.hid hu4
   have HL4 := Lib.hid hl4
   have HO4 := Lib.hid (hu4.own HO3.out (fun k hk e => by have e : k = b := e; have := (HO3.out.lt k hk).1; omega))
   have HX4 : Hid (W4.heap[bx]? = some (.cells #[.slice lo llo lc, .int .u64 jt, .int .i64 jk, .int .u64 jn, .string Xa, .string Xb, .string Xu] 84 (0, 0))) := Lib.hid ((hu4.block bx (row_lt HX3.out) (fun e => hbxb e)).trans HX3.out)
   clear hu4 hl4
   refine hK.out _ _ HX4.out ?_; clear hK K
   refine seqP_done ?_
   go_wp2_with fail
   go_ret
   refine add_fin hbase HB1.out H3.out H4.out H5.out HREL.out (g := g) (hb0 := fun k hk => (H2.out.lt k hk).2) (cap' := cap') (W := W4) HL4.out ?_ ?_ ?_
   ·exact HCS.out ▸ HO4.out
   ·refine ((Upd.of_new HBD.out).trans ((Upd.alloc _ _ _).trans (HGU.out.mono fun k _ h => .inr h))).trans' (S' := fun k => k = b) (HU4.out.mono fun k _ h => h) (fun k hk h => .inl h)
   ·rcases HNEW.out g rfl with h | h
    ·exact .inl h
    ·exact .inr (by have := HBD.out.size; omega)
end Go.Proofs.YtficgfemmijaaaaGreatDoor
