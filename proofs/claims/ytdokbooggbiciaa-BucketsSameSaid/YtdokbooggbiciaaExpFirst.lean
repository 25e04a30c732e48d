/-
  exph.Unmarshal of one side that is empty.
-/
import Derived.Test.YtdokbooggbiciaaBukWrite
namespace Go.Proofs.Ytdokbooggbiciaa
open Go.RowKit

/-- the record -/
def rec8 : Rec := ⟨8, 2, 0, [], [66, 0]⟩
theorem wall8 : wall (⟨#[66, 0]⟩ : ByteArray).data.toList 1 = .ok [rec8] := by rfl
set_option maxRecDepth 1000000 in
set_option maxHeartbeats 4000000 in
theorem padd_any {cs : Array Value} {T : TypeId} (b o : Nat) (v : Value) (ps : List (List UInt8)) (B : Nat) (t : List UInt8) (w : World) (hrow : Hid (w.heap[b]? = some (.cells cs T (0, 0)))) (hcs : cs[o]? = some v) (hown : Hid (w.ownsRow B 9 1 v ps.length (ps.map strV))) (hbB : b < B) (hB : B ≤ w.heap.size) (hl : ps.length ≤ 1000000) :
    Calls Try.prog 53 #[.pointer (some ⟨b, o, none⟩), strV t] w fun e w' => e = .returned (.tuple #[]) ∧ Upd (fun k => k = b ∨ v.ownBlock = some k) w w' ∧ ∃ v', w'.heap[b]? = some (.cells (cs.setIfInBounds o v') T (0, 0)) ∧ w'.ownsRow B 9 1 v' (ps ++ [t]).length ((ps ++ [t]).map strV) ∧ ∀ k, v'.ownBlock = some k → v.ownBlock = some k ∨ w.heap.size ≤ k := by
  obtain ⟨X, hX⟩ : ∃ X : ByteArray, (⟨t.toArray⟩ : ByteArray) = X := ⟨_, rfl⟩
  have HX := Lib.hid hX
  obtain ⟨ao, cap, rfl⟩ := own_slice hown.out
  have hcb : w.cell? ⟨b, o, none⟩ = some (.slice ao ps.length cap) := row_cell hrow.out (j := o) hcs
  have hbw := row_lt hrow.out
  unfold strV
  rw [hX]
  clear hX
  go_enter Try.func53, Try.ntmps53
  go_wp2_with (at_builtin; refine wpList_app1_at (c := 1) (cs := [.string X]) rfl _ _ 74 rfl Try.elStrM (by decide) hown.out rfl (by show Value.slice (some ⟨w.heap.size, 0, none⟩) 1 1 = _; simp) rfl (by simp [Value.oneCell']) (by unfold maxLen; omega) (by omega) (by omega) ?_; intro g' cap' w2 hown2 hgrow hng; have HR2 : Hid (w2.heap[b]? = some (.cells cs T (0, 0))) := Lib.hid ((hgrow.block _ hbw (fun e => by have h7 := (hown.out.lt _ e.symm).1; omega)).trans hrow.out); have hc1' : w2.cell? ⟨b, o, none⟩ = some (.slice ao ps.length cap) := row_cell HR2.out (j := o) hcs; have hfz1 : w2.frozen? ⟨b, o, none⟩ = false := row_thaw HR2.out o)
  go_end0
  have hgu : Upd (fun k => (Value.slice ao ps.length cap).ownBlock = some k) w w2 := Upd.of_grown hgrow
  have hu1 := Upd.set w2 ⟨b, o, none⟩ (.slice (some ⟨g', 0, none⟩) (ps.length + 1) cap')
  refine ⟨rfl, (hgu.mono fun k _ h => .inr h).trans (hu1.mono fun k _ h => .inl h), .slice (some ⟨g', 0, none⟩) (ps.length + 1) cap', row_set HR2.out o _, ?_, fun k hk => ?_⟩
  · have h9 := hu1.own hown2 (fun k hk e => by have e : k = b := e; have := (hown2.lt k hk).1; omega)
    rw [List.length_append, List.map_append, List.map_cons, List.map_nil]
    rw [HX.out]
    exact h9
  · have hk' : g' = k := by simpa [Value.ownBlock] using hk
    subst hk'
    exact hng
set_option maxRecDepth 1000000 in
set_option maxHeartbeats 4000000 in
theorem phas_any {cs : Array Value} {T : TypeId} (b o : Nat) (ao : Option Addr) (n cap : Nat) (w : World) (hrow : Hid (w.heap[b]? = some (.cells cs T (0, 0)))) (hcs : cs[o]? = some (.slice ao n cap)) :
    Calls Try.prog 57 #[.pointer (some ⟨b, o, none⟩)] w fun e w' => e = .returned (.bool (decide (0 < n))) ∧ w = w' := by
  have hcb : w.cell? ⟨b, o, none⟩ = some (.slice ao n cap) := row_cell hrow.out (j := o) hcs
  go_enter Try.func57, Try.ntmps57
  go_wp2_with fail
  go_ret
  exact ⟨rfl, rfl⟩
set_option maxRecDepth 1000000 in
set_option maxHeartbeats 4000000 in
theorem pbytes_any {cs : Array Value} {T : TypeId} (b o : Nat) (v : Value) (ps : List (List UInt8)) (B : Nat) (w : World) (hrow : Hid (w.heap[b]? = some (.cells cs T (0, 0)))) (hcs : cs[o]? = some v) (hown : Hid (w.ownsRow B 9 1 v ps.length (ps.map strV))) (hl : ps.length ≤ 1000000) (hf : ps.flatten.length ≤ 10000000) :
    Calls Try.prog 58 #[.pointer (some ⟨b, o, none⟩)] w fun e w' => e = .returned (.string ⟨ps.flatten.toArray⟩) ∧ Below w.heap.size w w' := by
  obtain ⟨ao, cap, rfl⟩ := own_slice hown.out
  have hcb : w.cell? ⟨b, o, none⟩ = some (.slice ao ps.length cap) := row_cell hrow.out (j := o) hcs
  have hcap : ps.length ≤ cap := by
    rcases Nat.eq_zero_or_pos ps.length with h | h
    · omega
    · obtain ⟨_, cg, hv, _, _, h9, _⟩ := own_some hown.out h
      simp only [Value.slice.injEq] at hv
      omega
  have HS := Lib.hid (strs_of_own hown.out)
  go_enter Try.func58, Try.ntmps58
  go_wp2_with fail
  refine (join_any ao cap ps _ HS.out hcap (by omega) (by omega)).mono ?_; rintro e w2 ⟨rfl, hb2⟩
  have HB2 := Lib.hid hb2
  clear hb2
  go_wp2_with fail
  go_ret
  exact ⟨rfl, HB2.out⟩
/-- an Exp's cells, of zero; a reading, of which a side's parts are v -/
def expCells : List Value := [.slice none 0 0, .int .u64 0, .int .u64 0, .int .u64 0, .bool false, .int .u64 0, .bool false, .int .u64 0, .bool false, .int .u64 0, .int .i32 0, .int .u64 0, .bool false, .int .i32 0, .slice none 0 0, .string ⟨#[]⟩, .bool false, .int .i32 0, .slice none 0 0, .string ⟨#[]⟩, .slice none 0 0, .int .u32 0, .int .u64 0, .string ⟨#[]⟩]
def readRow (v : Value) : Array Value := #[.slice none 0 0, .int .u64 0, .int .u64 0, .int .u64 0, .bool false, .int .u64 0, .bool false, .int .u64 0, .bool false, .int .u64 0, .int .i32 0, .int .u64 0, .bool false, .int .i32 0, .slice none 0 0, .string ⟨#[]⟩, .bool false, .int .i32 0, .slice none 0 0, .string ⟨#[]⟩, .slice none 0 0, .int .u32 0, .int .u64 0, .string ⟨#[]⟩, v, .slice none 0 0]
def ExpS (b bd : Nat) (n : Nat) (P : Nat → Prop) (w : World) : Prop := b ≠ bd ∧ w.heap[bd]? = some (.cells #[.int .i64 1] 3 (0, 0)) ∧ ∃ v, w.heap[b]? = some (.cells (readRow v) 78 (0, 0)) ∧ w.ownsRow (b + 1) 9 1 v n ((List.replicate n []).map strV) ∧ P = fun k => k = b ∨ k = bd ∨ v.ownBlock = some k
def expTaker (b bd : Nat) : Taker Nat where
  rel := ExpS b bd
  lt := by
    rintro n P w ⟨_, h0, v, h1, h2, rfl⟩ k (rfl | rfl | hk)
    · exact row_lt h1
    · exact row_lt h0
    · exact (h2.lt k hk).2
  kept := by
    rintro n P w w' ⟨hb, h0, v, h1, h2, rfl⟩ hu
    exact ⟨hb, (hu.block bd (row_lt h0) (fun h => h (.inr (.inl rfl)))).trans h0, v, (hu.block b (row_lt h1) (fun h => h (.inl rfl))).trans h1, hu.own h2 (fun k hk h => h (.inr (.inr hk))), rfl⟩
def estep (n : Nat) (_ : Rec) : Except Nat Nat := .ok (n + 1)
set_option maxRecDepth 1000000 in
set_option maxHeartbeats 4000000 in
theorem etake_any (b : Nat) (v : Value) (n : Nat) (d : Int) (w : World) (hrow : Hid (w.heap[b]? = some (.cells (readRow v) 78 (0, 0)))) (hown : Hid (w.ownsRow (b + 1) 9 1 v n ((List.replicate n []).map strV))) (hB : b + 1 ≤ w.heap.size) (hl : n ≤ 1000000) :
    Calls Try.prog 37 #[.pointer (some ⟨b, 0, none⟩), recV rec8, .int .i64 d] w fun e w' => e = .returned .nilIface ∧ Upd (fun k => k = b ∨ v.ownBlock = some k) w w' ∧ ∃ v', w'.heap[b]? = some (.cells (readRow v') 78 (0, 0)) ∧ w'.ownsRow (b + 1) 9 1 v' (n + 1) ((List.replicate (n + 1) []).map strV) ∧ ∀ k, v'.ownBlock = some k → v.ownBlock = some k ∨ w.heap.size ≤ k := by
  have HU0 : Hid (Upd (fun _ => False) w (w.alloc (.cells #[.int .i64 8, .int .i64 2, .int .u64 0, .string ⟨#[]⟩, .string ⟨#[66, 0]⟩] 63))) := Lib.hid (Upd.alloc _ _ _)
  unfold recV rec8
  go_enter Try.func37, Try.ntmps37
  go_wp2_with fail
  obtain ⟨W0, hW0⟩ : ∃ W0, w.alloc (.cells #[.int .i64 8, .int .i64 2, .int .u64 0, .string ⟨#[]⟩, .string ⟨#[66, 0]⟩] 63) = W0 := ⟨_, rfl⟩
  have HU0 : Hid (Upd (fun _ => False) w W0) := Lib.hid (by rw [← hW0]; exact Upd.alloc _ _ _)
  have HX0 : Hid (W0.heap[w.heap.size]? = some (.cells #[.int .i64 8, .int .i64 2, .int .u64 0, .string ⟨#[]⟩, .string ⟨#[66, 0]⟩] 63 (0, 0))) := Lib.hid (by rw [← hW0]; exact heap_alloc_new w _)
  have HR0 : Hid (W0.heap[b]? = some (.cells (readRow v) 78 (0, 0))) := Lib.hid ((HU0.out.block b (row_lt hrow.out) (fun h => h)).trans hrow.out)
  have HO0 : Hid (W0.ownsRow (b + 1) 9 1 v (List.replicate n ([] : List UInt8)).length ((List.replicate n ([] : List UInt8)).map strV)) := Lib.hid (by rw [List.length_replicate]; exact HU0.out.own hown.out (fun _ _ h => h))
  have hs0 := HU0.out.size
  rw [hW0]
  clear hW0
  have hS : W0.drew.cell? ⟨w.heap.size, 3, none⟩ = some (.string ⟨#[]⟩) := row_cell HX0.out (j := 3) rfl
  have hne : Nonempty { w' : World // w'.cell? ⟨w.heap.size, 3, none⟩ = some (.string ⟨#[]⟩) } := ⟨⟨_, hS⟩⟩
  have hx : ∀ t : { w' : World // w'.cell? ⟨w.heap.size, 3, none⟩ = some (.string ⟨#[]⟩) }, t.1.cell? ⟨w.heap.size, 3, none⟩ = some (.string ⟨#[]⟩) := fun t => t.2
  refine wp_region_seqB (fun w' => w'.cell? ⟨w.heap.size, 3, none⟩ = some (.string ⟨#[]⟩)) [] [(0, true), (1, true), (2, true), (3, true), (4, true), (5, false)] (by kernel_rfl) (by kernel_rfl) (by kernel_rfl) (by kernel_rfl) ?_
  iterate 5 (refine seqB_take _ rfl hS (fun K hK => ?_); go_simp; refine hK _ ?_; clear hK K)
  refine seqB_come _ rfl (fun K hK => ?_); go_simp
  refine (padd_any (cs := readRow v) (T := 78) b 24 v (List.replicate n []) (b + 1) [] W0.drew HR0 rfl HO0 (by omega) (by show b + 1 ≤ W0.heap.size; omega) (by simp; omega)).mono ?_; rintro e w1 ⟨rfl, hu, v', h1, h2, h3⟩
  have hS1 : w1.cell? ⟨w.heap.size, 3, none⟩ = some (.string ⟨#[]⟩) := (hu.cell (a := ⟨w.heap.size, 3, none⟩) (row_lt HX0.out) (fun h => by
    have hb9 := row_lt hrow.out
    rcases h with h | h
    · have h : w.heap.size = b := h; omega
    · have := (hown.out.lt _ h).2; have h7 : w.heap.size < w.heap.size := this; omega)).trans hS
  go_simp; refine hK.out _ _ (fun _ => hS1) ?_; clear hK K
  refine seqB_done ?_
  have HU : Hid (Upd (fun k => k = b ∨ v.ownBlock = some k) w w1) := Lib.hid (((HU0.out.mono fun _ _ h => h.elim).trans (Upd.drew _ _)).trans hu)
  have H1 : Hid (w1.heap[b]? = some (.cells (readRow v') 78 (0, 0))) := Lib.hid h1
  have H2 : Hid (w1.ownsRow (b + 1) 9 1 v' (n + 1) ((List.replicate (n + 1) []).map strV)) := Lib.hid (by
    have e : List.replicate (n + 1) ([] : List UInt8) = List.replicate n [] ++ [[]] := List.replicate_succ'
    rw [e, ← show (List.replicate n ([] : List UInt8) ++ [[]]).length = n + 1 by simp]
    exact h2)
  have H3 := Lib.hid h3
  clear hx hne hS hu h1 h2 h3
  go_wp2_with fail
  go_ret
  exact ⟨rfl, HU.out, v', H1.out, H2.out, fun k hk => by
    rcases H3.out k hk with h | h
    · exact .inl h
    · exact .inr (Nat.le_trans hs0 h)⟩
def EloS (rb bd : Nat) (w' : World) : Prop := w'.heap[rb]? = some (.cells #[.int .i64 8, .int .i64 2, .int .u64 0, .string ⟨#[]⟩, .string ⟨#[66, 0]⟩] 63 (0, 0)) ∧ w'.heap[bd]? = some (.cells #[.int .i64 1] 3 (0, 0))
set_option maxRecDepth 1000000 in
set_option maxHeartbeats 4000000 in
theorem eclo_any (b bd : Nat) (n : Nat) (P : Nat → Prop) (w : World) (h : Hid (ExpS b bd n P w)) (hl : n ≤ 1000000) :
    Calls Try.prog 36 #[recV rec8, .pointer (some ⟨b, 0, none⟩), .pointer (some ⟨bd, 0, none⟩)] w (TakePost (expTaker b bd) estep n P rec8 w) := by
  obtain ⟨hne, h0, v, h1, h2, rfl⟩ := h.out
  have hbw := row_lt h1
  have hdw := row_lt h0
  have H0 := Lib.hid h0
  have H1 := Lib.hid h1
  have H2 := Lib.hid h2
  have HV : Hid (Value.agg #[.int .i64 ((8 : Nat) : Int), .int .i64 ((2 : Nat) : Int), .int .u64 ((0 : Nat) : Int), .string ⟨#[]⟩, .string ⟨#[66, 0]⟩] = recV rec8) := Lib.hid rfl
  clear h0 h1 h2
  unfold recV rec8
  obtain ⟨W0, hW0⟩ : ∃ W0, w.alloc (.cells #[.int .i64 8, .int .i64 2, .int .u64 0, .string ⟨#[]⟩, .string ⟨#[66, 0]⟩] 63) = W0 := ⟨_, rfl⟩
  have HU0 : Hid (Upd (fun _ => False) w W0) := Lib.hid (by rw [← hW0]; exact Upd.alloc _ _ _)
  have HX0 : Hid (W0.heap[w.heap.size]? = some (.cells #[.int .i64 8, .int .i64 2, .int .u64 0, .string ⟨#[]⟩, .string ⟨#[66, 0]⟩] 63 (0, 0))) := Lib.hid (by rw [← hW0]; exact heap_alloc_new w _)
  have HW0 := Lib.hid hW0
  clear hW0
  go_enter Try.func36, Try.ntmps36
  go_wp2_with fail
  rw [HW0.out]
  have HR0 : Hid (W0.heap[b]? = some (.cells (readRow v) 78 (0, 0))) := Lib.hid ((HU0.out.block b hbw (fun h => h)).trans H1.out)
  have HD0 : Hid (W0.heap[bd]? = some (.cells #[.int .i64 1] 3 (0, 0))) := Lib.hid ((HU0.out.block bd hdw (fun h => h)).trans H0.out)
  have HO0 : Hid (W0.ownsRow (b + 1) 9 1 v n ((List.replicate n []).map strV)) := Lib.hid (HU0.out.own H2.out (fun _ _ h => h))
  have hs0 := HU0.out.size
  have hS : EloS w.heap.size bd W0.drew := ⟨HX0.out, HD0.out⟩
  have hne2 : Nonempty { w' : World // EloS w.heap.size bd w' } := ⟨⟨_, hS⟩⟩
  have hx0 : ∀ t : { w' : World // EloS w.heap.size bd w' }, t.1.cell? ⟨w.heap.size, 0, none⟩ = some (.int .i64 8) := fun t => row_cell t.2.1 (j := 0) rfl
  have hx1 : ∀ t : { w' : World // EloS w.heap.size bd w' }, t.1.cell? ⟨w.heap.size, 1, none⟩ = some (.int .i64 2) := fun t => row_cell t.2.1 (j := 1) rfl
  have hx2 : ∀ t : { w' : World // EloS w.heap.size bd w' }, t.1.cell? ⟨w.heap.size, 2, none⟩ = some (.int .u64 0) := fun t => row_cell t.2.1 (j := 2) rfl
  have hx3 : ∀ t : { w' : World // EloS w.heap.size bd w' }, t.1.cell? ⟨w.heap.size, 3, none⟩ = some (.string ⟨#[]⟩) := fun t => row_cell t.2.1 (j := 3) rfl
  have hx4 : ∀ t : { w' : World // EloS w.heap.size bd w' }, t.1.cell? ⟨w.heap.size, 4, none⟩ = some (.string ⟨#[66, 0]⟩) := fun t => row_cell t.2.1 (j := 4) rfl
  have hxd : ∀ t : { w' : World // EloS w.heap.size bd w' }, t.1.cell? ⟨bd, 0, none⟩ = some (.int .i64 1) := fun t => row_cell t.2.2 (j := 0) rfl
  refine wp_region_seq (S := EloS w.heap.size bd) [(0, true), (1, true), (2, true), (3, true), (4, true), (5, false), (6, false), (7, true)] (by kernel_rfl) (by kernel_rfl) (by kernel_rfl) (by kernel_rfl) hS ?_
  iterate 5 (refine seq_take _ rfl (fun K hK => ?_); go_simp; refine hK _ ?_; clear hK K)
  refine seq_come _ rfl (fun K hK => ?_); go_simp
  refine (etake_any b v n 0 W0.drew HR0 HO0 (by show b + 1 ≤ W0.heap.size; omega) hl).mono ?_; rintro e w1 ⟨rfl, hu, v', h1, h2, h3⟩
  have hS1 : EloS w.heap.size bd w1 := by
    refine ⟨(hu.block _ (row_lt HX0.out) (fun h => ?_)).trans HX0.out, (hu.block _ (row_lt HD0.out) (fun h => ?_)).trans HD0.out⟩
    · rcases h with h | h
      · omega
      · have h7 : w.heap.size < w.heap.size := (H2.out.lt _ h).2; omega
    · rcases h with h | h
      · exact hne h.symm
      · obtain ⟨cur, hc⟩ := own_type H2.out h
        rw [H0.out] at hc
        simp at hc
  go_simp; refine hK.out _ _ hS1 ?_; clear hK K
  refine seq_come _ rfl (fun K hK => ?_); go_simp
  refine (in_nil _ _).mono ?_; rintro e w' ⟨rfl, rfl⟩
  go_simp; refine hK.out _ _ hS1 ?_; clear hK K
  iterate 1 (refine seq_take _ rfl (fun K hK => ?_); go_simp; refine hK _ ?_; clear hK K)
  refine seq_done ?_
  have HU : Hid (Upd (fun k => k = b ∨ v.ownBlock = some k) w w1) := Lib.hid (((HU0.out.mono fun _ _ h => h.elim).trans (Upd.drew _ _)).trans hu)
  have HS1 := Lib.hid hS1
  have H1' := Lib.hid h1
  have H2' := Lib.hid h2
  have H3' := Lib.hid h3
  clear hx0 hx1 hx2 hx3 hx4 hxd hne2 hS hS1 hu h1 h2 h3
  go_wp2_with fail
  go_ret
  refine ⟨HU.out.mono (fun k _ h => ?_), rfl, _, ⟨hne, HS1.out.2, v', H1'.out, H2'.out, rfl⟩, fun k hk => ?_⟩
  · rcases h with h | h
    · exact .inl h
    · exact .inr (.inr h)
  · rcases hk with h | h | h
    · exact .inl (.inl h)
    · exact .inl (.inr (.inl h))
    · rcases H3'.out k h with h | h
      · exact .inl (.inr (.inr h))
      · exact .inr (Nat.le_trans hs0 h)
end Go.Proofs.Ytdokbooggbiciaa
