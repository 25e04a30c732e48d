/-
  message.Parts: Add, Has, Bytes.
-/
/-
  utf.Check.
-/
/-
  value.takes, takesKey, takesItem.
-/
import Derived.Test.YtandoppfbilhbaaGreatDoorMsgRead
import Derived.Test.YtandoppfbilhbaaGreatDoorMsgUn
import Derived.Test.YtandoppfbilhbaaGreatDoorUtf2
import Derived.Test.YtandoppfbilhbaaGreatDoorErrNew
import Derived.Test.YtandoppfbilhbaaGreatDoorGet
import Derived.Test.YtandoppfbilhbaaGreatDoorVal
import Derived.Deep.Cut
namespace Go.Proofs.YtandoppfbilhbaaGreatDoor
open Go.RowKit

set_option maxRecDepth 1000000 in
set_option maxHeartbeats 4000000 in
theorem padd_any {cs : Array Value} {T : TypeId} (b o : Nat) (v : Value) (ps : List (List UInt8)) (B : Nat) (t : List UInt8) (w : World) (hrow : Hid (w.heap[b]? = some (.cells cs T (0, 0)))) (hcs : cs[o]? = some v) (hown : Hid (w.ownsRow B 9 1 v ps.length (ps.map strV))) (hbB : b < B) (hB : B ≤ w.heap.size) (hl : ps.length ≤ 1000000) :
    Calls Tryz.prog 121 #[.pointer (some ⟨b, o, none⟩), strV t] w fun e w' => e = .returned (.tuple #[]) ∧ Upd (fun k => k = b ∨ v.ownBlock = some k) w w' ∧ ∃ v', w'.heap[b]? = some (.cells (cs.setIfInBounds o v') T (0, 0)) ∧ w'.ownsRow B 9 1 v' (ps ++ [t]).length ((ps ++ [t]).map strV) ∧ ∀ k, v'.ownBlock = some k → v.ownBlock = some k ∨ w.heap.size ≤ k := by
  obtain ⟨X, hX⟩ : ∃ X : ByteArray, (⟨t.toArray⟩ : ByteArray) = X := ⟨_, rfl⟩
  have HX := Lib.hid hX
  obtain ⟨ao, cap, rfl⟩ := own_slice hown.out
  have hcb : w.cell? ⟨b, o, none⟩ = some (.slice ao ps.length cap) := row_cell hrow.out (j := o) hcs
  have hbw := row_lt hrow.out
  unfold strV
  rw [hX]
  clear hX
  go_enter Tryz.func121, Tryz.ntmps121
  go_wp2_with (at_builtin; refine wpList_app1_at (c := 1) (cs := [.string X]) rfl _ _ 121 rfl Tryz.elStrM (by decide) hown.out rfl (by show Value.slice (some ⟨w.heap.size, 0, none⟩) 1 1 = _; simp) rfl (by simp [Value.oneCell']) (by unfold maxLen; omega) (by omega) (by omega) ?_; intro g' cap' w2 hown2 hgrow hng; have HR2 : Hid (w2.heap[b]? = some (.cells cs T (0, 0))) := Lib.hid ((hgrow.block _ hbw (fun e => by have h7 := (hown.out.lt _ e.symm).1; omega)).trans hrow.out); have hc1' : w2.cell? ⟨b, o, none⟩ = some (.slice ao ps.length cap) := row_cell HR2.out (j := o) hcs; have hfz1 : w2.frozen? ⟨b, o, none⟩ = false := row_thaw HR2.out o)
  go_end0
  have hgu : Upd (fun k => (Value.slice ao ps.length cap).ownBlock = some k) w w2 := Upd.of_grown hgrow
  have hu1 := Upd.set w2 ⟨b, o, none⟩ (.slice (some ⟨g', 0, none⟩) (ps.length + 1) cap')
  refine ⟨rfl, (hgu.mono fun k _ h => .inr h).trans (hu1.mono fun k _ h => .inl h), .slice (some ⟨g', 0, none⟩) (ps.length + 1) cap', row_set HR2.out o _, ?_, fun k hk => ?_⟩
  · have h9 := hu1.own hown2 (fun k hk e => by have e : k = b := e; have := (hown2.lt k hk).1; omega)
    rw [List.length_append, List.map_append, List.map_cons, List.map_nil]
    rw [HX.out]
    exact h9
  · have hk' : g' = k := by simpa [Value.ownBlock] using hk
    subst hk'
    exact hng
set_option maxRecDepth 1000000 in
set_option maxHeartbeats 4000000 in
theorem phas_any {cs : Array Value} {T : TypeId} (b o : Nat) (ao : Option Addr) (n cap : Nat) (w : World) (hrow : Hid (w.heap[b]? = some (.cells cs T (0, 0)))) (hcs : cs[o]? = some (.slice ao n cap)) :
    Calls Tryz.prog 147 #[.pointer (some ⟨b, o, none⟩)] w fun e w' => e = .returned (.bool (decide (0 < n))) ∧ w = w' := by
  have hcb : w.cell? ⟨b, o, none⟩ = some (.slice ao n cap) := row_cell hrow.out (j := o) hcs
  go_enter Tryz.func147, Tryz.ntmps147
  go_wp2_with fail
  go_ret
  exact ⟨rfl, rfl⟩
set_option maxRecDepth 1000000 in
set_option maxHeartbeats 4000000 in
theorem pbytes_any {cs : Array Value} {T : TypeId} (b o : Nat) (v : Value) (ps : List (List UInt8)) (B : Nat) (w : World) (hrow : Hid (w.heap[b]? = some (.cells cs T (0, 0)))) (hcs : cs[o]? = some v) (hown : Hid (w.ownsRow B 9 1 v ps.length (ps.map strV))) (hl : ps.length ≤ 1000000) (hf : ps.flatten.length ≤ 10000000) :
    Calls Tryz.prog 148 #[.pointer (some ⟨b, o, none⟩)] w fun e w' => e = .returned (.string ⟨ps.flatten.toArray⟩) ∧ Below w.heap.size w w' := by
  obtain ⟨ao, cap, rfl⟩ := own_slice hown.out
  have hcb : w.cell? ⟨b, o, none⟩ = some (.slice ao ps.length cap) := row_cell hrow.out (j := o) hcs
  have hcap : ps.length ≤ cap := by
    rcases Nat.eq_zero_or_pos ps.length with h | h
    · omega
    · obtain ⟨_, cg, hv, _, _, h9, _⟩ := own_some hown.out h
      simp only [Value.slice.injEq] at hv
      omega
  have HS := Lib.hid (strs_of_own hown.out)
  go_enter Tryz.func148, Tryz.ntmps148
  go_wp2_with fail
  refine (join_any ao cap ps _ HS.out hcap (by omega) (by omega)).mono ?_; rintro e w2 ⟨rfl, hb2⟩
  have HB2 := Lib.hid hb2
  clear hb2
  go_wp2_with fail
  go_ret
  exact ⟨rfl, HB2.out⟩
end Go.Proofs.YtandoppfbilhbaaGreatDoor
namespace Go.Proofs.YtandoppfbilhbaaGreatDoor
open Go.RowKit

end Go.Proofs.YtandoppfbilhbaaGreatDoor
/-
  (*message.One).Take.
-/
/-
  value.Unmarshal$1.
-/
namespace Go.Proofs.YtandoppfbilhbaaGreatDoor
open Go.RowKit

set_option maxRecDepth 100000 in
set_option maxHeartbeats 2000000 in
theorem vtakes_any (r : Rec) (w : World) : Calls Tryz.prog 149 #[.int .i64 (r.num : Int), .int .i64 (r.ty : Int)] w fun e w' => e = .returned (.bool (vtk r)) ∧ w = w' := by
  obtain ⟨num, ty, n, s, raw⟩ := r
  by_cases h1 : num = 1
  · subst h1
    have hb : Hid (vtk ⟨1, ty, n, s, raw⟩ = ((ty : Int) == (2 : Int))) := Lib.hid (by rw [show ((2 : Int)) = ((2 : Nat) : Int) from rfl, ibeq]; unfold vtk; simp)
    go_enter Tryz.func149, Tryz.ntmps149
    go_wp2_with fail
    go_ret
    exact ⟨by rw [hb.out]; rfl, rfl⟩
  by_cases h5 : num = 5
  · subst h5
    have hb : Hid (vtk ⟨5, ty, n, s, raw⟩ = ((ty : Int) == (2 : Int))) := Lib.hid (by rw [show ((2 : Int)) = ((2 : Nat) : Int) from rfl, ibeq]; unfold vtk; simp)
    go_enter Tryz.func149, Tryz.ntmps149
    go_wp2_with fail
    go_ret
    exact ⟨by rw [hb.out]; rfl, rfl⟩
  by_cases h6 : num = 6
  · subst h6
    have hb : Hid (vtk ⟨6, ty, n, s, raw⟩ = ((ty : Int) == (2 : Int))) := Lib.hid (by rw [show ((2 : Int)) = ((2 : Nat) : Int) from rfl, ibeq]; unfold vtk; simp)
    go_enter Tryz.func149, Tryz.ntmps149
    go_wp2_with fail
    go_ret
    exact ⟨by rw [hb.out]; rfl, rfl⟩
  by_cases h7 : num = 7
  · subst h7
    have hb : Hid (vtk ⟨7, ty, n, s, raw⟩ = ((ty : Int) == (2 : Int))) := Lib.hid (by rw [show ((2 : Int)) = ((2 : Nat) : Int) from rfl, ibeq]; unfold vtk; simp)
    go_enter Tryz.func149, Tryz.ntmps149
    go_wp2_with fail
    go_ret
    exact ⟨by rw [hb.out]; rfl, rfl⟩
  by_cases h2 : num = 2
  · subst h2
    have hb : Hid (vtk ⟨2, ty, n, s, raw⟩ = ((ty : Int) == (0 : Int))) := Lib.hid (by rw [show ((0 : Int)) = ((0 : Nat) : Int) from rfl, ibeq]; unfold vtk; simp)
    go_enter Tryz.func149, Tryz.ntmps149
    go_wp2_with fail
    go_ret
    exact ⟨by rw [hb.out]; rfl, rfl⟩
  by_cases h3 : num = 3
  · subst h3
    have hb : Hid (vtk ⟨3, ty, n, s, raw⟩ = ((ty : Int) == (0 : Int))) := Lib.hid (by rw [show ((0 : Int)) = ((0 : Nat) : Int) from rfl, ibeq]; unfold vtk; simp)
    go_enter Tryz.func149, Tryz.ntmps149
    go_wp2_with fail
    go_ret
    exact ⟨by rw [hb.out]; rfl, rfl⟩
  by_cases h4 : num = 4
  · subst h4
    have hb : Hid (vtk ⟨4, ty, n, s, raw⟩ = ((ty : Int) == (1 : Int))) := Lib.hid (by rw [show ((1 : Int)) = ((1 : Nat) : Int) from rfl, ibeq]; unfold vtk; simp)
    go_enter Tryz.func149, Tryz.ntmps149
    go_wp2_with fail
    go_ret
    exact ⟨by rw [hb.out]; rfl, rfl⟩
  have d1 : ((num : Int) == (1 : Int)) = false := by rw [beq_eq_false_iff_ne]; omega
  have d5 : ((num : Int) == (5 : Int)) = false := by rw [beq_eq_false_iff_ne]; omega
  have d6 : ((num : Int) == (6 : Int)) = false := by rw [beq_eq_false_iff_ne]; omega
  have d7 : ((num : Int) == (7 : Int)) = false := by rw [beq_eq_false_iff_ne]; omega
  have d2 : ((num : Int) == (2 : Int)) = false := by rw [beq_eq_false_iff_ne]; omega
  have d3 : ((num : Int) == (3 : Int)) = false := by rw [beq_eq_false_iff_ne]; omega
  have d4 : ((num : Int) == (4 : Int)) = false := by rw [beq_eq_false_iff_ne]; omega
  have hb : Hid (vtk ⟨num, ty, n, s, raw⟩ = false) := Lib.hid (by unfold vtk; simp; omega)
  clear h1 h5 h6 h7 h2 h3 h4
  go_enter Tryz.func149, Tryz.ntmps149
  go_wp2_with fail
  go_ret
  exact ⟨by rw [hb.out]; rfl, rfl⟩
set_option maxRecDepth 100000 in
set_option maxHeartbeats 2000000 in
theorem ktakes_any (r : Rec) (w : World) : Calls Tryz.prog 118 #[.int .i64 (r.num : Int), .int .i64 (r.ty : Int)] w fun e w' => e = .returned (.bool (ktk r)) ∧ w = w' := by
  obtain ⟨num, ty, n, s, raw⟩ := r
  by_cases h1 : num = 1
  · subst h1
    have hb : Hid (ktk ⟨1, ty, n, s, raw⟩ = ((ty : Int) == (2 : Int))) := Lib.hid (by rw [show ((2 : Int)) = ((2 : Nat) : Int) from rfl, ibeq]; unfold ktk; simp)
    go_enter Tryz.func118, Tryz.ntmps118
    go_wp2_with fail
    go_ret
    exact ⟨by rw [hb.out]; rfl, rfl⟩
  by_cases h2 : num = 2
  · subst h2
    have hb : Hid (ktk ⟨2, ty, n, s, raw⟩ = ((ty : Int) == (2 : Int))) := Lib.hid (by rw [show ((2 : Int)) = ((2 : Nat) : Int) from rfl, ibeq]; unfold ktk; simp)
    go_enter Tryz.func118, Tryz.ntmps118
    go_wp2_with fail
    go_ret
    exact ⟨by rw [hb.out]; rfl, rfl⟩
  have d1 : ((num : Int) == (1 : Int)) = false := by rw [beq_eq_false_iff_ne]; omega
  have d2 : ((num : Int) == (2 : Int)) = false := by rw [beq_eq_false_iff_ne]; omega
  have hb : Hid (ktk ⟨num, ty, n, s, raw⟩ = false) := Lib.hid (by unfold ktk; simp; omega)
  clear h1 h2
  go_enter Tryz.func118, Tryz.ntmps118
  go_wp2_with fail
  go_ret
  exact ⟨by rw [hb.out]; rfl, rfl⟩
set_option maxRecDepth 100000 in
set_option maxHeartbeats 2000000 in
theorem itakes_any (r : Rec) (w : World) : Calls Tryz.prog 173 #[.int .i64 (r.num : Int), .int .i64 (r.ty : Int)] w fun e w' => e = .returned (.bool (itk r)) ∧ w = w' := by
  obtain ⟨num, ty, n, s, raw⟩ := r
  by_cases h1 : num = 1
  · subst h1
    have hb : Hid (itk ⟨1, ty, n, s, raw⟩ = ((ty : Int) == (2 : Int))) := Lib.hid (by rw [show ((2 : Int)) = ((2 : Nat) : Int) from rfl, ibeq]; unfold itk; simp)
    go_enter Tryz.func173, Tryz.ntmps173
    go_wp2_with fail
    go_ret
    exact ⟨by rw [hb.out]; rfl, rfl⟩
  have d1 : ((num : Int) == (1 : Int)) = false := by rw [beq_eq_false_iff_ne]; omega
  have hb : Hid (itk ⟨num, ty, n, s, raw⟩ = false) := Lib.hid (by unfold itk; simp; omega)
  clear h1
  go_enter Tryz.func173, Tryz.ntmps173
  go_wp2_with fail
  go_ret
  exact ⟨by rw [hb.out]; rfl, rfl⟩
end Go.Proofs.YtandoppfbilhbaaGreatDoor
namespace Go.Proofs.YtandoppfbilhbaaGreatDoor
open Go.RowKit

/-- the record that stands, in memory; v: the parts -/
def oneRow (r : Rec) (v : Value) : Array Value := #[.int .i64 (r.num : Int), .int .i64 (r.ty : Int), .int .u64 (r.n : Int), strV r.s, strV r.raw, v]
def recRow (r : Rec) : Array Value := #[.int .i64 (r.num : Int), .int .i64 (r.ty : Int), .int .u64 (r.n : Int), strV r.s, strV r.raw]
/-- two rows that are read on the way -/
def OT (rb b : Nat) (A B : Array Value) (w : World) : Prop := w.heap[rb]? = some (.cells A 66 (0, 0)) ∧ w.heap[b]? = some (.cells B 214 (0, 0))
theorem one_set5 {w : World} {b : Nat} {o : Rec} {v : Value} (h : w.heap[b]? = some (.cells (oneRow o v) 214 (0, 0))) (x0 x1 x2 x3 x4 : Value) :
    (((((w.setCell ⟨b, 0, none⟩ x0).setCell ⟨b, 1, none⟩ x1).setCell ⟨b, 2, none⟩ x2).setCell ⟨b, 3, none⟩ x3).setCell ⟨b, 4, none⟩ x4).heap[b]? = some (.cells #[x0, x1, x2, x3, x4, v] 214 (0, 0)) :=
  row_set (row_set (row_set (row_set (row_set h 0 x0) 1 x1) 2 x2) 3 x3) 4 x4
theorem upd_set5 (w : World) (b : Nat) (x0 x1 x2 x3 x4 : Value) : Upd (fun k => k = b) w (((((w.setCell ⟨b, 0, none⟩ x0).setCell ⟨b, 1, none⟩ x1).setCell ⟨b, 2, none⟩ x2).setCell ⟨b, 3, none⟩ x3).setCell ⟨b, 4, none⟩ x4) :=
  ((((Upd.set w ⟨b, 0, none⟩ x0).trans (Upd.set _ ⟨b, 1, none⟩ x1)).trans (Upd.set _ ⟨b, 2, none⟩ x2)).trans (Upd.set _ ⟨b, 3, none⟩ x3)).trans (Upd.set _ ⟨b, 4, none⟩ x4)
def OTPost (b : Nat) (o : One) (v : Value) (r : Rec) (w : World) (e : Ending) (w' : World) : Prop := e = .returned (.tuple #[]) ∧ Upd (fun k => k = b ∨ v.ownBlock = some k) w w' ∧ ∃ v', w'.heap[b]? = some (.cells (oneRow r v') 214 (0, 0)) ∧ w'.ownsRow (b + 1) 9 1 v' (oput o r).ps.length ((oput o r).ps.map strV) ∧ ∀ k, v'.ownBlock = some k → v.ownBlock = some k ∨ w.heap.size ≤ k
set_option maxRecDepth 1000000 in
set_option maxHeartbeats 8000000 in
theorem otake_any (b : Nat) (o : One) (v : Value) (r : Rec) (w : World) (hrow : Hid (w.heap[b]? = some (.cells (oneRow o.r v) 214 (0, 0)))) (hown : Hid (w.ownsRow (b + 1) 9 1 v o.ps.length (o.ps.map strV))) (hl : o.ps.length ≤ 1000000) (hbw : b + 1 ≤ w.heap.size) :
    Calls Tryz.prog 151 #[.pointer (some ⟨b, 0, none⟩), recV r] w (OTPost b o v r w) := by
  obtain ⟨ao, cap, rfl⟩ := own_slice hown.out
  obtain ⟨rb, hrb⟩ : ∃ rb, w.heap.size = rb := ⟨_, rfl⟩
  obtain ⟨W0, hW0⟩ : ∃ W, w.alloc (.cells (recRow r) 66) = W := ⟨_, rfl⟩
  have HU0 : Hid (Upd (fun _ => False) w W0) := Lib.hid (by rw [← hW0]; exact Upd.alloc _ _ _)
  have HRR0 : Hid (W0.heap[rb]? = some (.cells (recRow r) 66 (0, 0))) := Lib.hid (by rw [← hW0, ← hrb]; exact heap_alloc_new w _)
  have HO0 : Hid (W0.heap[b]? = some (.cells (oneRow o.r (.slice ao o.ps.length cap)) 214 (0, 0))) := Lib.hid ((HU0.out.block b (row_lt hrow.out) (fun h => h)).trans hrow.out)
  have HW0 := Lib.hid hW0
  have HRB := Lib.hid hrb
  clear hW0 hrb
  unfold recV
  go_enter Tryz.func151, Tryz.ntmps151
  go_wp2_with fail
  rw [show w.alloc (.cells #[.int .i64 (r.num : Int), .int .i64 (r.ty : Int), .int .u64 (r.n : Int), .string ⟨r.s.toArray⟩, .string ⟨r.raw.toArray⟩] 66) = W0 from HW0.out, HRB.out]
  obtain ⟨D, hD⟩ : ∃ D, W0.drew = D := ⟨_, rfl⟩
  have HUD : Hid (Upd (fun _ => False) w D) := Lib.hid (by rw [← hD]; exact HU0.out.trans (Upd.drew _ W0))
  have HDD : Hid (OT rb b (recRow r) (oneRow o.r (.slice ao o.ps.length cap)) D) := Lib.hid (by rw [← hD]; exact ⟨HRR0.out, HO0.out⟩)
  have HN : Hid (b ≠ rb) := Lib.hid (by have := HRB.out; omega)
  have hne : Nonempty {w' // OT rb b (recRow r) (oneRow o.r (.slice ao o.ps.length cap)) w'} := ⟨⟨_, HDD.out⟩⟩
  have hx : ∀ t : {w' // OT rb b (recRow r) (oneRow o.r (.slice ao o.ps.length cap)) w'}, t.1.cell? ⟨rb, 0, none⟩ = some (.int .i64 (r.num : Int)) := fun t => row_cell t.2.1 (j := 0) rfl
  have hy : ∀ t : {w' // OT rb b (recRow r) (oneRow o.r (.slice ao o.ps.length cap)) w'}, t.1.cell? ⟨b, 0, none⟩ = some (.int .i64 (o.r.num : Int)) := fun t => row_cell t.2.2 (j := 0) rfl
  refine wp_region_seq (S := OT rb b (recRow r) (oneRow o.r (.slice ao o.ps.length cap))) [(0, true), (1, true), (2, true), (3, true), (4, true), (5, true), (6, true), (7, true)] (by kernel_rfl) (by kernel_rfl) (by kernel_rfl) (by kernel_rfl) (by rw [hD]; exact HDD.out) ?_
  rw [hD]
  clear hD
  iterate 8 (refine seq_take _ rfl (fun K hK => ?_); go_simp; (first | refine hK _ ?_ | refine ⟨_, fun _ _ => rfl, hK _ ?_⟩); clear hK K)
  refine seq_done ?_
  clear hx hy hne
  have HOD : Hid (D.ownsRow (b + 1) 9 1 (.slice ao o.ps.length cap) o.ps.length (o.ps.map strV)) := Lib.hid (HUD.out.own hown.out (fun _ _ h => h))
  have HFRESH : Hid (¬ (Value.slice ao o.ps.length cap).ownBlock = some rb) := Lib.hid (fun h => by have := (hown.out.lt rb h).2; have := HRB.out; omega)
  have HRD := Lib.hid HDD.out.1
  have HBD := Lib.hid HDD.out.2
  by_cases hn : r.num = o.r.num
  · have d1 : ((r.num : Int) != (o.r.num : Int)) = false := by rw [hn]; simp
    have HP : Hid ((oput o r).ps = o.ps ++ [r.s]) := Lib.hid (if_pos hn)
    clear hn
    have hr0 : D.cell? ⟨rb, 0, none⟩ = some (.int .i64 (r.num : Int)) := row_cell HRD.out (j := 0) rfl
    have hr1 : D.cell? ⟨rb, 1, none⟩ = some (.int .i64 (r.ty : Int)) := row_cell HRD.out (j := 1) rfl
    have hr2 : D.cell? ⟨rb, 2, none⟩ = some (.int .u64 (r.n : Int)) := row_cell HRD.out (j := 2) rfl
    have hr3 : D.cell? ⟨rb, 3, none⟩ = some (.string ⟨r.s.toArray⟩) := row_cell HRD.out (j := 3) rfl
    have hr4 : D.cell? ⟨rb, 4, none⟩ = some (.string ⟨r.raw.toArray⟩) := row_cell HRD.out (j := 4) rfl
    have hb0 : D.cell? ⟨b, 0, none⟩ = some (.int .i64 (o.r.num : Int)) := row_cell HBD.out (j := 0) rfl
    have hf0 : D.frozen? ⟨b, 0, none⟩ = false := row_thaw HBD.out 0
    have hb1 : D.cell? ⟨b, 1, none⟩ = some (.int .i64 (o.r.ty : Int)) := row_cell HBD.out (j := 1) rfl
    have hf1 : D.frozen? ⟨b, 1, none⟩ = false := row_thaw HBD.out 1
    have hb2 : D.cell? ⟨b, 2, none⟩ = some (.int .u64 (o.r.n : Int)) := row_cell HBD.out (j := 2) rfl
    have hf2 : D.frozen? ⟨b, 2, none⟩ = false := row_thaw HBD.out 2
    have hb3 : D.cell? ⟨b, 3, none⟩ = some (strV o.r.s) := row_cell HBD.out (j := 3) rfl
    have hf3 : D.frozen? ⟨b, 3, none⟩ = false := row_thaw HBD.out 3
    have hb4 : D.cell? ⟨b, 4, none⟩ = some (strV o.r.raw) := row_cell HBD.out (j := 4) rfl
    have hf4 : D.frozen? ⟨b, 4, none⟩ = false := row_thaw HBD.out 4
    go_wp2_with fail
    obtain ⟨W2, hW2⟩ : ∃ W2, (((((D.setCell ⟨b, 0, none⟩ (.int .i64 (r.num : Int))).setCell ⟨b, 1, none⟩ (.int .i64 (r.ty : Int))).setCell ⟨b, 2, none⟩ (.int .u64 (r.n : Int))).setCell ⟨b, 3, none⟩ (.string ⟨r.s.toArray⟩)).setCell ⟨b, 4, none⟩ (.string ⟨r.raw.toArray⟩)) = W2 := ⟨_, rfl⟩
    have HU2 : Hid (Upd (fun k => k = b) D W2) := Lib.hid (by rw [← hW2]; exact upd_set5 _ _ _ _ _ _ _)
    have HB2 : Hid (W2.heap[b]? = some (.cells (oneRow r (.slice ao o.ps.length cap)) 214 (0, 0))) := Lib.hid (by rw [← hW2]; exact one_set5 HBD.out _ _ _ _ _)
    have HR2 : Hid (W2.heap[rb]? = some (.cells (recRow r) 66 (0, 0))) := Lib.hid ((HU2.out.block rb (row_lt HRD.out) (fun e => HN.out e.symm)).trans HRD.out)
    have HO2 : Hid (W2.ownsRow (b + 1) 9 1 (.slice ao o.ps.length cap) o.ps.length (o.ps.map strV)) := Lib.hid (HU2.out.own HOD.out (fun k hk e => by have e : k = b := e; have := (HOD.out.lt k hk).1; omega))
    rw [hW2]
    clear hW2 hr0 hr1 hr2 hr3 hr4 hb0 hb1 hb2 hb3 hb4 hf0 hf1 hf2 hf3 hf4
    obtain ⟨D2, hD2⟩ : ∃ D, W2.drew = D := ⟨_, rfl⟩
    have HUD2 : Hid (Upd (fun k => k = b) D D2) := Lib.hid (by rw [← hD2]; exact HU2.out.trans (Upd.drew _ W2))
    have HRD2 : Hid (D2.heap[rb]? = some (.cells (recRow r) 66 (0, 0))) := Lib.hid (by rw [← hD2]; exact HR2.out)
    have HBD2 : Hid (D2.heap[b]? = some (.cells (oneRow r (.slice ao o.ps.length cap)) 214 (0, 0))) := Lib.hid (by rw [← hD2]; exact HB2.out)
    have HOD2 : Hid (D2.ownsRow (b + 1) 9 1 (.slice ao o.ps.length cap) o.ps.length (o.ps.map strV)) := Lib.hid (by rw [← hD2]; exact HO2.out)
    have hne : Nonempty {w' : World // w'.heap[rb]? = some (.cells (recRow r) 66 (0, 0))} := ⟨⟨_, HRD2.out⟩⟩
    have hx : ∀ t : {w' : World // w'.heap[rb]? = some (.cells (recRow r) 66 (0, 0))}, t.1.cell? ⟨rb, 3, none⟩ = some (strV r.s) := fun t => row_cell t.2 (j := 3) rfl
    refine wp_region_seq (S := fun w' => w'.heap[rb]? = some (.cells (recRow r) 66 (0, 0))) [(0, true), (1, true), (2, true), (3, true), (4, true), (5, false)] (by kernel_rfl) (by kernel_rfl) (by kernel_rfl) (by kernel_rfl) (by rw [hD2]; exact HRD2.out) ?_
    rw [hD2]
    clear hD2
    iterate 5 (refine seq_take _ rfl (fun K hK => ?_); go_simp; (first | refine hK _ ?_ | refine ⟨_, fun _ _ => rfl, hK _ ?_⟩); clear hK K)
    clear hx hne
    refine seq_come _ rfl (fun K hK => ?_); go_simp
    refine (padd_any (cs := oneRow r (.slice ao o.ps.length cap)) (T := 214) b 5 (.slice ao o.ps.length cap) o.ps (b + 1) r.s D2 HBD2 rfl HOD2 (by omega) (by have := HUD2.out.size; have := HUD.out.size; omega) (by first | omega | simp)).mono ?_; rintro e w3 ⟨rfl, hu3, v', h3, h4, h5⟩
    have HU3 := Lib.hid hu3
    have H3 := Lib.hid h3
    have H4 := Lib.hid h4
    have H5 := Lib.hid h5
    have HR3 : Hid (w3.heap[rb]? = some (.cells (recRow r) 66 (0, 0))) := Lib.hid ((hu3.block rb (row_lt HRD2.out) (fun h => by rcases h with h | h; exact HN.out h.symm; have := (HOD2.out.lt rb h).2; first | (have := (HFRESH.out); exact this h) | skip)).trans HRD2.out)
    clear hu3 h3 h4 h5
    go_simp; refine hK.out _ _ HR3.out ?_; clear hK K
    refine seq_done ?_
    go_wp2_with fail
    go_end0
    refine ⟨rfl, ((HUD.out.mono fun _ _ h => h.elim).trans (HUD2.out.mono fun k _ h => .inl h)).trans' HU3.out (fun k hk h => h), v', H3.out, by rw [HP.out]; exact H4.out, fun k hk => ?_⟩
    rcases H5.out k hk with h | h
    · exact .inl h
    · exact .inr (by have := HUD2.out.size; have := HUD.out.size; omega)
  · have d1 : ((r.num : Int) != (o.r.num : Int)) = true := by rw [bne_iff_ne]; omega
    have HP : Hid ((oput o r).ps = [] ++ [r.s]) := Lib.hid (by show (if r.num = o.r.num then _ else _) = _; rw [if_neg hn]; rfl)
    have hb5 : D.cell? ⟨b, 5, none⟩ = some (.slice ao o.ps.length cap) := row_cell HBD.out (j := 5) rfl
    have hf5 : D.frozen? ⟨b, 5, none⟩ = false := row_thaw HBD.out 5
    have HU1 : Hid (Upd (fun k => k = b) D (D.setCell ⟨b, 5, none⟩ (.slice none 0 0))) := Lib.hid (Upd.set D ⟨b, 5, none⟩ _)
    have HB1 : Hid ((D.setCell ⟨b, 5, none⟩ (.slice none 0 0)).heap[b]? = some (.cells (oneRow o.r (.slice none 0 0)) 214 (0, 0))) := Lib.hid (row_set HBD.out 5 _)
    have HR1 : Hid ((D.setCell ⟨b, 5, none⟩ (.slice none 0 0)).heap[rb]? = some (.cells (recRow r) 66 (0, 0))) := Lib.hid ((HU1.out.block rb (row_lt HRD.out) (fun e => HN.out e.symm)).trans HRD.out)
    obtain ⟨E, hE⟩ : ∃ E, D.setCell ⟨b, 5, none⟩ (.slice none 0 0) = E := ⟨_, rfl⟩
    rw [hE] at HU1 HB1 HR1
    have HE := Lib.hid hE
    have HO1 : Hid (E.ownsRow (b + 1) 9 1 (.slice none 0 0) ([] : List (List UInt8)).length (([] : List (List UInt8)).map strV)) := Lib.hid (World.ownsRow_nil _ _ _ _)
    have HFRESH : Hid (¬ (Value.slice none 0 0).ownBlock = some rb) := Lib.hid (fun h => by simp [Value.ownBlock] at h)
    have HUE : Hid (Upd (fun k => k = b) w E) := Lib.hid ((HUD.out.mono fun _ _ h => h.elim).trans HU1.out)
    clear hn hE
    go_upto_region 3 with fail
    rw [HE.out]
    clear hb5 hf5
    have hr0 : E.cell? ⟨rb, 0, none⟩ = some (.int .i64 (r.num : Int)) := row_cell HR1.out (j := 0) rfl
    have hr1 : E.cell? ⟨rb, 1, none⟩ = some (.int .i64 (r.ty : Int)) := row_cell HR1.out (j := 1) rfl
    have hr2 : E.cell? ⟨rb, 2, none⟩ = some (.int .u64 (r.n : Int)) := row_cell HR1.out (j := 2) rfl
    have hr3 : E.cell? ⟨rb, 3, none⟩ = some (.string ⟨r.s.toArray⟩) := row_cell HR1.out (j := 3) rfl
    have hr4 : E.cell? ⟨rb, 4, none⟩ = some (.string ⟨r.raw.toArray⟩) := row_cell HR1.out (j := 4) rfl
    have hb0 : E.cell? ⟨b, 0, none⟩ = some (.int .i64 (o.r.num : Int)) := row_cell HB1.out (j := 0) rfl
    have hf0 : E.frozen? ⟨b, 0, none⟩ = false := row_thaw HB1.out 0
    have hb1 : E.cell? ⟨b, 1, none⟩ = some (.int .i64 (o.r.ty : Int)) := row_cell HB1.out (j := 1) rfl
    have hf1 : E.frozen? ⟨b, 1, none⟩ = false := row_thaw HB1.out 1
    have hb2 : E.cell? ⟨b, 2, none⟩ = some (.int .u64 (o.r.n : Int)) := row_cell HB1.out (j := 2) rfl
    have hf2 : E.frozen? ⟨b, 2, none⟩ = false := row_thaw HB1.out 2
    have hb3 : E.cell? ⟨b, 3, none⟩ = some (strV o.r.s) := row_cell HB1.out (j := 3) rfl
    have hf3 : E.frozen? ⟨b, 3, none⟩ = false := row_thaw HB1.out 3
    have hb4 : E.cell? ⟨b, 4, none⟩ = some (strV o.r.raw) := row_cell HB1.out (j := 4) rfl
    have hf4 : E.frozen? ⟨b, 4, none⟩ = false := row_thaw HB1.out 4
    go_wp2_with fail
    obtain ⟨W2, hW2⟩ : ∃ W2, (((((E.setCell ⟨b, 0, none⟩ (.int .i64 (r.num : Int))).setCell ⟨b, 1, none⟩ (.int .i64 (r.ty : Int))).setCell ⟨b, 2, none⟩ (.int .u64 (r.n : Int))).setCell ⟨b, 3, none⟩ (.string ⟨r.s.toArray⟩)).setCell ⟨b, 4, none⟩ (.string ⟨r.raw.toArray⟩)) = W2 := ⟨_, rfl⟩
    have HU2 : Hid (Upd (fun k => k = b) E W2) := Lib.hid (by rw [← hW2]; exact upd_set5 _ _ _ _ _ _ _)
    have HB2 : Hid (W2.heap[b]? = some (.cells (oneRow r (.slice none 0 0)) 214 (0, 0))) := Lib.hid (by rw [← hW2]; exact one_set5 HB1.out _ _ _ _ _)
    have HR2 : Hid (W2.heap[rb]? = some (.cells (recRow r) 66 (0, 0))) := Lib.hid ((HU2.out.block rb (row_lt HR1.out) (fun e => HN.out e.symm)).trans HR1.out)
    have HO2 : Hid (W2.ownsRow (b + 1) 9 1 (.slice none 0 0) ([] : List (List UInt8)).length (([] : List (List UInt8)).map strV)) := Lib.hid (HU2.out.own HO1.out (fun k hk e => by have e : k = b := e; have := (HO1.out.lt k hk).1; omega))
    rw [hW2]
    clear hW2 hr0 hr1 hr2 hr3 hr4 hb0 hb1 hb2 hb3 hb4 hf0 hf1 hf2 hf3 hf4
    obtain ⟨D2, hD2⟩ : ∃ D, W2.drew = D := ⟨_, rfl⟩
    have HUD2 : Hid (Upd (fun k => k = b) E D2) := Lib.hid (by rw [← hD2]; exact HU2.out.trans (Upd.drew _ W2))
    have HRD2 : Hid (D2.heap[rb]? = some (.cells (recRow r) 66 (0, 0))) := Lib.hid (by rw [← hD2]; exact HR2.out)
    have HBD2 : Hid (D2.heap[b]? = some (.cells (oneRow r (.slice none 0 0)) 214 (0, 0))) := Lib.hid (by rw [← hD2]; exact HB2.out)
    have HOD2 : Hid (D2.ownsRow (b + 1) 9 1 (.slice none 0 0) ([] : List (List UInt8)).length (([] : List (List UInt8)).map strV)) := Lib.hid (by rw [← hD2]; exact HO2.out)
    have hne : Nonempty {w' : World // w'.heap[rb]? = some (.cells (recRow r) 66 (0, 0))} := ⟨⟨_, HRD2.out⟩⟩
    have hx : ∀ t : {w' : World // w'.heap[rb]? = some (.cells (recRow r) 66 (0, 0))}, t.1.cell? ⟨rb, 3, none⟩ = some (strV r.s) := fun t => row_cell t.2 (j := 3) rfl
    refine wp_region_seq (S := fun w' => w'.heap[rb]? = some (.cells (recRow r) 66 (0, 0))) [(0, true), (1, true), (2, true), (3, true), (4, true), (5, false)] (by kernel_rfl) (by kernel_rfl) (by kernel_rfl) (by kernel_rfl) (by rw [hD2]; exact HRD2.out) ?_
    rw [hD2]
    clear hD2
    iterate 5 (refine seq_take _ rfl (fun K hK => ?_); go_simp; (first | refine hK _ ?_ | refine ⟨_, fun _ _ => rfl, hK _ ?_⟩); clear hK K)
    clear hx hne
    refine seq_come _ rfl (fun K hK => ?_); go_simp
    refine (padd_any (cs := oneRow r (.slice none 0 0)) (T := 214) b 5 (.slice none 0 0) ([] : List (List UInt8)) (b + 1) r.s D2 HBD2 rfl HOD2 (by omega) (by have := HUD2.out.size; have := HUE.out.size; omega) (by first | omega | simp)).mono ?_; rintro e w3 ⟨rfl, hu3, v', h3, h4, h5⟩
    have HU3 := Lib.hid hu3
    have H3 := Lib.hid h3
    have H4 := Lib.hid h4
    have H5 := Lib.hid h5
    have HR3 : Hid (w3.heap[rb]? = some (.cells (recRow r) 66 (0, 0))) := Lib.hid ((hu3.block rb (row_lt HRD2.out) (fun h => by rcases h with h | h; exact HN.out h.symm; have := (HOD2.out.lt rb h).2; first | (have := (HFRESH.out); exact this h) | skip)).trans HRD2.out)
    clear hu3 h3 h4 h5
    go_simp; refine hK.out _ _ HR3.out ?_; clear hK K
    refine seq_done ?_
    go_wp2_with fail
    go_end0
    refine ⟨rfl, ((HUE.out.mono fun k _ h => .inl h).trans (HUD2.out.mono fun k _ h => .inl h)).trans' HU3.out (fun k hk h => by rcases h with h | h; exact .inl h; simp [Value.ownBlock] at h), v', H3.out, by rw [HP.out]; exact H4.out, fun k hk => ?_⟩
    rcases H5.out k hk with h | h
    · simp [Value.ownBlock] at h
    · exact .inr (by have := HUD2.out.size; have := HUE.out.size; omega)
end Go.Proofs.YtandoppfbilhbaaGreatDoor
namespace Go.Proofs.YtandoppfbilhbaaGreatDoor
open Go.RowKit

def OneAt (b : Nat) (o : One) (P : Nat → Prop) (w : World) : Prop := ∃ v, w.heap[b]? = some (.cells (oneRow o.r v) 214 (0, 0)) ∧ w.ownsRow (b + 1) 9 1 v o.ps.length (o.ps.map strV) ∧ P = fun k => k = b ∨ v.ownBlock = some k
def oneTaker (b : Nat) : Taker One where
  rel := OneAt b
  lt := by
    rintro o P w ⟨v, h1, h2, rfl⟩ k (rfl | hk)
    · exact row_lt h1
    · exact (h2.lt k hk).2
  kept := by
    rintro o P w w' ⟨v, h1, h2, rfl⟩ hu
    exact ⟨v, (hu.block b (row_lt h1) (fun h => h (.inl rfl))).trans h1, hu.own h2 (fun k hk h => h (.inr hk)), rfl⟩
set_option maxRecDepth 1000000 in
set_option maxHeartbeats 8000000 in
theorem vtake_any (b : Nat) (r : Rec) (o : One) (P : Nat → Prop) (w : World) (hs : r.s.length ≤ 1000000) (hl : o.ps.length ≤ 999999) (h : Hid (OneAt b o P w)) :
    Calls Tryz.prog 150 #[recV r, .pointer (some ⟨b, 0, none⟩)] w (TakePost (oneTaker b) ostep o P r w) := by
  obtain ⟨v, h1, h2, rfl⟩ := h.out
  have H1 := Lib.hid h1
  have H2 := Lib.hid h2
  have hbw := row_lt h1
  clear h1 h2
  obtain ⟨rb, hrb⟩ : ∃ rb, w.heap.size = rb := ⟨_, rfl⟩
  obtain ⟨W0, hW0⟩ : ∃ W0, w.alloc (.cells #[.int .i64 (r.num : Int), .int .i64 (r.ty : Int), .int .u64 (r.n : Int), .string ⟨r.s.toArray⟩, .string ⟨r.raw.toArray⟩] 66) = W0 := ⟨_, rfl⟩
  have HU0 : Hid (Upd (fun _ => False) w W0) := Lib.hid (by rw [← hW0]; exact Upd.alloc _ _ _)
  have HR0 : Hid (W0.heap[rb]? = some (.cells #[.int .i64 (r.num : Int), .int .i64 (r.ty : Int), .int .u64 (r.n : Int), .string ⟨r.s.toArray⟩, .string ⟨r.raw.toArray⟩] 66 (0, 0))) := Lib.hid (by rw [← hW0, ← hrb]; exact heap_alloc_new w _)
  have HW0 := Lib.hid hW0
  have HRB := Lib.hid hrb
  have HT := Lib.hid (otake_any b o v r W0 (Lib.hid ((HU0.out.block b hbw (fun h => h)).trans H1.out)) (Lib.hid (HU0.out.own H2.out (fun _ _ h => h))) (by omega) (by have := HU0.out.size; omega))
  obtain ⟨X, hX⟩ : ∃ X : ByteArray, (⟨r.s.toArray⟩ : ByteArray) = X := ⟨_, rfl⟩
  have hXs : X.size ≤ 1000000 := by rw [← hX]; simp [ByteArray.size]; omega
  have HXD : Hid (X.data.toList = r.s) := Lib.hid (by rw [← hX])
  have HFR : Hid (¬ v.ownBlock = some rb) := Lib.hid (fun h => by have := (H2.out.lt rb h).2; omega)
  have HNB : Hid (rb ≠ b) := Lib.hid (by omega)
  have hr0 : W0.cell? ⟨rb, 0, none⟩ = some (.int .i64 (r.num : Int)) := row_cell HR0.out (j := 0) rfl
  have hr1 : W0.cell? ⟨rb, 1, none⟩ = some (.int .i64 (r.ty : Int)) := row_cell HR0.out (j := 1) rfl
  have hr2 : W0.cell? ⟨rb, 2, none⟩ = some (.int .u64 (r.n : Int)) := row_cell HR0.out (j := 2) rfl
  have hr3 : W0.cell? ⟨rb, 3, none⟩ = some (.string X) := by rw [← hX]; exact row_cell HR0.out (j := 3) rfl
  have hr4 : W0.cell? ⟨rb, 4, none⟩ = some (.string ⟨r.raw.toArray⟩) := row_cell HR0.out (j := 4) rfl
  unfold recV at HT ⊢
  rw [hX] at HT HR0 HW0 ⊢
  clear hW0 hrb hX
  go_enter Tryz.func150, Tryz.ntmps150
  go_wp2_with fail
  rw [HW0.out, HRB.out]
  go_wp2_with fail
  refine HT.out.mono ?_; intro e w1 hpost
  obtain ⟨rfl, hu1, v', h1, h2, h3⟩ := hpost
  have HU1 : Hid (Upd (fun k => k = b ∨ v.ownBlock = some k) w w1) := Lib.hid ((HU0.out.mono fun _ _ h => h.elim).trans hu1)
  have HR1 := Lib.hid ((hu1.block rb (row_lt HR0.out) (fun h => by rcases h with h | h; exact HNB.out h; exact HFR.out h)).trans HR0.out)
  have HA : Hid (OneAt b (oput o r) (fun k => k = b ∨ v'.ownBlock = some k) w1) := Lib.hid ⟨v', h1, h2, rfl⟩
  have H3 : Hid (∀ k, (k = b ∨ v'.ownBlock = some k) → (k = b ∨ v.ownBlock = some k) ∨ w.heap.size ≤ k) := Lib.hid (fun k hk => by
    rcases hk with hk | hk
    · exact .inl (.inl hk)
    · rcases h3 k hk with h | h
      · exact .inl (.inr h)
      · exact .inr (Nat.le_trans HU0.out.size h))
  have hr0' : w1.cell? ⟨rb, 0, none⟩ = some (.int .i64 (r.num : Int)) := row_cell HR1.out (j := 0) rfl
  have hr3' : w1.cell? ⟨rb, 3, none⟩ = some (.string X) := row_cell HR1.out (j := 3) rfl
  clear hu1 h1 h2 h3 hr0 hr1 hr2 hr3 hr4 HT
  by_cases hn : r.num = 1
  · have d1 : ((r.num : Int) != 1) = false := by rw [hn]; rfl
    have HCK := Lib.hid (check_any X w1 (by omega))
    cases hv : uvalid r.s with
    | true =>
      have HS : Hid (ostep o r = .ok (oput o r)) := Lib.hid (by unfold ostep; rw [if_neg (by rw [hv]; simp)])
      have HV := Lib.hid (uvalid_ok hv)
      clear hn hv
      go_wp2_with fail
      refine HCK.out.mono ?_; intro e w2 hp
      unfold UChk at hp
      rw [HXD.out, if_pos HV.out] at hp
      obtain ⟨rfl, rfl⟩ := hp
      go_wp2_with fail
      refine (in_nil _ _).mono ?_; rintro e w' ⟨rfl, rfl⟩
      go_wp2_with fail
      go_ret
      refine ⟨HU1.out, ?_⟩
      rw [HS.out]
      exact ⟨rfl, _, HA.out, H3.out⟩
    | false =>
      have HS : Hid (ostep o r = .error 5) := Lib.hid (by unfold ostep; rw [if_pos ⟨hn, hv⟩])
      have HV := Lib.hid (uvalid_bad hv)
      clear hn hv
      go_wp2_with fail
      refine HCK.out.mono ?_; intro e w2 hp
      unfold UChk at hp
      rw [HXD.out, if_neg (fun h => by have := HV.out; omega)] at hp
      obtain ⟨y, rfl, hE⟩ := hp
      have hec : EC w2 y 5 := ⟨_, hE.isErr⟩
      obtain ⟨T', z, rfl⟩ := hec.iface
      have HEC := Lib.hid hec
      have HB2 := Lib.hid hE.2
      clear hE hec
      go_wp2_with fail
      refine (in_any _ _ _ _).mono ?_; rintro e w' ⟨rfl, rfl⟩
      go_wp2_with fail
      go_ret
      refine ⟨(HU1.out.trans (Upd.of_new HB2.out)).trans (Upd.alloc _ _ _), ?_⟩
      rw [HS.out]
      exact ⟨_, rfl, ec_field HEC.out⟩
  · have d1 : ((r.num : Int) != 1) = true := by rw [bne_iff_ne]; omega
    have HS : Hid (ostep o r = .ok (oput o r)) := Lib.hid (by unfold ostep; rw [if_neg (fun h => hn h.1)])
    clear hn
    go_wp2_with fail
    go_ret
    refine ⟨HU1.out, ?_⟩
    rw [HS.out]
    exact ⟨rfl, _, HA.out, H3.out⟩
end Go.Proofs.YtandoppfbilhbaaGreatDoor

