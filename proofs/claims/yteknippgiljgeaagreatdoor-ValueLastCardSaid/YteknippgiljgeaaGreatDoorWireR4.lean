/-
  wire.Next: the record that lies at a place.
-/
/-
  wire.Next: a body that is none.
-/
/-
  wire.Next: a body.
-/
/-
  wire.Next: the record that lies at a place.
-/
import Derived.Test.YteknippgiljgeaaGreatDoorWireR3
namespace Go.Proofs.YteknippgiljgeaaGreatDoor
open Go.RowKit

def recV (r : Rec) : Value := .agg #[.int .i64 (r.num : Int), .int .i64 (r.ty : Int), .int .u64 (r.n : Int), .string ⟨r.s.toArray⟩, .string ⟨r.raw.toArray⟩]
def NextPost (s : ByteArray) (p : Nat) (d : Int) (w : World) (e : Ending) (w' : World) : Prop := match wnx (s.data.toList.drop p) d with
  | .error c => ∃ v, e = .returned (.tuple #[rec0, .int .i64 0, v]) ∧ ∃ q : Nat, q ≤ s.size ∧ ErrNew w (q : Int) (c : Int) v w'
  | .ok (r, j) => e = .returned (.tuple #[recV r, .int .i64 ((p + j : Nat) : Int), .nilIface]) ∧ Below w.heap.size w w'
theorem next_no {s : ByteArray} {p c : Nat} {d : Int} {w w' : World} {v : Value} (h : wnx (s.data.toList.drop p) d = .error c) (q : Nat) (hq : q ≤ s.size) (hE : ErrNew w (q : Int) (c : Int) v w') : NextPost s p d w (.returned (.tuple #[rec0, .int .i64 0, v])) w' := by
  unfold NextPost; rw [h]; exact ⟨v, rfl, q, hq, hE⟩
theorem next_ok {s : ByteArray} {p j : Nat} {d : Int} {r : Rec} {w w' : World} (h : wnx (s.data.toList.drop p) d = .ok (r, j)) {V : Value} {Q : Int} (hV : V = recV r) (hQ : Q = ((p + j : Nat) : Int)) (hB : Below w.heap.size w w') :
    NextPost s p d w (.returned (.tuple #[V, .int .i64 Q, .nilIface])) w' := by
  subst hV; subst hQ; unfold NextPost; rw [h]; exact ⟨rfl, hB⟩
theorem wnx_no {l : List UInt8} {d : Int} {c : Nat} (h : whd l = .error c) : wnx l d = .error c := by unfold wnx; rw [h]
theorem wnx_end {l : List UInt8} {d : Int} {num j : Nat} (h : whd l = .ok (num, 4, j)) : wnx l d = .error 3 := by unfold wnx; rw [h]; dsimp only; rw [if_pos rfl]
theorem wnx_group {l : List UInt8} {d : Int} {num j : Nat} (h : whd l = .ok (num, 3, j)) : wnx l d = match wgroup (l.drop j) [num] d with
    | .error c => .error c
    | .ok k => .ok (⟨num, 3, 0, [], l.take (j + k)⟩, j + k) := by unfold wnx; rw [h]; dsimp only; rw [if_neg (by decide), if_pos rfl]; cases wgroup (l.drop j) [num] d <;> rfl
theorem wnx_body {l : List UInt8} {d : Int} {num ty j : Nat} (h : whd l = .ok (num, ty, j)) (h3 : ty ≠ 3) (h4 : ty ≠ 4) : wnx l d = match wbd (l.drop j) ty with
    | .error c => .error c
    | .ok (n, s, k) => .ok (⟨num, ty, n, s, l.take (j + k)⟩, j + k) := by unfold wnx; rw [h]; dsimp only; rw [if_neg h4, if_neg h3]; cases wbd (l.drop j) ty <;> rfl
/-- a record's row -/
structure RecRow (w : World) (b : Nat) (cs : Array Value) : Prop where
  row : w.heap[b]? = some (.cells cs 67 (0, 0))
theorem RecRow.below {w w' : World} {b : Nat} {cs : Array Value} (h : RecRow w b cs) (hb : Below w.heap.size w w') : RecRow w' b cs := ⟨(hb.block b (row_lt h.row)).trans h.row⟩
theorem RecRow.set {w : World} {b : Nat} {cs : Array Value} (h : RecRow w b cs) (j : Nat) (u : Value) : RecRow (w.setCell ⟨b, j, none⟩ u) b (cs.setIfInBounds j u) := ⟨row_set h.row j u⟩
theorem RecRow.other {w : World} {b b' : Nat} {cs : Array Value} (h : RecRow w b cs) (hne : b ≠ b') (j : Nat) (u : Value) : RecRow (w.setCell ⟨b', j, none⟩ u) b cs := ⟨(Below.heap_setCell w _ _ _ hne).trans h.row⟩
theorem RecRow.new (w : World) (cs : Array Value) : RecRow (w.alloc (.cells cs 67)) w.heap.size cs := ⟨heap_alloc_new w _⟩
theorem RecRow.sets {w : World} {b : Nat} {c0 c1 c2 c3 c4 : Value} (h : RecRow w b #[c0, c1, c2, c3, c4]) (v0 v1 v2 v3 v4 : Value) :
    RecRow (((((w.setCell ⟨b, 0, none⟩ v0).setCell ⟨b, 1, none⟩ v1).setCell ⟨b, 2, none⟩ v2).setCell ⟨b, 3, none⟩ v3).setCell ⟨b, 4, none⟩ v4) b #[v0, v1, v2, v3, v4] := -- sets_row
  ((((h.set 0 v0).set 1 v1).set 2 v2).set 3 v3).set 4 v4
theorem upd_sets (w : World) (b : Nat) (v0 v1 v2 v3 v4 : Value) : Upd (fun k => k = b) w (((((w.setCell ⟨b, 0, none⟩ v0).setCell ⟨b, 1, none⟩ v1).setCell ⟨b, 2, none⟩ v2).setCell ⟨b, 3, none⟩ v3).setCell ⟨b, 4, none⟩ v4) :=
  ((((Upd.set w ⟨b, 0, none⟩ v0).trans (Upd.set _ ⟨b, 1, none⟩ v1)).trans (Upd.set _ ⟨b, 2, none⟩ v2)).trans (Upd.set _ ⟨b, 3, none⟩ v3)).trans (Upd.set _ ⟨b, 4, none⟩ v4)
theorem below_sets {w w1 : World} (h : Below w.heap.size w w1) (v0 v1 v2 v3 v4 : Value) : Below w.heap.size w (((((w1.setCell ⟨w.heap.size, 0, none⟩ v0).setCell ⟨w.heap.size, 1, none⟩ v1).setCell ⟨w.heap.size, 2, none⟩ v2).setCell ⟨w.heap.size, 3, none⟩ v3).setCell ⟨w.heap.size, 4, none⟩ v4) :=
  h.trans ((upd_sets w1 w.heap.size v0 v1 v2 v3 v4).below h.size (fun k _ hk => by subst hk; exact Nat.le_refl _))
theorem below_set {w w1 : World} (h : Below w.heap.size w w1) {b : Nat} (hb : w.heap.size ≤ b) (j : Nat) (u : Value) : Below w.heap.size w (w1.setCell ⟨b, j, none⟩ u) :=
  h.trans ((Upd.set w1 ⟨b, j, none⟩ u).below h.size (fun k _ hk => by subst hk; exact hb))
theorem ErrNew.upd {w0 w w1 w' : World} {n c : Int} {v : Value} {S : Nat → Prop} (h : ErrNew w n c v w1) (hU : Upd S w1 w') (hB : Below w0.heap.size w0 w) (hS : ∀ k, S k → w0.heap.size ≤ k ∧ k < w.heap.size) : ErrNew w0 n c v w' := by
  obtain ⟨⟨a, ha, hv, hh⟩, hb⟩ := h
  refine ⟨⟨a, Nat.le_trans hB.size ha, hv, (hU.block a (row_lt hh) (fun hk => by have := (hS a hk).2; omega)).trans hh⟩, ?_⟩
  exact (hB.trans (hb.mono hB.size)).trans (hU.below (Nat.le_trans hB.size hb.size) (fun k _ hk => (hS k hk).1))
set_option maxRecDepth 100000 in
set_option maxHeartbeats 8000000 in
theorem next_headno (s : ByteArray) (p c : Nat) (d : Int) (w : World) (hp : p ≤ s.size) (hs : s.size ≤ 1000000000) (hh : whd (s.data.toList.drop p) = .error c) :
    Calls Tryz.prog 107 #[.string s, .int .i64 (p : Int), .int .i64 d] w (NextPost s p d w) := by
  have HF := Lib.hid (wnx_no (d := d) hh)
  have HH := Lib.hid hh
  clear hh
  go_enter Tryz.func107, Tryz.ntmps107
  go_wp2_with fail
  refine (head_any s p _ hp hs).mono ?_; intro e w1 hpost
  unfold HeadPost at hpost
  rw [HH.out] at hpost
  obtain ⟨v, rfl, hE⟩ := hpost
  obtain ⟨T, y, rfl⟩ := hE.iface
  have HR := Lib.hid ((RecRow.new w #[.int .i64 0, .int .i64 0, .int .u64 0, .string ⟨#[]⟩, .string ⟨#[]⟩]).below hE.2)
  have HE := Lib.hid hE
  clear hE
  have rq0 : w1.cell? ⟨w.heap.size, 0, none⟩ = some (.int .i64 0) := row_cell HR.out.row (j := 0) rfl
  have rz0 : w1.frozen? ⟨w.heap.size, 0, none⟩ = false := row_thaw HR.out.row 0
  have rq1 : w1.cell? ⟨w.heap.size, 1, none⟩ = some (.int .i64 0) := row_cell HR.out.row (j := 1) rfl
  have rz1 : w1.frozen? ⟨w.heap.size, 1, none⟩ = false := row_thaw HR.out.row 1
  have rq2 : w1.cell? ⟨w.heap.size, 2, none⟩ = some (.int .u64 0) := row_cell HR.out.row (j := 2) rfl
  have rz2 : w1.frozen? ⟨w.heap.size, 2, none⟩ = false := row_thaw HR.out.row 2
  have rq3 : w1.cell? ⟨w.heap.size, 3, none⟩ = some (.string ⟨#[]⟩) := row_cell HR.out.row (j := 3) rfl
  have rz3 : w1.frozen? ⟨w.heap.size, 3, none⟩ = false := row_thaw HR.out.row 3
  have rq4 : w1.cell? ⟨w.heap.size, 4, none⟩ = some (.string ⟨#[]⟩) := row_cell HR.out.row (j := 4) rfl
  have rz4 : w1.frozen? ⟨w.heap.size, 4, none⟩ = false := row_thaw HR.out.row 4
  have rlt : w.heap.size < w1.heap.size := row_lt HR.out.row
  unfold rec0
  go_wp2_with fail
  refine body_cell3 rfl rfl (load_rec ((HR.out.sets _ _ _ _ _).below (below_new _ _)).row rfl) rfl ?_
  exact next_no HF.out p hp (HE.out.upd ((upd_sets _ _ _ _ _ _ _).trans (Upd.alloc _ _ _)) (below_new _ _) (fun k hk => by subst hk; simp))
set_option maxRecDepth 100000 in
set_option maxHeartbeats 8000000 in
theorem next_end (s : ByteArray) (p num j : Nat) (d : Int) (w : World) (hp : p ≤ s.size) (hs : s.size ≤ 1000000000) (hh : whd (s.data.toList.drop p) = .ok (num, 4, j)) :
    Calls Tryz.prog 107 #[.string s, .int .i64 (p : Int), .int .i64 d] w (NextPost s p d w) := by
  have HF := Lib.hid (wnx_end (d := d) hh)
  have HH := Lib.hid hh
  clear hh
  go_enter Tryz.func107, Tryz.ntmps107
  go_wp2_with fail
  refine (head_any s p _ hp hs).mono ?_; intro e w1 hpost
  unfold HeadPost at hpost
  rw [HH.out] at hpost
  obtain ⟨rfl, hb1⟩ := hpost
  have HR := Lib.hid ((RecRow.new w #[.int .i64 0, .int .i64 0, .int .u64 0, .string ⟨#[]⟩, .string ⟨#[]⟩]).below hb1)
  have HB1 := Lib.hid hb1
  clear hb1
  have rq0 : w1.cell? ⟨w.heap.size, 0, none⟩ = some (.int .i64 0) := row_cell HR.out.row (j := 0) rfl
  have rz0 : w1.frozen? ⟨w.heap.size, 0, none⟩ = false := row_thaw HR.out.row 0
  have rq1 : w1.cell? ⟨w.heap.size, 1, none⟩ = some (.int .i64 0) := row_cell HR.out.row (j := 1) rfl
  have rz1 : w1.frozen? ⟨w.heap.size, 1, none⟩ = false := row_thaw HR.out.row 1
  have rq2 : w1.cell? ⟨w.heap.size, 2, none⟩ = some (.int .u64 0) := row_cell HR.out.row (j := 2) rfl
  have rz2 : w1.frozen? ⟨w.heap.size, 2, none⟩ = false := row_thaw HR.out.row 2
  have rq3 : w1.cell? ⟨w.heap.size, 3, none⟩ = some (.string ⟨#[]⟩) := row_cell HR.out.row (j := 3) rfl
  have rz3 : w1.frozen? ⟨w.heap.size, 3, none⟩ = false := row_thaw HR.out.row 3
  have rq4 : w1.cell? ⟨w.heap.size, 4, none⟩ = some (.string ⟨#[]⟩) := row_cell HR.out.row (j := 4) rfl
  have rz4 : w1.frozen? ⟨w.heap.size, 4, none⟩ = false := row_thaw HR.out.row 4
  have rlt : w.heap.size < w1.heap.size := row_lt HR.out.row
  go_wp2_with fail
  refine (at_any _ _ _ _).mono ?_; rintro e w' ⟨rfl, rfl⟩
  go_wp2_with fail
  refine body_cell3 rfl rfl (load_rec (((HR.out.sets _ _ _ _ _).below (below_new _ _)).below (below_new _ _)).row rfl) rfl ?_
  exact next_no HF.out p hp (errNew_at' (below_step (below_sets (below_step (below_new _ _) HB1.out) _ _ _ _ _) (below_new _ _)) (by simp))
set_option maxRecDepth 100000 in
set_option maxHeartbeats 8000000 in
theorem next_groupno (s : ByteArray) (p num j c : Nat) (d : Int) (w : World) (hp : p ≤ s.size) (hs : s.size ≤ 1000000000) (hh : whd (s.data.toList.drop p) = .ok (num, 3, j)) (hpj : p + j ≤ s.size)
    (hg : wgroup (s.data.toList.drop (p + j)) [num] d = .error c) : Calls Tryz.prog 107 #[.string s, .int .i64 (p : Int), .int .i64 d] w (NextPost s p d w) := by
  have HF : Hid (wnx (s.data.toList.drop p) d = .error c) := Lib.hid (by rw [wnx_group hh, List.drop_drop, hg])
  have HH := Lib.hid hh
  have HG := Lib.hid hg
  clear hh hg
  go_enter Tryz.func107, Tryz.ntmps107
  go_wp2_with fail
  refine (head_any s p _ hp hs).mono ?_; intro e w1 hpost
  unfold HeadPost at hpost
  rw [HH.out] at hpost
  obtain ⟨rfl, hb1⟩ := hpost
  have HR1 := Lib.hid ((RecRow.new w #[.int .i64 0, .int .i64 0, .int .u64 0, .string ⟨#[]⟩, .string ⟨#[]⟩]).below hb1)
  have HB1 := Lib.hid hb1
  clear hb1
  go_wp2_with fail
  refine (group_any s (p + j) num d _ hpj hs).mono ?_; intro e w6 hpost
  unfold GroupPost at hpost
  rw [HG.out] at hpost
  obtain ⟨v, rfl, q, hq, hE⟩ := hpost
  obtain ⟨T, y, rfl⟩ := hE.iface
  have HR := Lib.hid ((HR1.out.below (below_new _ _)).below hE.2)
  have HE := Lib.hid hE
  have hw1 : w.heap.size < w1.heap.size := row_lt HR1.out.row
  clear hE
  have rq0 : w6.cell? ⟨w.heap.size, 0, none⟩ = some (.int .i64 0) := row_cell HR.out.row (j := 0) rfl
  have rz0 : w6.frozen? ⟨w.heap.size, 0, none⟩ = false := row_thaw HR.out.row 0
  have rq1 : w6.cell? ⟨w.heap.size, 1, none⟩ = some (.int .i64 0) := row_cell HR.out.row (j := 1) rfl
  have rz1 : w6.frozen? ⟨w.heap.size, 1, none⟩ = false := row_thaw HR.out.row 1
  have rq2 : w6.cell? ⟨w.heap.size, 2, none⟩ = some (.int .u64 0) := row_cell HR.out.row (j := 2) rfl
  have rz2 : w6.frozen? ⟨w.heap.size, 2, none⟩ = false := row_thaw HR.out.row 2
  have rq3 : w6.cell? ⟨w.heap.size, 3, none⟩ = some (.string ⟨#[]⟩) := row_cell HR.out.row (j := 3) rfl
  have rz3 : w6.frozen? ⟨w.heap.size, 3, none⟩ = false := row_thaw HR.out.row 3
  have rq4 : w6.cell? ⟨w.heap.size, 4, none⟩ = some (.string ⟨#[]⟩) := row_cell HR.out.row (j := 4) rfl
  have rz4 : w6.frozen? ⟨w.heap.size, 4, none⟩ = false := row_thaw HR.out.row 4
  have rlt : w.heap.size < w6.heap.size := row_lt HR.out.row
  go_wp2_with fail
  refine body_cell3 rfl rfl (load_rec (HR.out.sets _ _ _ _ _).row rfl) rfl ?_
  exact next_no HF.out q hq (HE.out.upd (upd_sets _ _ _ _ _ _ _) (below_step (below_step (below_new _ _) HB1.out) (below_new _ _)) (fun k hk => by subst hk; simp; omega))
set_option maxRecDepth 100000 in
set_option maxHeartbeats 8000000 in
theorem next_group (s : ByteArray) (p num j k : Nat) (d : Int) (w : World) (hp : p ≤ s.size) (hs : s.size ≤ 1000000000) (hh : whd (s.data.toList.drop p) = .ok (num, 3, j)) (hpj : p + j ≤ s.size)
    (hg : wgroup (s.data.toList.drop (p + j)) [num] d = .ok k) (hk : p + j + k ≤ s.size) : Calls Tryz.prog 107 #[.string s, .int .i64 (p : Int), .int .i64 d] w (NextPost s p d w) := by
  have HF : Hid (wnx (s.data.toList.drop p) d = .ok (⟨num, 3, 0, [], (s.data.toList.drop p).take (j + k)⟩, j + k)) := Lib.hid (by rw [wnx_group hh, List.drop_drop, hg])
  have HH := Lib.hid hh
  have HG := Lib.hid hg
  clear hh hg
  go_enter Tryz.func107, Tryz.ntmps107
  go_wp2_with fail
  refine (head_any s p _ hp hs).mono ?_; intro e w1 hpost
  unfold HeadPost at hpost
  rw [HH.out] at hpost
  obtain ⟨rfl, hb1⟩ := hpost
  have HR1 := Lib.hid ((RecRow.new w #[.int .i64 0, .int .i64 0, .int .u64 0, .string ⟨#[]⟩, .string ⟨#[]⟩]).below hb1)
  have HB1 := Lib.hid hb1
  clear hb1
  go_wp2_with fail
  refine (group_any s (p + j) num d _ hpj hs).mono ?_; intro e w6 hpost
  unfold GroupPost at hpost
  rw [HG.out] at hpost
  obtain ⟨rfl, hb6⟩ := hpost
  have HR := Lib.hid ((HR1.out.below (below_new _ _)).below hb6)
  have HR9 := Lib.hid ((RecRow.new w1 #[.int .i64 (num : Int), .int .i64 3, .int .u64 0, .string ⟨#[]⟩, .string ⟨#[]⟩]).below hb6)
  have HB6 := Lib.hid (below_step (below_step (below_step (below_new _ _) HB1.out) (below_new _ _)) hb6)
  have hw1 : w.heap.size < w1.heap.size := row_lt HR1.out.row
  have hne1 : w.heap.size ≠ w1.heap.size := by omega
  have hne2 : w1.heap.size ≠ w.heap.size := by omega
  clear hb6
  have rq0 : w6.cell? ⟨w.heap.size, 0, none⟩ = some (.int .i64 0) := row_cell HR.out.row (j := 0) rfl
  have rz0 : w6.frozen? ⟨w.heap.size, 0, none⟩ = false := row_thaw HR.out.row 0
  have rq1 : w6.cell? ⟨w.heap.size, 1, none⟩ = some (.int .i64 0) := row_cell HR.out.row (j := 1) rfl
  have rz1 : w6.frozen? ⟨w.heap.size, 1, none⟩ = false := row_thaw HR.out.row 1
  have rq2 : w6.cell? ⟨w.heap.size, 2, none⟩ = some (.int .u64 0) := row_cell HR.out.row (j := 2) rfl
  have rz2 : w6.frozen? ⟨w.heap.size, 2, none⟩ = false := row_thaw HR.out.row 2
  have rq3 : w6.cell? ⟨w.heap.size, 3, none⟩ = some (.string ⟨#[]⟩) := row_cell HR.out.row (j := 3) rfl
  have rz3 : w6.frozen? ⟨w.heap.size, 3, none⟩ = false := row_thaw HR.out.row 3
  have rq4 : w6.cell? ⟨w.heap.size, 4, none⟩ = some (.string ⟨#[]⟩) := row_cell HR.out.row (j := 4) rfl
  have rz4 : w6.frozen? ⟨w.heap.size, 4, none⟩ = false := row_thaw HR.out.row 4
  have rlt : w.heap.size < w6.heap.size := row_lt HR.out.row
  have sq0 : w6.cell? ⟨w1.heap.size, 0, none⟩ = some (.int .i64 (num : Int)) := row_cell HR9.out.row (j := 0) rfl
  have sz0 : w6.frozen? ⟨w1.heap.size, 0, none⟩ = false := row_thaw HR9.out.row 0
  have sq1 : w6.cell? ⟨w1.heap.size, 1, none⟩ = some (.int .i64 3) := row_cell HR9.out.row (j := 1) rfl
  have sz1 : w6.frozen? ⟨w1.heap.size, 1, none⟩ = false := row_thaw HR9.out.row 1
  have sq2 : w6.cell? ⟨w1.heap.size, 2, none⟩ = some (.int .u64 0) := row_cell HR9.out.row (j := 2) rfl
  have sz2 : w6.frozen? ⟨w1.heap.size, 2, none⟩ = false := row_thaw HR9.out.row 2
  have sq3 : w6.cell? ⟨w1.heap.size, 3, none⟩ = some (.string ⟨#[]⟩) := row_cell HR9.out.row (j := 3) rfl
  have sz3 : w6.frozen? ⟨w1.heap.size, 3, none⟩ = false := row_thaw HR9.out.row 3
  have sq4 : w6.cell? ⟨w1.heap.size, 4, none⟩ = some (.string ⟨#[]⟩) := row_cell HR9.out.row (j := 4) rfl
  have sz4 : w6.frozen? ⟨w1.heap.size, 4, none⟩ = false := row_thaw HR9.out.row 4
  have slt : w1.heap.size < w6.heap.size := row_lt HR9.out.row
  go_wp2_with fail
  refine body_cell3 rfl rfl (load_rec ((HR.out.other hne1 _ _).sets _ _ _ _ _).row rfl) rfl ?_
  exact next_ok HF.out (by rw [ext_str, show p + j + k - p = j + k by omega]; rfl) (by simp; omega) (below_sets (below_set HB6.out (by omega) _ _) _ _ _ _ _)
end Go.Proofs.YteknippgiljgeaaGreatDoor
namespace Go.Proofs.YteknippgiljgeaaGreatDoor
open Go.RowKit

theorem upd_seven (w : World) (b b9 : Nat) (x2 x3 v0 v1 v2 v3 v4 : Value) : Upd (fun k => k = b ∨ k = b9) w
    (((((((w.setCell ⟨b9, 2, none⟩ x2).setCell ⟨b9, 3, none⟩ x3).setCell ⟨b, 0, none⟩ v0).setCell ⟨b, 1, none⟩ v1).setCell ⟨b, 2, none⟩ v2).setCell ⟨b, 3, none⟩ v3).setCell ⟨b, 4, none⟩ v4) :=
  (((Upd.set w ⟨b9, 2, none⟩ x2).mono (fun _ _ hk => .inr hk)).trans ((Upd.set _ ⟨b9, 3, none⟩ x3).mono (fun _ _ hk => .inr hk))).trans ((upd_sets _ b v0 v1 v2 v3 v4).mono (fun _ _ hk => .inl hk))
set_option maxRecDepth 100000 in
set_option maxHeartbeats 8000000 in
theorem next_bodyno (s : ByteArray) (p num ty j c : Nat) (d : Int) (w : World) (hp : p ≤ s.size) (hs : s.size ≤ 1000000000) (hh : whd (s.data.toList.drop p) = .ok (num, ty, j)) (h3 : ty ≠ 3) (h4 : ty ≠ 4) (hpj : p + j ≤ s.size)
    (hg : wbd (s.data.toList.drop (p + j)) ty = .error c) : Calls Tryz.prog 107 #[.string s, .int .i64 (p : Int), .int .i64 d] w (NextPost s p d w) := by
  have HF : Hid (wnx (s.data.toList.drop p) d = .error c) := Lib.hid (by rw [wnx_body hh h3 h4, List.drop_drop, hg])
  have hbdc := wbd_cases hh h3 h4
  have hT3 : ((ty : Int) == 3) = false := by simp; omega
  have hT4 : ((ty : Int) == 4) = false := by simp; omega
  have HH := Lib.hid hh
  have HG := Lib.hid hg
  clear hh hg h3 h4
  go_enter Tryz.func107, Tryz.ntmps107
  go_wp2_with fail
  refine (head_any s p _ hp hs).mono ?_; intro e w1 hpost
  unfold HeadPost at hpost
  rw [HH.out] at hpost
  obtain ⟨rfl, hb1⟩ := hpost
  have HR1 := Lib.hid ((RecRow.new w #[.int .i64 0, .int .i64 0, .int .u64 0, .string ⟨#[]⟩, .string ⟨#[]⟩]).below hb1)
  have HB1 := Lib.hid hb1
  clear hb1
  go_wp2_with fail
  refine (body_any s (p + j) ty _ hpj hs hbdc).mono ?_; intro e w6 hpost
  clear hbdc hT3 hT4
  unfold BodyPost at hpost
  rw [HG.out] at hpost
  obtain ⟨v, rfl, q, hq, hE⟩ := hpost
  obtain ⟨T, y, rfl⟩ := hE.iface
  have HR := Lib.hid ((HR1.out.below (below_new _ _)).below hE.2)
  have HR9 := Lib.hid ((RecRow.new w1 #[.int .i64 (num : Int), .int .i64 (ty : Int), .int .u64 0, .string ⟨#[]⟩, .string ⟨#[]⟩]).below hE.2)
  have HE := Lib.hid hE
  clear hE
  have hw1 : w.heap.size < w1.heap.size := row_lt HR1.out.row
  have hne1 : w.heap.size ≠ w1.heap.size := by omega
  have hne2 : w1.heap.size ≠ w.heap.size := by omega
  have rq0 : w6.cell? ⟨w.heap.size, 0, none⟩ = some (.int .i64 0) := row_cell HR.out.row (j := 0) rfl
  have rz0 : w6.frozen? ⟨w.heap.size, 0, none⟩ = false := row_thaw HR.out.row 0
  have rq1 : w6.cell? ⟨w.heap.size, 1, none⟩ = some (.int .i64 0) := row_cell HR.out.row (j := 1) rfl
  have rz1 : w6.frozen? ⟨w.heap.size, 1, none⟩ = false := row_thaw HR.out.row 1
  have rq2 : w6.cell? ⟨w.heap.size, 2, none⟩ = some (.int .u64 0) := row_cell HR.out.row (j := 2) rfl
  have rz2 : w6.frozen? ⟨w.heap.size, 2, none⟩ = false := row_thaw HR.out.row 2
  have rq3 : w6.cell? ⟨w.heap.size, 3, none⟩ = some (.string ⟨#[]⟩) := row_cell HR.out.row (j := 3) rfl
  have rz3 : w6.frozen? ⟨w.heap.size, 3, none⟩ = false := row_thaw HR.out.row 3
  have rq4 : w6.cell? ⟨w.heap.size, 4, none⟩ = some (.string ⟨#[]⟩) := row_cell HR.out.row (j := 4) rfl
  have rz4 : w6.frozen? ⟨w.heap.size, 4, none⟩ = false := row_thaw HR.out.row 4
  have rlt : w.heap.size < w6.heap.size := row_lt HR.out.row
  have sq0 : w6.cell? ⟨w1.heap.size, 0, none⟩ = some (.int .i64 (num : Int)) := row_cell HR9.out.row (j := 0) rfl
  have sz0 : w6.frozen? ⟨w1.heap.size, 0, none⟩ = false := row_thaw HR9.out.row 0
  have sq1 : w6.cell? ⟨w1.heap.size, 1, none⟩ = some (.int .i64 (ty : Int)) := row_cell HR9.out.row (j := 1) rfl
  have sz1 : w6.frozen? ⟨w1.heap.size, 1, none⟩ = false := row_thaw HR9.out.row 1
  have sq2 : w6.cell? ⟨w1.heap.size, 2, none⟩ = some (.int .u64 0) := row_cell HR9.out.row (j := 2) rfl
  have sz2 : w6.frozen? ⟨w1.heap.size, 2, none⟩ = false := row_thaw HR9.out.row 2
  have sq3 : w6.cell? ⟨w1.heap.size, 3, none⟩ = some (.string ⟨#[]⟩) := row_cell HR9.out.row (j := 3) rfl
  have sz3 : w6.frozen? ⟨w1.heap.size, 3, none⟩ = false := row_thaw HR9.out.row 3
  have sq4 : w6.cell? ⟨w1.heap.size, 4, none⟩ = some (.string ⟨#[]⟩) := row_cell HR9.out.row (j := 4) rfl
  have sz4 : w6.frozen? ⟨w1.heap.size, 4, none⟩ = false := row_thaw HR9.out.row 4
  have slt : w1.heap.size < w6.heap.size := row_lt HR9.out.row
  go_wp2_with fail
  refine body_cell3 rfl rfl (load_rec (((HR.out.other hne1 _ _).other hne1 _ _).sets _ _ _ _ _).row rfl) rfl ?_
  exact next_no HF.out q hq (HE.out.upd (S := fun k => k = w.heap.size ∨ k = w1.heap.size) (upd_seven w6 w.heap.size w1.heap.size _ _ _ _ _ _ _) (below_step (below_step (below_new _ _) HB1.out) (below_new _ _)) (fun k hk => by rcases hk with rfl | rfl <;> simp <;> omega))
end Go.Proofs.YteknippgiljgeaaGreatDoor
namespace Go.Proofs.YteknippgiljgeaaGreatDoor
open Go.RowKit

set_option maxRecDepth 100000 in
set_option maxHeartbeats 8000000 in
theorem next_body (s : ByteArray) (p num ty j n k : Nat) (t : List UInt8) (d : Int) (w : World) (hp : p ≤ s.size) (hs : s.size ≤ 1000000000) (hh : whd (s.data.toList.drop p) = .ok (num, ty, j)) (h3 : ty ≠ 3) (h4 : ty ≠ 4) (hpj : p + j ≤ s.size)
    (hg : wbd (s.data.toList.drop (p + j)) ty = .ok (n, t, k)) (hk : p + j + k ≤ s.size) : Calls Tryz.prog 107 #[.string s, .int .i64 (p : Int), .int .i64 d] w (NextPost s p d w) := by
  have HF : Hid (wnx (s.data.toList.drop p) d = .ok (⟨num, ty, n, t, (s.data.toList.drop p).take (j + k)⟩, j + k)) := Lib.hid (by rw [wnx_body hh h3 h4, List.drop_drop, hg])
  have hbdc := wbd_cases hh h3 h4
  have hT3 : ((ty : Int) == 3) = false := by simp; omega
  have hT4 : ((ty : Int) == 4) = false := by simp; omega
  have HH := Lib.hid hh
  have HG := Lib.hid hg
  clear hh hg h3 h4
  go_enter Tryz.func107, Tryz.ntmps107
  go_wp2_with fail
  refine (head_any s p _ hp hs).mono ?_; intro e w1 hpost
  unfold HeadPost at hpost
  rw [HH.out] at hpost
  obtain ⟨rfl, hb1⟩ := hpost
  have HR1 := Lib.hid ((RecRow.new w #[.int .i64 0, .int .i64 0, .int .u64 0, .string ⟨#[]⟩, .string ⟨#[]⟩]).below hb1)
  have HB1 := Lib.hid hb1
  clear hb1
  go_wp2_with fail
  refine (body_any s (p + j) ty _ hpj hs hbdc).mono ?_; intro e w6 hpost
  clear hbdc hT3 hT4
  unfold BodyPost at hpost
  rw [HG.out] at hpost
  obtain ⟨rfl, hb6⟩ := hpost
  have HR := Lib.hid ((HR1.out.below (below_new _ _)).below hb6)
  have HR9 := Lib.hid ((RecRow.new w1 #[.int .i64 (num : Int), .int .i64 (ty : Int), .int .u64 0, .string ⟨#[]⟩, .string ⟨#[]⟩]).below hb6)
  have HB6 := Lib.hid (below_step (below_step (below_step (below_new _ _) HB1.out) (below_new _ _)) hb6)
  clear hb6
  have hw1 : w.heap.size < w1.heap.size := row_lt HR1.out.row
  have hne1 : w.heap.size ≠ w1.heap.size := by omega
  have hne2 : w1.heap.size ≠ w.heap.size := by omega
  have rq0 : w6.cell? ⟨w.heap.size, 0, none⟩ = some (.int .i64 0) := row_cell HR.out.row (j := 0) rfl
  have rz0 : w6.frozen? ⟨w.heap.size, 0, none⟩ = false := row_thaw HR.out.row 0
  have rq1 : w6.cell? ⟨w.heap.size, 1, none⟩ = some (.int .i64 0) := row_cell HR.out.row (j := 1) rfl
  have rz1 : w6.frozen? ⟨w.heap.size, 1, none⟩ = false := row_thaw HR.out.row 1
  have rq2 : w6.cell? ⟨w.heap.size, 2, none⟩ = some (.int .u64 0) := row_cell HR.out.row (j := 2) rfl
  have rz2 : w6.frozen? ⟨w.heap.size, 2, none⟩ = false := row_thaw HR.out.row 2
  have rq3 : w6.cell? ⟨w.heap.size, 3, none⟩ = some (.string ⟨#[]⟩) := row_cell HR.out.row (j := 3) rfl
  have rz3 : w6.frozen? ⟨w.heap.size, 3, none⟩ = false := row_thaw HR.out.row 3
  have rq4 : w6.cell? ⟨w.heap.size, 4, none⟩ = some (.string ⟨#[]⟩) := row_cell HR.out.row (j := 4) rfl
  have rz4 : w6.frozen? ⟨w.heap.size, 4, none⟩ = false := row_thaw HR.out.row 4
  have rlt : w.heap.size < w6.heap.size := row_lt HR.out.row
  have sq0 : w6.cell? ⟨w1.heap.size, 0, none⟩ = some (.int .i64 (num : Int)) := row_cell HR9.out.row (j := 0) rfl
  have sz0 : w6.frozen? ⟨w1.heap.size, 0, none⟩ = false := row_thaw HR9.out.row 0
  have sq1 : w6.cell? ⟨w1.heap.size, 1, none⟩ = some (.int .i64 (ty : Int)) := row_cell HR9.out.row (j := 1) rfl
  have sz1 : w6.frozen? ⟨w1.heap.size, 1, none⟩ = false := row_thaw HR9.out.row 1
  have sq2 : w6.cell? ⟨w1.heap.size, 2, none⟩ = some (.int .u64 0) := row_cell HR9.out.row (j := 2) rfl
  have sz2 : w6.frozen? ⟨w1.heap.size, 2, none⟩ = false := row_thaw HR9.out.row 2
  have sq3 : w6.cell? ⟨w1.heap.size, 3, none⟩ = some (.string ⟨#[]⟩) := row_cell HR9.out.row (j := 3) rfl
  have sz3 : w6.frozen? ⟨w1.heap.size, 3, none⟩ = false := row_thaw HR9.out.row 3
  have sq4 : w6.cell? ⟨w1.heap.size, 4, none⟩ = some (.string ⟨#[]⟩) := row_cell HR9.out.row (j := 4) rfl
  have sz4 : w6.frozen? ⟨w1.heap.size, 4, none⟩ = false := row_thaw HR9.out.row 4
  have slt : w1.heap.size < w6.heap.size := row_lt HR9.out.row
  go_wp2_with fail
  refine body_cell3 rfl rfl (load_rec ((((HR.out.other hne1 _ _).other hne1 _ _).other hne1 _ _).sets _ _ _ _ _).row rfl) rfl ?_
  exact next_ok HF.out (by rw [ext_str, show p + j + k - p = j + k by omega]; rfl) (by simp; omega) (below_sets (below_set (below_set (below_set HB6.out (by omega) _ _) (by omega) _ _) (by omega) _ _) _ _ _ _ _)
end Go.Proofs.YteknippgiljgeaaGreatDoor
namespace Go.Proofs.YteknippgiljgeaaGreatDoor
open Go.RowKit

set_option maxRecDepth 100000 in
set_option maxHeartbeats 8000000 in
theorem next_any (s : ByteArray) (p : Nat) (d : Int) (w : World) (hp : p ≤ s.size) (hs : s.size ≤ 1000000000) :
    Calls Tryz.prog 107 #[.string s, .int .i64 (p : Int), .int .i64 d] w (NextPost s p d w) := by
  have hL : (s.data.toList.drop p).length = s.size - p := by simp
  cases hh : whd (s.data.toList.drop p) with
  | error c => exact next_headno s p c d w hp hs hh
  | ok x =>
    obtain ⟨num, ty, j⟩ := x
    have hb := whd_bounds hh
    have hpj : p + j ≤ s.size := by omega
    have hL2 : (s.data.toList.drop (p + j)).length = s.size - (p + j) := by simp
    by_cases h4 : ty = 4
    · subst h4; exact next_end s p num j d w hp hs hh
    · by_cases h3 : ty = 3
      · subst h3
        cases hg : wgroup (s.data.toList.drop (p + j)) [num] d with
        | error c => exact next_groupno s p num j c d w hp hs hh hpj hg
        | ok k =>
          have := (wgroup_bounds _ (Nat.lt_succ_self _) hg).1
          exact next_group s p num j k d w hp hs hh hpj hg (by omega)
      · cases hg : wbd (s.data.toList.drop (p + j)) ty with
        | error c => exact next_bodyno s p num ty j c d w hp hs hh h3 h4 hpj hg
        | ok y =>
          obtain ⟨n, t, k⟩ := y
          have := (wbd_bounds hg).2.1
          exact next_body s p num ty j n k t d w hp hs hh h3 h4 hpj hg (by omega)
theorem next_outside (s : ByteArray) (p : Int) (d : Int) (w : World) (hp : p < 0 ∨ (s.size : Int) < p) :
    Calls Tryz.prog 107 #[.string s, .int .i64 p, .int .i64 d] w fun e w' => ∃ v, e = .returned (.tuple #[rec0, .int .i64 0, v]) ∧ ErrNew w p 9 v w' := by
  rcases hp with hp | hp
  · go_enter Tryz.func107, Tryz.ntmps107
    go_wp2_with fail
    refine (at_any _ _ _ _).mono ?_; rintro e w' ⟨rfl, rfl⟩
    go_wp2_with fail
    refine body_cell3 rfl rfl (load_rec (old_two _ _ _) rfl) rfl ?_
    exact ⟨_, rfl, errNew_at' (below_new _ _) (by simp)⟩
  · have hp0 : 0 ≤ p := by omega
    go_enter Tryz.func107, Tryz.ntmps107
    go_wp2_with fail
    refine (at_any _ _ _ _).mono ?_; rintro e w' ⟨rfl, rfl⟩
    go_wp2_with fail
    refine body_cell3 rfl rfl (load_rec (old_two _ _ _) rfl) rfl ?_
    exact ⟨_, rfl, errNew_at' (below_new _ _) (by simp)⟩
end Go.Proofs.YteknippgiljgeaaGreatDoor
