/-
  hyglaw8.first.
-/
import Derived.Test.YteknippgiljgeaaGreatDoorValKey
import Derived.Test.YteknippgiljgeaaGreatDoorVal
import Derived.Test.YteknippgiljgeaaGreatDoorMsgWrite
import Derived.Test.YteknippgiljgeaaGreatDoorWireP
import Derived.Test.YteknippgiljgeaaGreatDoorDoor
namespace Go.Proofs.YteknippgiljgeaaGreatDoor
open Go.RowKit

set_option maxRecDepth 100000 in
set_option maxHeartbeats 2000000 in
theorem plain3 (w : World) : Calls Tryz.prog 88 #[.agg #[.int .i64 3, .string ⟨#[]⟩, .bool false, .int .u64 1, .slice none 0 0, .slice none 0 0, .string ⟨#[]⟩, .string ⟨#[]⟩]] w fun e w' => e = .returned (.bool true) ∧ Below w.heap.size w w' := by
  go_enter Tryz.func88, Tryz.ntmps88
  go_wp2_with fail
  go_ret
  exact ⟨rfl, below_new _ _⟩
set_option maxRecDepth 100000 in
set_option maxHeartbeats 2000000 in
theorem plain8 (w : World) : Calls Tryz.prog 88 #[.agg #[.int .i64 8, .string ⟨#[]⟩, .bool false, .int .u64 0, .slice none 0 0, .slice none 0 0, .string ⟨#[]⟩, .string ⟨#[]⟩]] w fun e w' => e = .returned (.bool false) ∧ Below w.heap.size w w' := by
  go_enter Tryz.func88, Tryz.ntmps88
  go_wp2_with fail
  go_ret
  exact ⟨rfl, below_new _ _⟩
theorem munk_none (d : Int) : munkOk vtk [] d = true := rfl
theorem W8.start {p : Nat} {d : Int} {vo : Value} {ps : List (List UInt8)} {b : Bool} {P : Nat → Prop} {w : World} (h : WrAt p d vo ps b P w) : W8 p d vo ps b w w P := ⟨Upd.refl _ _, P, h, fun _ h => .inl h⟩
theorem W8.below {p : Nat} {d : Int} {vo : Value} {ps : List (List UInt8)} {b : Bool} {P0 : Nat → Prop} {w0 w w' : World} (h : W8 p d vo ps b w0 w P0) (hb : Below w.heap.size w w') : W8 p d vo ps b w0 w' P0 := by
  obtain ⟨hu, P, hw, hp⟩ := h
  exact ⟨hu.trans' (S' := fun _ => False) (Upd.of_new hb) (fun _ _ h => h.elim), P, wr_below hw hb, hp⟩
theorem W8.step {p : Nat} {d' : Int} {vo' : Value} {ps' : List (List UInt8)} {b' : Bool} {P0 P1 : Nat → Prop} {w0 w1 w2 : World} {e : Ending} (hu : Upd P0 w0 w1) (hp : ∀ k, P1 k → P0 k ∨ w0.heap.size ≤ k) (g : WrPost p d' vo' ps' b' P1 w1 e w2) : W8 p d' vo' ps' b' w0 w2 P0 := by
  obtain ⟨_, g2, P2, g3, g4⟩ := g
  refine ⟨hu.trans' g2 (fun k hk h => ?_), P2, g3, fun k hk => ?_⟩
  · rcases hp k h with h | h
    · exact h
    · omega
  · rcases g4 k hk with h | h
    · exact hp k h
    · exact .inr (by have := hu.size; omega)
theorem W8.post {p : Nat} {d : Int} {vo : Value} {ps : List (List UInt8)} {b : Bool} {P0 : Nat → Prop} {w0 w : World} (h : W8 p d vo ps b w0 w P0) : WrPost p d vo ps b P0 w0 (.returned (.tuple #[])) w := ⟨rfl, h.1, h.2⟩
set_option maxRecDepth 1000000 in
set_option maxHeartbeats 4000000 in
theorem put3 (p : Nat) (d : Int) (vo : Value) (P : Nat → Prop) (w : World) (h : Hid (WrAt p d vo [] false P w)) :
    Calls Tryz.prog 64 #[.pointer (some ⟨p, 0, none⟩), .agg #[.int .i64 3, .string ⟨#[]⟩, .bool false, .int .u64 1, .slice none 0 0, .slice none 0 0, .string ⟨#[]⟩, .string ⟨#[]⟩]] w (WrPost p d vo [[24, 1], []] false P w) := by
  have HET := Lib.hid (enters_of Tryz.func40 (by kernel_rfl) rfl)
  have hpw := (wr_lt h.out p (by obtain ⟨_, _, _, _, _, rfl⟩ := h.out; exact .inl rfl)).2
  obtain ⟨W0, hW0⟩ : ∃ W, w.alloc (.cells #[.int .i64 3, .string ⟨#[]⟩, .bool false, .int .u64 1, .slice none 0 0, .slice none 0 0, .string ⟨#[]⟩, .string ⟨#[]⟩] 27) = W := ⟨_, rfl⟩
  obtain ⟨bx, hbx⟩ : ∃ bx, w.heap.size = bx := ⟨_, rfl⟩
  have hb0 : Below w.heap.size w W0 := by rw [← hW0]; exact below_new _ _
  have HX0 : Hid (W0.heap[bx]? = some (.cells #[.int .i64 3, .string ⟨#[]⟩, .bool false, .int .u64 1, .slice none 0 0, .slice none 0 0, .string ⟨#[]⟩, .string ⟨#[]⟩] 27 (0, 0))) := Lib.hid (by rw [← hW0, ← hbx]; exact heap_alloc_new _ _)
  have H0 : Hid (W8 p d vo [] false w W0 P) := Lib.hid ((W8.start h.out).below hb0)
  have HNP : Hid (∀ k, P k → k < bx) := Lib.hid (fun k hk => by rw [← hbx]; exact (wr_lt h.out k hk).2)
  have HW0 := Lib.hid hW0
  have HBX := Lib.hid hbx
  have hxs : bx < W0.heap.size := row_lt HX0.out
  have HXK : Hid (∀ (ps : List (List UInt8)) (b : Bool) (w2 : World), W8 p d vo ps b W0 w2 P → w2.heap[bx]? = some (.cells #[.int .i64 3, .string ⟨#[]⟩, .bool false, .int .u64 1, .slice none 0 0, .slice none 0 0, .string ⟨#[]⟩, .string ⟨#[]⟩] 27 (0, 0))) := Lib.hid (fun ps b w2 hw => (hw.1.block bx hxs (fun hP => by have := HNP.out bx hP; omega)).trans HX0.out)
  have HI0 : Hid (W8 p d vo [] false W0 W0 P) := Lib.hid (W8.start (wr_below h.out hb0))
  have HB0 := Lib.hid hb0
  clear hW0 hbx hb0
  go_enter Tryz.func64, Tryz.ntmps64
  go_wp2_with fail
  rw [HW0.out]
  refine (plain3 W0).mono ?_; rintro e w1 ⟨rfl, hb1⟩
  have H1 := Lib.hid (HI0.out.below hb1)
  clear hb1
  go_wp2_with fail
  obtain ⟨hu1, P1, hw1, hp1⟩ := H1.out
  refine (wask_any p d vo [] false P1 true w1 (Lib.hid hw1)).mono ?_; intro e w2 hpost
  have H2 := Lib.hid (W8.step hu1 hp1 hpost)
  obtain ⟨rfl, _⟩ := hpost
  clear hu1 hw1 hp1
  have hx0 : w2.cell? ⟨bx, 0, none⟩ = some (.int .i64 3) := row_cell (HXK.out _ _ _ H2.out) (j := 0) rfl
  have hx3 : w2.cell? ⟨bx, 3, none⟩ = some (.int .u64 1) := row_cell (HXK.out _ _ _ H2.out) (j := 3) rfl
  have hx7 : w2.cell? ⟨bx, 7, none⟩ = some (.string ⟨#[]⟩) := row_cell (HXK.out _ _ _ H2.out) (j := 7) rfl
  rw [HBX.out]
  go_wp2_with fail
  refine (wvarint_any 3 1 w2 (by omega) (by omega) (by omega)).mono ?_; rintro e w3 ⟨rfl, hb3⟩
  have H3 := Lib.hid (H2.out.below hb3)
  clear hb3 hx0 hx3 hx7
  rw [show (⟨(wrec 3 0 (vput 1)).toArray⟩ : ByteArray) = ⟨#[24, 1]⟩ by decide +kernel]
  go_wp2_with fail
  obtain ⟨hu3, P3, hw3, hp3⟩ := H3.out
  refine (wput_any p d vo [] false P3 [24, 1] w3 (Lib.hid hw3) (by simp) (by simp)).mono ?_; intro e w4 hpost
  have H4 := Lib.hid (W8.step hu3 hp3 hpost)
  obtain ⟨rfl, _⟩ := hpost
  clear hu3 hw3 hp3
  have hx7 : w4.cell? ⟨bx, 7, none⟩ = some (.string ⟨#[]⟩) := row_cell (HXK.out _ _ _ H4.out) (j := 7) rfl
  go_wp2_with fail
  obtain ⟨hu4, P4, hw4, hp4⟩ := H4.out
  refine (wrest_any p d vo [[24, 1]] false P4 ⟨#[]⟩ [] vtk 40 w4 (Lib.hid hw4) (Lib.hid rfl) (by simp) (by simp) (by simp) HET.out (fun r w => vtakes_any r w) (Lib.hid (munk_none d))).mono ?_; intro e w5 hpost
  have H5 := Lib.hid (W8.step hu4 hp4 hpost)
  obtain ⟨rfl, _⟩ := hpost
  clear hu4 hw4 hp4 hx7
  go_wp2_with fail
  go_end0
  exact (W8.step (Upd.of_new HB0.out) (fun k hk => .inl hk) H5.out.post).post
set_option maxRecDepth 1000000 in
set_option maxHeartbeats 4000000 in
theorem put8 (p : Nat) (d : Int) (vo : Value) (P : Nat → Prop) (w : World) (h : Hid (WrAt p d vo [] false P w)) :
    Calls Tryz.prog 64 #[.pointer (some ⟨p, 0, none⟩), .agg #[.int .i64 8, .string ⟨#[]⟩, .bool false, .int .u64 0, .slice none 0 0, .slice none 0 0, .string ⟨#[]⟩, .string ⟨#[]⟩]] w (WrPost p d vo [] true P w) := by
  have HET := Lib.hid (enters_of Tryz.func40 (by kernel_rfl) rfl)
  have hpw := (wr_lt h.out p (by obtain ⟨_, _, _, _, _, rfl⟩ := h.out; exact .inl rfl)).2
  obtain ⟨W0, hW0⟩ : ∃ W, w.alloc (.cells #[.int .i64 8, .string ⟨#[]⟩, .bool false, .int .u64 0, .slice none 0 0, .slice none 0 0, .string ⟨#[]⟩, .string ⟨#[]⟩] 27) = W := ⟨_, rfl⟩
  obtain ⟨bx, hbx⟩ : ∃ bx, w.heap.size = bx := ⟨_, rfl⟩
  have hb0 : Below w.heap.size w W0 := by rw [← hW0]; exact below_new _ _
  have HX0 : Hid (W0.heap[bx]? = some (.cells #[.int .i64 8, .string ⟨#[]⟩, .bool false, .int .u64 0, .slice none 0 0, .slice none 0 0, .string ⟨#[]⟩, .string ⟨#[]⟩] 27 (0, 0))) := Lib.hid (by rw [← hW0, ← hbx]; exact heap_alloc_new _ _)
  have H0 : Hid (W8 p d vo [] false w W0 P) := Lib.hid ((W8.start h.out).below hb0)
  have HNP : Hid (∀ k, P k → k < bx) := Lib.hid (fun k hk => by rw [← hbx]; exact (wr_lt h.out k hk).2)
  have HW0 := Lib.hid hW0
  have HBX := Lib.hid hbx
  have hxs : bx < W0.heap.size := row_lt HX0.out
  have HXK : Hid (∀ (ps : List (List UInt8)) (b : Bool) (w2 : World), W8 p d vo ps b W0 w2 P → w2.heap[bx]? = some (.cells #[.int .i64 8, .string ⟨#[]⟩, .bool false, .int .u64 0, .slice none 0 0, .slice none 0 0, .string ⟨#[]⟩, .string ⟨#[]⟩] 27 (0, 0))) := Lib.hid (fun ps b w2 hw => (hw.1.block bx hxs (fun hP => by have := HNP.out bx hP; omega)).trans HX0.out)
  have HI0 : Hid (W8 p d vo [] false W0 W0 P) := Lib.hid (W8.start (wr_below h.out hb0))
  have HB0 := Lib.hid hb0
  clear hW0 hbx hb0
  go_enter Tryz.func64, Tryz.ntmps64
  go_wp2_with fail
  rw [HW0.out]
  refine (plain8 W0).mono ?_; rintro e w1 ⟨rfl, hb1⟩
  have H1 := Lib.hid (HI0.out.below hb1)
  clear hb1
  go_wp2_with fail
  obtain ⟨hu1, P1, hw1, hp1⟩ := H1.out
  refine (wask_any p d vo [] false P1 false w1 (Lib.hid hw1)).mono ?_; intro e w2 hpost
  have H2 := Lib.hid (W8.step hu1 hp1 hpost)
  obtain ⟨rfl, _⟩ := hpost
  clear hu1 hw1 hp1
  have hx0 : w2.cell? ⟨bx, 0, none⟩ = some (.int .i64 8) := row_cell (HXK.out _ _ _ H2.out) (j := 0) rfl
  have hx3 : w2.cell? ⟨bx, 3, none⟩ = some (.int .u64 0) := row_cell (HXK.out _ _ _ H2.out) (j := 3) rfl
  have hx7 : w2.cell? ⟨bx, 7, none⟩ = some (.string ⟨#[]⟩) := row_cell (HXK.out _ _ _ H2.out) (j := 7) rfl
  rw [HBX.out]
  go_wp2_with fail
  obtain ⟨hu4, P4, hw4, hp4⟩ := H2.out
  refine (wrest_any p d vo [] true P4 ⟨#[]⟩ [] vtk 40 w2 (Lib.hid hw4) (Lib.hid rfl) (by simp) (by simp) (by simp) HET.out (fun r w => vtakes_any r w) (Lib.hid (munk_none d))).mono ?_; intro e w5 hpost
  have H5 := Lib.hid (W8.step hu4 hp4 hpost)
  obtain ⟨rfl, _⟩ := hpost
  clear hu4 hw4 hp4 hx0 hx3 hx7
  go_wp2_with fail
  go_end0
  exact (W8.step (Upd.of_new HB0.out) (fun k hk => .inl hk) H5.out.post).post
set_option maxRecDepth 1000000 in
set_option maxHeartbeats 4000000 in
theorem marshal3 (w : World) : Calls Tryz.prog 22 #[.agg #[.int .i64 3, .string ⟨#[]⟩, .bool false, .int .u64 1, .slice none 0 0, .slice none 0 0, .string ⟨#[]⟩, .string ⟨#[]⟩], .int .i64 0] w fun e w' => Below w.heap.size w w' ∧ e = .returned (.tuple #[.string ⟨#[24, 1]⟩, .nilIface]) := by
  obtain ⟨W0, hW0⟩ : ∃ W, w.alloc (.cells #[.int .i64 3, .string ⟨#[]⟩, .bool false, .int .u64 1, .slice none 0 0, .slice none 0 0, .string ⟨#[]⟩, .string ⟨#[]⟩] 27) = W := ⟨_, rfl⟩
  obtain ⟨bx, hbx⟩ : ∃ bx, w.heap.size = bx := ⟨_, rfl⟩
  have HB0 : Hid (Below w.heap.size w W0) := Lib.hid (by rw [← hW0]; exact below_new _ _)
  have HX0 : Hid (W0.heap[bx]? = some (.cells #[.int .i64 3, .string ⟨#[]⟩, .bool false, .int .u64 1, .slice none 0 0, .slice none 0 0, .string ⟨#[]⟩, .string ⟨#[]⟩] 27 (0, 0))) := Lib.hid (by rw [← hW0, ← hbx]; exact heap_alloc_new _ _)
  have HW0 := Lib.hid hW0
  have HBX := Lib.hid hbx
  clear hW0 hbx
  go_enter Tryz.func22, Tryz.ntmps22
  go_wp2_with fail
  rw [HW0.out, HBX.out]
  refine (wmnew_any 0 W0).mono ?_; rintro e w1 ⟨rfl, hb1, P1, hw1, hp1⟩
  obtain ⟨p, hp⟩ : ∃ p, W0.heap.size = p := ⟨_, rfl⟩
  have hpp : bx < p := by rw [← hp]; exact row_lt HX0.out
  rw [hp] at hw1 hb1 ⊢
  have HB1 : Hid (Below p W0 w1) := Lib.hid hb1
  have HX1 : Hid (w1.heap[bx]? = some (.cells #[.int .i64 3, .string ⟨#[]⟩, .bool false, .int .u64 1, .slice none 0 0, .slice none 0 0, .string ⟨#[]⟩, .string ⟨#[]⟩] 27 (0, 0))) := Lib.hid ((hb1.block _ hpp).trans HX0.out)
  have HP1 : Hid (∀ k, P1 k → p ≤ k) := Lib.hid (fun k hk => by have := hp1 k hk; omega)
  have HW1 : Hid (WrAt p 0 (.slice none 0 0) [] false P1 w1) := Lib.hid hw1
  have HPE := Lib.hid hp
  clear hb1 hw1 hp1 hp
  have hx0 : w1.cell? ⟨bx, 0, none⟩ = some (.int .i64 3) := row_cell HX1.out (j := 0) rfl
  have hx1 : w1.cell? ⟨bx, 1, none⟩ = some (.string ⟨#[]⟩) := row_cell HX1.out (j := 1) rfl
  have hx2 : w1.cell? ⟨bx, 2, none⟩ = some (.bool false) := row_cell HX1.out (j := 2) rfl
  have hx3 : w1.cell? ⟨bx, 3, none⟩ = some (.int .u64 1) := row_cell HX1.out (j := 3) rfl
  have hx4 : w1.cell? ⟨bx, 4, none⟩ = some (.slice none 0 0) := row_cell HX1.out (j := 4) rfl
  have hx5 : w1.cell? ⟨bx, 5, none⟩ = some (.slice none 0 0) := row_cell HX1.out (j := 5) rfl
  have hx6 : w1.cell? ⟨bx, 6, none⟩ = some (.string ⟨#[]⟩) := row_cell HX1.out (j := 6) rfl
  have hx7 : w1.cell? ⟨bx, 7, none⟩ = some (.string ⟨#[]⟩) := row_cell HX1.out (j := 7) rfl
  go_wp2_with fail
  refine (put3 p 0 (.slice none 0 0) P1 w1 HW1).mono ?_; intro e w2 hpost
  obtain ⟨rfl, hu2, P2, hw2, hp2⟩ := hpost
  have hp9 := (wr_lt HW1.out p (by obtain ⟨_, _, _, _, _, rfl⟩ := HW1.out; exact .inl rfl)).2
  have HB2 : Hid (Below p W0 w2) := Lib.hid (HB1.out.trans (hu2.below (by omega) (fun k _ h => HP1.out k h)))
  have HW2 := Lib.hid hw2
  clear hu2 hw2 hp2 hp9 hx0 hx1 hx2 hx3 hx4 hx5 hx6 hx7
  go_wp2_with fail
  refine (wend_any p 0 (.slice none 0 0) [[24, 1], []] false P2 w2 HW2 (by simp) (by simp)).mono ?_; rintro e w3 ⟨hb3, hcase⟩
  have hp9 := (wr_lt HW2.out p (by obtain ⟨_, _, _, _, _, rfl⟩ := HW2.out; exact .inl rfl)).2
  have HB3 : Hid (Below w.heap.size w w3) := Lib.hid (HB0.out.trans ((HB2.out.trans (hb3.mono (by omega))).mono (by have := HPE.out; have := HB0.out.size; omega)))
  rw [if_neg (by simp)] at hcase
  subst hcase
  clear hb3 hp9
  go_wp2_with fail
  go_ret2
  exact ⟨HB3.out, rfl⟩
set_option maxRecDepth 1000000 in
set_option maxHeartbeats 4000000 in
theorem marshal8 (w : World) : Calls Tryz.prog 22 #[.agg #[.int .i64 8, .string ⟨#[]⟩, .bool false, .int .u64 0, .slice none 0 0, .slice none 0 0, .string ⟨#[]⟩, .string ⟨#[]⟩], .int .i64 5] w fun e w' => Below w.heap.size w w' ∧ ∃ v, e = .returned (.tuple #[.string ⟨#[]⟩, v]) ∧ EC w' v 8 := by
  obtain ⟨W0, hW0⟩ : ∃ W, w.alloc (.cells #[.int .i64 8, .string ⟨#[]⟩, .bool false, .int .u64 0, .slice none 0 0, .slice none 0 0, .string ⟨#[]⟩, .string ⟨#[]⟩] 27) = W := ⟨_, rfl⟩
  obtain ⟨bx, hbx⟩ : ∃ bx, w.heap.size = bx := ⟨_, rfl⟩
  have HB0 : Hid (Below w.heap.size w W0) := Lib.hid (by rw [← hW0]; exact below_new _ _)
  have HX0 : Hid (W0.heap[bx]? = some (.cells #[.int .i64 8, .string ⟨#[]⟩, .bool false, .int .u64 0, .slice none 0 0, .slice none 0 0, .string ⟨#[]⟩, .string ⟨#[]⟩] 27 (0, 0))) := Lib.hid (by rw [← hW0, ← hbx]; exact heap_alloc_new _ _)
  have HW0 := Lib.hid hW0
  have HBX := Lib.hid hbx
  clear hW0 hbx
  go_enter Tryz.func22, Tryz.ntmps22
  go_wp2_with fail
  rw [HW0.out, HBX.out]
  refine (wmnew_any 5 W0).mono ?_; rintro e w1 ⟨rfl, hb1, P1, hw1, hp1⟩
  obtain ⟨p, hp⟩ : ∃ p, W0.heap.size = p := ⟨_, rfl⟩
  have hpp : bx < p := by rw [← hp]; exact row_lt HX0.out
  rw [hp] at hw1 hb1 ⊢
  have HB1 : Hid (Below p W0 w1) := Lib.hid hb1
  have HX1 : Hid (w1.heap[bx]? = some (.cells #[.int .i64 8, .string ⟨#[]⟩, .bool false, .int .u64 0, .slice none 0 0, .slice none 0 0, .string ⟨#[]⟩, .string ⟨#[]⟩] 27 (0, 0))) := Lib.hid ((hb1.block _ hpp).trans HX0.out)
  have HP1 : Hid (∀ k, P1 k → p ≤ k) := Lib.hid (fun k hk => by have := hp1 k hk; omega)
  have HW1 : Hid (WrAt p 5 (.slice none 0 0) [] false P1 w1) := Lib.hid hw1
  have HPE := Lib.hid hp
  clear hb1 hw1 hp1 hp
  have hx0 : w1.cell? ⟨bx, 0, none⟩ = some (.int .i64 8) := row_cell HX1.out (j := 0) rfl
  have hx1 : w1.cell? ⟨bx, 1, none⟩ = some (.string ⟨#[]⟩) := row_cell HX1.out (j := 1) rfl
  have hx2 : w1.cell? ⟨bx, 2, none⟩ = some (.bool false) := row_cell HX1.out (j := 2) rfl
  have hx3 : w1.cell? ⟨bx, 3, none⟩ = some (.int .u64 0) := row_cell HX1.out (j := 3) rfl
  have hx4 : w1.cell? ⟨bx, 4, none⟩ = some (.slice none 0 0) := row_cell HX1.out (j := 4) rfl
  have hx5 : w1.cell? ⟨bx, 5, none⟩ = some (.slice none 0 0) := row_cell HX1.out (j := 5) rfl
  have hx6 : w1.cell? ⟨bx, 6, none⟩ = some (.string ⟨#[]⟩) := row_cell HX1.out (j := 6) rfl
  have hx7 : w1.cell? ⟨bx, 7, none⟩ = some (.string ⟨#[]⟩) := row_cell HX1.out (j := 7) rfl
  go_wp2_with fail
  refine (put8 p 5 (.slice none 0 0) P1 w1 HW1).mono ?_; intro e w2 hpost
  obtain ⟨rfl, hu2, P2, hw2, hp2⟩ := hpost
  have hp9 := (wr_lt HW1.out p (by obtain ⟨_, _, _, _, _, rfl⟩ := HW1.out; exact .inl rfl)).2
  have HB2 : Hid (Below p W0 w2) := Lib.hid (HB1.out.trans (hu2.below (by omega) (fun k _ h => HP1.out k h)))
  have HW2 := Lib.hid hw2
  clear hu2 hw2 hp2 hp9 hx0 hx1 hx2 hx3 hx4 hx5 hx6 hx7
  go_wp2_with fail
  refine (wend_any p 5 (.slice none 0 0) [] true P2 w2 HW2 (by simp) (by simp)).mono ?_; rintro e w3 ⟨hb3, hcase⟩
  have hp9 := (wr_lt HW2.out p (by obtain ⟨_, _, _, _, _, rfl⟩ := HW2.out; exact .inl rfl)).2
  have HB3 : Hid (Below w.heap.size w w3) := Lib.hid (HB0.out.trans ((HB2.out.trans (hb3.mono (by omega))).mono (by have := HPE.out; have := HB0.out.size; omega)))
  rw [if_pos rfl] at hcase
  obtain ⟨v, rfl, hec⟩ := hcase
  obtain ⟨T', y, rfl⟩ := hec.iface
  have HEC := Lib.hid hec
  clear hb3 hp9 hec
  go_wp2_with fail
  go_ret2
  exact ⟨HB3.out, _, rfl, HEC.out⟩
theorem vread_first : vread 3 [24, 1] 0 = .ok (.mk 3 [] false 1 [] [] [] []) := by
  have h := vread_num (n := 1) (d := 0) (f := 2) (by omega)
  rw [show (rN 3 1).raw = [24, 1] by decide +kernel] at h
  exact h
set_option maxRecDepth 1000000 in
set_option maxHeartbeats 4000000 in
theorem first8 (w : World) (hg : Glob w) : Calls Tryz.prog 10 #[] w fun e w' => e = .returned (.bool true) ∧ Below w.heap.size w w' := by
  have HG := Lib.hid hg
  have HUN := Lib.hid (fun w' => (both_any 3 ⟨#[24, 1]⟩ 0 w' (by decide) (by decide) (by omega)).1)
  clear hg
  go_enter Tryz.func10, Tryz.ntmps10
  go_wp2_with fail
  refine (marshal3 w).mono ?_; rintro e w1 ⟨hb1, rfl⟩
  have HB1 := Lib.hid hb1
  clear hb1
  go_wp2_with fail
  refine (HUN.out w1).mono ?_; intro e w2 hpost
  obtain ⟨hb2, hcase⟩ := hpost
  have HV : Hid (vread 3 (⟨#[24, 1]⟩ : ByteArray).data.toList 0 = .ok (.mk 3 [] false 1 [] [] [] [])) := Lib.hid vread_first
  rw [HV.out] at hcase
  obtain ⟨cs, rfl, hrel⟩ := hcase
  rw [VRel] at hrel
  obtain ⟨lo, lc, mo, mc, rfl, _⟩ := hrel
  have HB2 := Lib.hid (below_step HB1.out hb2)
  unfold strV
  clear hb2
  go_wp2_with fail
  obtain ⟨bx, hbx⟩ : ∃ bx, w2.heap.size = bx := ⟨_, rfl⟩
  obtain ⟨W3, hW3⟩ : ∃ W, w2.alloc (.cells #[.int .i64 3, .string ⟨#[]⟩, .bool false, .int .u64 1, .slice lo 0 lc, .slice mo 0 mc, .string ⟨#[]⟩, .string ⟨#[]⟩] 27) = W := ⟨_, rfl⟩
  have HB3 : Hid (Below w.heap.size w W3) := Lib.hid (by rw [← hW3]; exact below_step HB2.out (below_new _ _))
  have HX3 : Hid (W3.heap[bx]? = some (.cells #[.int .i64 3, .string ⟨#[]⟩, .bool false, .int .u64 1, .slice lo 0 lc, .slice mo 0 mc, .string ⟨#[]⟩, .string ⟨#[]⟩] 27 (0, 0))) := Lib.hid (by rw [← hW3, ← hbx]; exact heap_alloc_new _ _)
  rw [hW3, hbx]
  clear hW3 hbx
  refine (marshal8 W3).mono ?_; rintro e w4 ⟨hb4, v, rfl, hec⟩
  obtain ⟨T', y, rfl⟩ := hec.iface
  have HEC := Lib.hid hec
  have HB4 := Lib.hid (below_step HB3.out hb4)
  have hx0 : w4.cell? ⟨bx, 0, none⟩ = some (.int .i64 3) := row_cell ((hb4.block _ (row_lt HX3.out)).trans HX3.out) (j := 0) rfl
  have hx3 : w4.cell? ⟨bx, 3, none⟩ = some (.int .u64 1) := row_cell ((hb4.block _ (row_lt HX3.out)).trans HX3.out) (j := 3) rfl
  clear hb4 hec
  go_wp2_with fail
  obtain ⟨ws, he⟩ := HEC.out
  refine (code_any ws _ _ w4 he (root_code _) (HG.out.below HB4.out)).mono ?_; rintro e w5 ⟨rfl, hb5⟩
  rw [show codeOf (codeV ((8 : Nat) : Int)) = 8 from rfl]
  have HB5 := Lib.hid (below_step HB4.out hb5)
  clear hb5 he
  go_wp2_with fail
  go_ret
  exact ⟨rfl, HB5.out⟩
end Go.Proofs.YteknippgiljgeaaGreatDoor
