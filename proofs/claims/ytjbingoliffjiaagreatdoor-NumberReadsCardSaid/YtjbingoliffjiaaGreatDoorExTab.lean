/-
 hygref8.exemplars.
-/
import Derived.Test.YtjbingoliffjiaaGreatDoorRefMsg
import Derived.Test.YtjbingoliffjiaaGreatDoorExBack
set_option maxRecDepth 1000000
set_option maxHeartbeats 16000000
namespace Go.Proofs.YtjbingoliffjiaaGreatDoor
open Go.RowKit
theorem nats_tab6 (w : World) (a0 a1 a2 a3 a4 a5 : Nat) : Nats .i64 (w.alloc (.cells #[.int .i64 (a0 : Int), .int .i64 (a1 : Int), .int .i64 (a2 : Int), .int .i64 (a3 : Int), .int .i64 (a4 : Int), .int .i64 (a5 : Int)] 3)) (some ⟨w.heap.size, 0, none⟩) [a0, a1, a2, a3, a4, a5] := by
 intro _
 refine ⟨w.heap.size, 0, rfl, by simp, fun j hj => ?_⟩
 have : j = 0 ∨ j = 1 ∨ j = 2 ∨ j = 3 ∨ j = 4 ∨ j = 5 := by simp at hj; omega
 rcases this with rfl | rfl | rfl | rfl | rfl | rfl
 ·exact row_cell (heap_alloc_new w _) (j := 0) rfl
 ·exact row_cell (heap_alloc_new w _) (j := 1) rfl
 ·exact row_cell (heap_alloc_new w _) (j := 2) rfl
 ·exact row_cell (heap_alloc_new w _) (j := 3) rfl
 ·exact row_cell (heap_alloc_new w _) (j := 4) rfl
 ·exact row_cell (heap_alloc_new w _) (j := 5) rfl
theorem ex_tab (w : World) : Calls Tryz.prog 111 #[] w fun e w' => ∃ ao, e = .returned (.slice ao 6 6) ∧ Hid (Nats .i64 w' ao [17, 25, 34, 42, 49, 58]) ∧ Below w.heap.size w w' := by
 have HN := Lib.hid (nats_tab6 w 17 25 34 42 49 58)
 go_enter Tryz.func111, Tryz.ntmps111
 go_wp2_with fail
 go_ret
 exact ⟨_, rfl, HN, below_new _ _⟩
theorem ex_rtk (r : Rec) : exF.tk r = rtk [17, 25, 34, 42, 49, 58] r := by
 rw [exF_tk]
 unfold rtk
 rw [Bool.eq_iff_iff]
 simp
 omega
end Go.Proofs.YtjbingoliffjiaaGreatDoor
