/-
  blame.In; hyglaw1.first: what the chapter's examples fix.
-/
import Derived.Test.YtlbfeknmbgjknaaDoorBlame
import Derived.Test.YtlbfeknmbgjknaaDoorSame
namespace Go.Proofs.YtlbfeknmbgjknaaDoor
open Go.RowKit

theorem at_any (n : Int) (t : TypeId) (v : Value) (w : World) :
    Calls Tryd.prog 18 #[.int .i64 n, .iface t v] w fun e w' => e = .returned (.iface 36 (.pointer (some ⟨w.heap.size, 0, none⟩))) ∧ w' = w.alloc (.cells #[.int .i64 n, .iface t v] 42) := by
  go_enter Tryd.func18, Tryd.ntmps18
  go_wp2
  all_goals go_ret
  all_goals exact ⟨rfl, rfl⟩
theorem in_any (n : Int) (t : TypeId) (v : Value) (w : World) :
    Calls Tryd.prog 19 #[.int .i64 n, .iface t v] w fun e w' => e = .returned (.iface 37 (.pointer (some ⟨w.heap.size, 0, none⟩))) ∧ w' = w.alloc (.cells #[.int .i64 n, .iface t v] 44) := by
  go_enter Tryd.func19, Tryd.ntmps19
  go_wp2
  all_goals go_ret
  all_goals exact ⟨rfl, rfl⟩
theorem at_nil (n : Int) (w : World) :
    Calls Tryd.prog 18 #[.int .i64 n, .nilIface] w fun e w' => e = .returned .nilIface ∧ w = w' := by
  go_enter Tryd.func18, Tryd.ntmps18
  go_wp2
  all_goals go_ret
  all_goals exact ⟨rfl, rfl⟩
theorem in_nil (n : Int) (w : World) :
    Calls Tryd.prog 19 #[.int .i64 n, .nilIface] w fun e w' => e = .returned .nilIface ∧ w = w' := by
  go_enter Tryd.func19, Tryd.ntmps19
  go_wp2
  all_goals go_ret
  all_goals exact ⟨rfl, rfl⟩
/-- an error in one more wrap -/
theorem isErr_at {w : World} {ws : List (Bool × Int)} {v r : Value} (h : isErr w ws v r) (n : Int) :
    isErr (w.alloc (.cells #[.int .i64 n, v] 42)) ((true, n) :: ws) (.iface 36 (.pointer (some ⟨w.heap.size, 0, none⟩))) r :=
  ⟨w.heap.size, v, rfl, by simp, heap_alloc_new w _, isErr_below (below_alloc w _) h⟩
theorem isErr_in {w : World} {ws : List (Bool × Int)} {v r : Value} (h : isErr w ws v r) (n : Int) :
    isErr (w.alloc (.cells #[.int .i64 n, v] 44)) ((false, n) :: ws) (.iface 37 (.pointer (some ⟨w.heap.size, 0, none⟩))) r :=
  ⟨w.heap.size, v, rfl, by simp, heap_alloc_new w _, isErr_below (below_alloc w _) h⟩
theorem code_root (c : Int) : isRoot (codeV c) := .inl ⟨c, rfl⟩

set_option maxRecDepth 1000000 in
set_option maxHeartbeats 1000000 in
theorem first1 (w : World) (hg : Glob w) : Calls Tryd.prog 8 #[] w fun e w' => e = .returned (.bool true) ∧ Below w.heap.size w w' := by
  have HG := Lib.hid hg
  clear hg
  go_enter Tryd.func8, Tryd.ntmps8
  go_wp2_with fail
  refine (in_any _ _ _ w).mono ?_; rintro e w1 ⟨rfl, hw1⟩
  have hE1 := Lib.hid (show isErr w1 [(false, 2)] (.iface 37 (.pointer (some ⟨w.heap.size, 0, none⟩))) (codeV 1) by rw [hw1]; exact isErr_in (v := codeV 1) (r := codeV 1) (ws := []) rfl 2)
  have hb1 : Below w.heap.size w w1 := by rw [hw1]; exact below_alloc _ _
  clear hw1
  go_wp2_with fail
  refine (at_any _ _ _ w1).mono ?_; rintro e w2 ⟨rfl, hw2⟩
  have hE2 := Lib.hid (show isErr w2 [(true, 3), (false, 2)] (.iface 36 (.pointer (some ⟨w1.heap.size, 0, none⟩))) (codeV 1) by rw [hw2]; exact isErr_at hE1.out 3)
  have hb2 : Below w1.heap.size w1 w2 := by rw [hw2]; exact below_alloc _ _
  have hG2 := Lib.hid ((HG.out.below hb1).below hb2)
  clear hw2
  go_wp2_with fail
  refine (place_any _ _ _ w2 hE2.out (code_root _) hG2.out).mono ?_; rintro e w3 ⟨rfl, hb3⟩
  rw [show placeN [(true, 3), (false, 2)] = 3 from rfl, show placeB [(true, 3), (false, 2)] = true from rfl]
  have hG3 := Lib.hid (hG2.out.below hb3)
  have hE3 := Lib.hid (isErr_below hb3 hE2.out)
  go_wp2_with fail
  refine (code_any _ _ _ w3 hE3.out (code_root _) hG3.out).mono ?_; rintro e w4 ⟨rfl, hb4⟩
  rw [show codeOf (codeV 1) = 1 from rfl]
  have hG4 := Lib.hid (hG3.out.below hb4)
  have hE4 := Lib.hid (isErr_below hb4 hE3.out)
  go_wp2_with fail
  refine (nums_any _ _ _ w4 hE4.out (code_root _) hG4.out (by decide)).mono ?_; rintro e w5 ⟨u, rfl, hown, hb5⟩
  have hs5 := Lib.hid (slI_of_owns (l := fieldsOf [(true, 3), (false, 2)]) hown)
  clear hown
  go_wp2_with fail
  have hb6 := below_alloc w5 (.cells #[.int .i64 2] 3)
  refine (ints_same u _ [2] _ (hs5.out.below hb6) (slI_one w5 2 _ _) (by simp)).mono ?_; rintro e w6 ⟨rfl, hb7⟩
  go_wp2_with fail
  refine (code_nil w6).mono ?_; rintro e w7 ⟨rfl, rfl⟩
  go_wp2
  go_ret
  exact ⟨rfl, below_trans hb1 (below_trans hb2 (below_trans hb3 (below_trans hb4 (below_trans hb5 (below_trans hb6 hb7)))))⟩
end Go.Proofs.YtlbfeknmbgjknaaDoor
