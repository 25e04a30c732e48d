/-
  hyglaw1.BlameMade: for every code and every list of wraps the law returns true.
-/
import Derived.Test.YtlbfeknmbgjknaaDoorMade
namespace Go.Proofs.YtlbfeknmbgjknaaDoor
open Go.RowKit

set_option maxRecDepth 1000000 in
set_option maxHeartbeats 2000000 in
theorem madelaw_some (c : Int) (ao : Option Addr) (cap : Nat) (l : List (Bool × Int)) (w : World) (hl : Wraps w ao l) (hn : l.length ≤ 200) (hg : Glob w) (hc' : (c != 0) = true) (hc2 : (c == 0) = false) :
    Calls Tryd.prog 3 #[.int .i64 c, .slice ao l.length cap] w fun e w' => e = .returned (.bool true) ∧ Below w.heap.size w w' := by
  have HL := Lib.hid hl
  have HG := Lib.hid hg
  clear hl hg
  go_enter Tryd.func3, Tryd.ntmps3
  go_wp2_with fail
  refine (first1 w HG.out).mono ?_; rintro e w1 ⟨rfl, hb1⟩
  have HG1 := Lib.hid (HG.out.below hb1)
  have HL1 := Lib.hid (HL.out.below hb1)
  go_wp2_with fail
  refine (made_some c ao cap l w1 HL1.out hn hc').mono ?_; rintro e w2 ⟨v, rfl, he, hb2⟩
  have HE2 := Lib.hid he
  have HG2 := Lib.hid (HG1.out.below hb2)
  have HL2 := Lib.hid (HL1.out.below hb2)
  obtain ⟨T, y, rfl⟩ := isErr_iface he (code_root c)
  clear he
  go_wp2_with fail
  refine (first1 w2 HG2.out).mono ?_; rintro e w3 ⟨rfl, hb3⟩
  have HE3 := Lib.hid (isErr_below hb3 HE2.out)
  have HG3 := Lib.hid (HG2.out.below hb3)
  have HL3 := Lib.hid (HL2.out.below hb3)
  go_wp2_with fail
  refine (tells_true c _ ao cap l w3 HL3.out hn HE3.out HG3.out).mono ?_; rintro e w4 ⟨rfl, hb4⟩
  go_wp2
  go_ret
  exact ⟨rfl, below_trans hb1 (below_trans hb2 (below_trans hb3 hb4))⟩

theorem nums_nil (w : World) : Calls Tryd.prog 12 #[.nilIface] w fun e w' => e = .returned (.slice none 0 0) ∧ Below w.heap.size w w' := by
  go_enter Tryd.func12, Tryd.ntmps12
  go_wp2
  refine wp_loop_rounds 1 ?_
  rw [rounds_succ]
  go_wp2_with (go_at_call 15; refine (errAs_nil _ _).mono ?_; rintro e w' ⟨rfl, rfl⟩)
  go_ret
  exact ⟨rfl, below_alloc _ _⟩

set_option maxRecDepth 1000000 in
set_option maxHeartbeats 2000000 in
theorem madelaw_none (ao : Option Addr) (cap : Nat) (l : List (Bool × Int)) (w : World) (hl : Wraps w ao l) (hn : l.length ≤ 200) (hg : Glob w) :
    Calls Tryd.prog 3 #[.int .i64 0, .slice ao l.length cap] w fun e w' => e = .returned (.bool true) ∧ Below w.heap.size w w' := by
  have HL := Lib.hid hl
  have HG := Lib.hid hg
  clear hl hg
  go_enter Tryd.func3, Tryd.ntmps3
  go_wp2_with fail
  refine (first1 w HG.out).mono ?_; rintro e w1 ⟨rfl, hb1⟩
  have HG1 := Lib.hid (HG.out.below hb1)
  have HL1 := Lib.hid (HL.out.below hb1)
  go_wp2_with fail
  refine (made_none ao cap l w1 HL1.out hn).mono ?_; rintro e w2 ⟨rfl, rfl⟩
  go_wp2_with fail
  refine (place_nil w1).mono ?_; rintro e w2 ⟨rfl, hb2⟩
  have HG2 := Lib.hid (HG1.out.below hb2)
  go_wp2_with fail
  refine (first1 w2 HG2.out).mono ?_; rintro e w3 ⟨rfl, hb3⟩
  go_wp2_with fail
  refine (code_nil w3).mono ?_; rintro e w4 ⟨rfl, rfl⟩
  go_wp2_with fail
  refine (nums_nil w3).mono ?_; rintro e w4 ⟨rfl, hb4⟩
  go_wp2
  go_ret
  exact ⟨rfl, below_trans hb1 (below_trans hb2 (below_trans hb3 hb4))⟩

set_option maxRecDepth 1000000 in
theorem madelaw_long (c : Int) (ao : Option Addr) (cap len : Nat) (w : World) (hn : 200 < len) (hg : Glob w) :
    Calls Tryd.prog 3 #[.int .i64 c, .slice ao len cap] w fun e w' => e = .returned (.bool true) ∧ Below w.heap.size w w' := by
  have HG := Lib.hid hg
  clear hg
  go_enter Tryd.func3, Tryd.ntmps3
  go_wp2_with fail
  refine (first1 w HG.out).mono ?_; rintro e w0 ⟨rfl, hb0⟩
  have HG0 := Lib.hid (HG.out.below hb0)
  go_wp2_with fail
  refine (first1 w0 HG0.out).mono ?_; rintro e w1 ⟨rfl, hb1⟩
  go_wp2
  go_ret
  exact ⟨rfl, below_trans hb0 hb1⟩
theorem madelaw_walk (c : Int) (ao : Option Addr) (cap : Nat) (l : List (Bool × Int)) (w : World) (hl : Wraps w ao l) (hg : Glob w) :
    Calls Tryd.prog 3 #[.int .i64 c, .slice ao l.length cap] w fun e w' => e = .returned (.bool true) ∧ Below w.heap.size w w' := by
  by_cases hn : l.length ≤ 200
  · by_cases hc : c = 0
    · subst hc
      exact madelaw_none ao cap l w hl hn hg
    · exact madelaw_some c ao cap l w hl hn hg (by simpa using hc) (by simpa using hc)
  · exact madelaw_long c ao cap l.length w (by omega) hg
end Go.Proofs.YtlbfeknmbgjknaaDoor
