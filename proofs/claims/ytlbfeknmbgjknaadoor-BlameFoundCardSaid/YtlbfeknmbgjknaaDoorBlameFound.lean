/-
  hyglaw1.BlameFound: for every two codes and every list of wraps the law returns true.
-/
import Derived.Test.YtlbfeknmbgjknaaDoorFoundA
import Derived.Test.YtlbfeknmbgjknaaDoorFoundB
import Derived.Test.YtlbfeknmbgjknaaDoorFoundC
import Derived.Test.YtlbfeknmbgjknaaDoorFoundD
namespace Go.Proofs.YtlbfeknmbgjknaaDoor
open Go.RowKit

set_option maxRecDepth 1000000 in
theorem found_long (c d : Int) (ao : Option Addr) (cap len : Nat) (w : World) (hn : 200 < len) (hg : Glob w) :
    Calls Tryd.prog 4 #[.int .i64 c, .int .i64 d, .slice ao len cap] w fun e w' => e = .returned (.bool true) ∧ Below w.heap.size w w' := by
  have HG := Lib.hid hg
  have hd : decide (200 < (len : Int)) = true := by simp; omega
  clear hg
  go_enter Tryd.func4, Tryd.ntmps4
  go_wp2_with fail
  refine (first1 w HG.out).mono ?_; rintro e w0 ⟨rfl, hb0⟩
  have HG0 := Lib.hid (HG.out.below hb0)
  go_wp2_with fail
  refine (first1 w0 HG0.out).mono ?_; rintro e w1 ⟨rfl, hb1⟩
  go_wp2
  go_ret
  exact ⟨rfl, below_trans hb0 hb1⟩
set_option maxRecDepth 1000000 in
theorem found_ok (d : Int) (ao : Option Addr) (cap len : Nat) (w : World) (hn : len ≤ 200) (hg : Glob w) :
    Calls Tryd.prog 4 #[.int .i64 0, .int .i64 d, .slice ao len cap] w fun e w' => e = .returned (.bool true) ∧ Below w.heap.size w w' := by
  have HG := Lib.hid hg
  have hd : decide (200 < (len : Int)) = false := by simp; omega
  clear hg
  go_enter Tryd.func4, Tryd.ntmps4
  go_wp2_with fail
  refine (first1 w HG.out).mono ?_; rintro e w0 ⟨rfl, hb0⟩
  have HG0 := Lib.hid (HG.out.below hb0)
  go_wp2_with fail
  refine (first1 w0 HG0.out).mono ?_; rintro e w1 ⟨rfl, hb1⟩
  go_wp2
  go_ret
  exact ⟨rfl, below_trans hb0 hb1⟩
theorem found_walk (c d : Int) (ao : Option Addr) (cap : Nat) (l : List (Bool × Int)) (w : World) (hi : Wraps w ao l) (hcap : l.length ≤ cap) (hg : Glob w) :
    Calls Tryd.prog 4 #[.int .i64 c, .int .i64 d, .slice ao l.length cap] w fun e w' => e = .returned (.bool true) ∧ Below w.heap.size w w' := by
  by_cases hn : l.length ≤ 200
  · by_cases hc : c = 0
    · subst hc
      exact found_ok d ao cap l.length w hn hg
    · have hc' : (c != 0) = true := by simpa using hc
      cases hx : firstOf true l.reverse with
      | none =>
        cases hy : firstOf false l.reverse with
        | none =>
          cases hcd : (c != d) with
          | false => exact found_snn c d ao cap l w hi hn hcap hc' hcd hg hx hy
          | true => exact found_onn c d ao cap l w hi hn hcap hc' hcd hg hx hy
        | some y =>
          cases hcd : (c != d) with
          | false => exact found_sny c d ao cap l w hi hn hcap hc' hcd hg hx y.1 y.2 hy
          | true => exact found_ony c d ao cap l w hi hn hcap hc' hcd hg hx y.1 y.2 hy
      | some x =>
        cases hy : firstOf false l.reverse with
        | none =>
          cases hcd : (c != d) with
          | false => exact found_syn c d ao cap l w hi hn hcap hc' hcd hg x.1 x.2 hx hy
          | true => exact found_oyn c d ao cap l w hi hn hcap hc' hcd hg x.1 x.2 hx hy
        | some y =>
          cases hcd : (c != d) with
          | false => exact found_syy c d ao cap l w hi hn hcap hc' hcd hg x.1 x.2 hx y.1 y.2 hy
          | true => exact found_oyy c d ao cap l w hi hn hcap hc' hcd hg x.1 x.2 hx y.1 y.2 hy
  · exact found_long c d ao cap l.length w (by omega) hg
end Go.Proofs.YtlbfeknmbgjknaaDoor
