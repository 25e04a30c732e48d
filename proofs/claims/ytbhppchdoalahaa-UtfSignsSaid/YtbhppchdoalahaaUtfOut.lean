/-
  hyglaw3.UtfSigns outside its bounds: the law returns true at once.
-/
import Derived.Test.YtbhppchdoalahaaUtfMath2
import Derived.Test.YtbhppchdoalahaaUtfClips
namespace Go.Proofs.Ytbhppchdoalahaa
open Go.RowKit
set_option maxRecDepth 1000000 in
set_option maxHeartbeats 4000000 in
theorem signs_out (c : Int) (s : ByteArray) (cut : Int) (w : World) (h : 4000 < s.size ∨ c < 0 ∨ 1114111 < c ∨ cut < 0) :
    Calls Try.prog 3 #[.int .i64 c, .string s, .int .i64 cut] w fun e w' => e = .returned (.bool true) ∧ Below w.heap.size w w' := by
  go_enter Try.func3, Try.ntmps3
  cases hd1 : decide (4000 < (s.size : Int)) <;> cases hd2 : decide (c < 0) <;> cases hd3 : decide (1114111 < c) <;> cases hd4 : decide (cut < 0)
  · simp at hd1 hd2 hd3 hd4; omega
  all_goals
    go_wp2_with fail
    refine (first3 _).mono ?_; rintro e w1 ⟨rfl, rfl⟩
    go_wp2_with fail
    refine (first3 _).mono ?_; rintro e w2 ⟨rfl, rfl⟩
    go_wp2_with fail
    go_ret
    exact ⟨rfl, Below.refl _ _⟩
end Go.Proofs.Ytbhppchdoalahaa
