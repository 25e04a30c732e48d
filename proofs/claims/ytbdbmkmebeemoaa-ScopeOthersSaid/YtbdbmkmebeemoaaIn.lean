/-
  blame.In.
-/
import Derived.Test.YtbdbmkmebeemoaaKit
namespace Go.Proofs.Ytbdbmkmebeemoaa
open Go.RowKit

theorem in_any (n : Int) (t : TypeId) (v : Value) (w : World) :
    Calls Try.prog 42 #[.int .i64 n, .iface t v] w fun e w' => e = .returned (.iface 101 (.pointer (some ⟨w.heap.size, 0, none⟩))) ∧ w' = w.alloc (.cells #[.int .i64 n, .iface t v] 103) := by
  go_enter Try.func42, Try.ntmps42
  go_wp2
  all_goals go_ret
  all_goals exact ⟨rfl, rfl⟩
theorem in_nil (n : Int) (w : World) :
    Calls Try.prog 42 #[.int .i64 n, .nilIface] w fun e w' => e = .returned .nilIface ∧ w = w' := by
  go_enter Try.func42, Try.ntmps42
  go_wp2
  all_goals go_ret
  all_goals exact ⟨rfl, rfl⟩
end Go.Proofs.Ytbdbmkmebeemoaa
