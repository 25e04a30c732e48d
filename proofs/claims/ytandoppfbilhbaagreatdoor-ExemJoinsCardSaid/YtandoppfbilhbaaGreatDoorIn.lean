/-
  blame.In.
-/
import Derived.Test.YtandoppfbilhbaaGreatDoorKit
namespace Go.Proofs.YtandoppfbilhbaaGreatDoor
open Go.RowKit

theorem in_any (n : Int) (t : TypeId) (v : Value) (w : World) :
    Calls Tryz.prog 42 #[.int .i64 n, .iface t v] w fun e w' => e = .returned (.iface 123 (.pointer (some ⟨w.heap.size, 0, none⟩))) ∧ w' = w.alloc (.cells #[.int .i64 n, .iface t v] 125) := by
  go_enter Tryz.func42, Tryz.ntmps42
  go_wp2
  all_goals go_ret
  all_goals exact ⟨rfl, rfl⟩
theorem in_nil (n : Int) (w : World) :
    Calls Tryz.prog 42 #[.int .i64 n, .nilIface] w fun e w' => e = .returned .nilIface ∧ w = w' := by
  go_enter Tryz.func42, Tryz.ntmps42
  go_wp2
  all_goals go_ret
  all_goals exact ⟨rfl, rfl⟩
end Go.Proofs.YtandoppfbilhbaaGreatDoor
