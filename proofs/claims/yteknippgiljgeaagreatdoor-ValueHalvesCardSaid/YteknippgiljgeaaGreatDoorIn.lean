/-
  blame.In.
-/
import Derived.Test.YteknippgiljgeaaGreatDoorKit
namespace Go.Proofs.YteknippgiljgeaaGreatDoor
open Go.RowKit

theorem in_any (n : Int) (t : TypeId) (v : Value) (w : World) :
    Calls Tryz.prog 43 #[.int .i64 n, .iface t v] w fun e w' => e = .returned (.iface 116 (.pointer (some ⟨w.heap.size, 0, none⟩))) ∧ w' = w.alloc (.cells #[.int .i64 n, .iface t v] 118) := by
  go_enter Tryz.func43, Tryz.ntmps43
  go_wp2
  all_goals go_ret
  all_goals exact ⟨rfl, rfl⟩
theorem in_nil (n : Int) (w : World) :
    Calls Tryz.prog 43 #[.int .i64 n, .nilIface] w fun e w' => e = .returned .nilIface ∧ w = w' := by
  go_enter Tryz.func43, Tryz.ntmps43
  go_wp2
  all_goals go_ret
  all_goals exact ⟨rfl, rfl⟩
end Go.Proofs.YteknippgiljgeaaGreatDoor
