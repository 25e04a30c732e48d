/-
  blame.In.
-/
import Derived.Test.YtdokbooggbiciaaKit
namespace Go.Proofs.Ytdokbooggbiciaa
open Go.RowKit

theorem in_any (n : Int) (t : TypeId) (v : Value) (w : World) :
    Calls Try.prog 31 #[.int .i64 n, .iface t v] w fun e w' => e = .returned (.iface 100 (.pointer (some ⟨w.heap.size, 0, none⟩))) ∧ w' = w.alloc (.cells #[.int .i64 n, .iface t v] 102) := by
  go_enter Try.func31, Try.ntmps31
  go_wp2
  all_goals go_ret
  all_goals exact ⟨rfl, rfl⟩
theorem in_nil (n : Int) (w : World) :
    Calls Try.prog 31 #[.int .i64 n, .nilIface] w fun e w' => e = .returned .nilIface ∧ w = w' := by
  go_enter Try.func31, Try.ntmps31
  go_wp2
  all_goals go_ret
  all_goals exact ⟨rfl, rfl⟩
end Go.Proofs.Ytdokbooggbiciaa
