/-
  What the laws of as many numbers as may be have in common.
-/
import Derived.Test.YtihoemimiplhfaaDoorFilled
import Derived.Test.YtihoemimiplhfaaDoorCodeIs
namespace Go.Proofs.YtihoemimiplhfaaDoor
open Go.RowKit

theorem codeIs_alloc (w : World) (p c : Int) : CodeIs (w.alloc (.cells #[.int .i64 p, .iface 29 (.int .i64 c)] 105)) (.iface 103 (.pointer (some ⟨w.heap.size, 0, none⟩))) c := .inr ⟨_, isErr_new (heap_alloc_new w _)⟩
end Go.Proofs.YtihoemimiplhfaaDoor
