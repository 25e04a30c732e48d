/-
  An error that a call has made: a new wrap of a code, at a place.
-/
import Derived.Test.YtbhppchdoalahaaDoorCodeIs
namespace Go.Proofs.YtbhppchdoalahaaDoor
open Go.RowKit

/-- v is a new error of place n and code c -/
def ErrNew (w : World) (n c : Int) (v : Value) (w' : World) : Prop :=
  (∃ a, w.heap.size ≤ a ∧ v = .iface 98 (.pointer (some ⟨a, 0, none⟩)) ∧ w'.heap[a]? = some (.cells #[.int .i64 n, .iface 30 (.int .i64 c)] 102 (0, 0))) ∧ Below w.heap.size w w'
theorem errNew_at {w w1 : World} {n c : Int} (h : Below w.heap.size w w1) : ErrNew w n c (.iface 98 (.pointer (some ⟨w1.heap.size, 0, none⟩))) (w1.alloc (.cells #[.int .i64 n, .iface 30 (.int .i64 c)] 102)) :=
  ⟨⟨w1.heap.size, h.size, rfl, heap_alloc_new w1 _⟩, h.alloc h.size _⟩
/-- such an error, told by the call's own end -/
theorem ErrNew.isErr {w : World} {n c : Int} {v : Value} {w' : World} (h : ErrNew w n c v w') : isErr w' [(true, n)] v (codeV c) := by
  obtain ⟨⟨a, _, rfl, hh⟩, _⟩ := h
  exact isErr_new hh
theorem ErrNew.codeIs {w : World} {n c : Int} {v : Value} {w' : World} (h : ErrNew w n c v w') : CodeIs w' v c := .inr ⟨_, h.isErr⟩
end Go.Proofs.YtbhppchdoalahaaDoor
