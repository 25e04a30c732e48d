/-
  An error that a call has made: a new wrap of a code, at a place.
-/
import Derived.Test.YtandoppfbilhbaaGreatDoorUpd
namespace Go.Proofs.YtandoppfbilhbaaGreatDoor
open Go.RowKit

/-- v is a new error of place n and code c -/
def ErrNew (w : World) (n c : Int) (v : Value) (w' : World) : Prop :=
  (∃ a, w.heap.size ≤ a ∧ v = .iface 132 (.pointer (some ⟨a, 0, none⟩)) ∧ w'.heap[a]? = some (.cells #[.int .i64 n, .iface 42 (.int .i64 c)] 135 (0, 0))) ∧ Below w.heap.size w w'
theorem errNew_at {w w1 : World} {n c : Int} (h : Below w.heap.size w w1) : ErrNew w n c (.iface 132 (.pointer (some ⟨w1.heap.size, 0, none⟩))) (w1.alloc (.cells #[.int .i64 n, .iface 42 (.int .i64 c)] 135)) :=
  ⟨⟨w1.heap.size, h.size, rfl, heap_alloc_new w1 _⟩, h.alloc h.size _⟩
theorem errNew_at' {w w1 : World} {n c : Int} {g : Nat} (h : Below w.heap.size w w1) (hg : g = w1.heap.size) : ErrNew w n c (.iface 132 (.pointer (some ⟨g, 0, none⟩))) (w1.alloc (.cells #[.int .i64 n, .iface 42 (.int .i64 c)] 135)) := by
  subst hg; exact errNew_at h
theorem ErrNew.iface {w w' : World} {n c : Int} {v : Value} (h : ErrNew w n c v w') : ∃ T x, v = .iface T x := by
  obtain ⟨⟨a, _, rfl, _⟩, _⟩ := h
  exact ⟨_, _, rfl⟩
/-- made in a later world -/
theorem ErrNew.after {w w1 w' : World} {n c : Int} {v : Value} (hb : Below w.heap.size w w1) (h : ErrNew w1 n c v w') : ErrNew w n c v w' := by
  obtain ⟨⟨a, ha, hv, hh⟩, hb'⟩ := h
  exact ⟨⟨a, Nat.le_trans hb.size ha, hv, hh⟩, hb.trans (hb'.mono hb.size)⟩
/-- it stays -/
theorem ErrNew.stay {w w1 w' : World} {n c : Int} {v : Value} (h : ErrNew w n c v w1) (hb : Below w1.heap.size w1 w') : ErrNew w n c v w' := by
  obtain ⟨⟨a, ha, hv, hh⟩, hb'⟩ := h
  exact ⟨⟨a, ha, hv, (hb.block a (row_lt hh)).trans hh⟩, hb'.trans (hb.mono hb'.size)⟩
end Go.Proofs.YtandoppfbilhbaaGreatDoor
