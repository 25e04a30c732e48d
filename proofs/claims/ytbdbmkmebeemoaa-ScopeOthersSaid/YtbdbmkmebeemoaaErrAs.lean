/-
  errors.as and errors.As over a chain of wraps.
-/
import Derived.Test.YtbdbmkmebeemoaaUpd
import Derived.Deep.LoopGhost
namespace Go.Proofs.Ytbdbmkmebeemoaa
open Go.RowKit Go.Extern.Stop Go.Stop Go.Extern

/-- the dynamic type of a wrap, the type of its struct -/
def wrapT (b : Bool) : TypeId := if b then 126 else 101
def wrapS (b : Bool) : TypeId := if b then 128 else 103
/-- v is the error 'r' in the wraps ws, the outermost first (true: by At) -/
def isErr (w : World) : List (Bool × Int) → Value → Value → Prop
  | [], v, r => v = r
  | (b, n) :: ws, v, r => ∃ a e, v = .iface (wrapT b) (.pointer (some ⟨a, 0, none⟩)) ∧ a < w.heap.size ∧ w.heap[a]? = some (.cells #[.int .i64 n, e] (wrapS b) (0, 0)) ∧ isErr w ws e r
/-- a code's own value -/
def codeV (c : Int) : Value := .iface 97 (.int .i64 c)
/-- what an error can be at its root -/
def isRoot (r : Value) : Prop := (∃ c, r = codeV c)
/-- w' is w, but for new blocks and the one cell of block t, which holds u -/
structure OneUpd (w w' : World) (t : Nat) (T : TypeId) (u : Value) : Prop where
  os : w'.os = w.os
  tape : w'.tape = w.tape
  output : w'.output = w.output
  size : w.heap.size ≤ w'.heap.size
  block : ∀ k, k < w.heap.size → k ≠ t → w'.heap[k]? = w.heap[k]?
  cell : w'.heap[t]? = some (.cells #[u] T (0, 0))
theorem isErr_kept {w w' : World} (hk : ∀ (k : Nat) (o : Obj), w.heap[k]? = some o → (∃ (b : Bool) (n : Int) (e : Value), o = Obj.cells #[Value.int .i64 n, e] (wrapS b) (0, 0)) → w'.heap[k]? = some o) (hs : w.heap.size ≤ w'.heap.size) :
    ∀ {ws : List (Bool × Int)} {v r : Value}, isErr w ws v r → isErr w' ws v r
  | [], _, _, h => h
  | (b, n) :: _, _, _, ⟨a, e, hv, ha, hh, hr⟩ => ⟨a, e, hv, Nat.lt_of_lt_of_le ha hs, hk a _ hh ⟨b, n, e, rfl⟩, isErr_kept hk hs hr⟩
theorem isErr_below {w w' : World} (hb : Below w.heap.size w w') : ∀ {ws : List (Bool × Int)} {v r : Value}, isErr w ws v r → isErr w' ws v r :=
  isErr_kept (fun k _ h _ => (hb.block k (Array.getElem?_eq_some_iff.1 h).1).trans h) hb.size
theorem oneUpd_set {w : World} {t : Nat} {T : TypeId} {old : Value} (ht : w.heap[t]? = some (.cells #[old] T (0, 0))) (o o' : Obj) (u : Value) :
    OneUpd w (((w.setCell ⟨t, 0, none⟩ u).alloc o).alloc o') t T u := by
  have hlt : t < w.heap.size := (Array.getElem?_eq_some_iff.1 ht).1
  have hs : (w.setCell ⟨t, 0, none⟩ u).heap.size = w.heap.size := by simp [World.setCell]
  refine ⟨rfl, rfl, rfl, by simp; omega, fun k hk hne => ?_, ?_⟩
  · rw [Below.heap_alloc _ _ _ (by simp; omega), Below.heap_alloc _ _ _ (by omega), Below.heap_setCell _ _ _ _ hne]
  · rw [Below.heap_alloc _ _ _ (by simp; omega), Below.heap_alloc _ _ _ (by omega), heap_setCell_same _ t 0 _ _ _ ht]; rfl
theorem oneUpd_box {w : World} {t : Nat} {T : TypeId} {old : Value} (ht : w.heap[t]? = some (.cells #[old] T (0, 0))) (o : Obj) : OneUpd w (w.alloc o) t T old :=
  ⟨rfl, rfl, rfl, by simp, fun k hk _ => Below.heap_alloc _ _ _ hk, (Below.heap_alloc _ _ _ (Array.getElem?_eq_some_iff.1 ht).1).trans ht⟩
theorem oneUpd_alloc {w w' : World} {t : Nat} {T : TypeId} {u : Value} {o : Obj} (h : OneUpd (w.alloc o) w' t T u) : OneUpd w w' t T u :=
  ⟨h.os, h.tape, h.output, Nat.le_trans (by simp) h.size, fun k hk hne => (h.block k (by simp; omega) hne).trans (Below.heap_alloc _ _ _ hk), h.cell⟩
/-- a new block's cell set: below it nothing has turned -/
theorem oneUpd_below {w w' : World} {T : TypeId} {u : Value} {o : Obj} (h : OneUpd (w.alloc o) w' w.heap.size T u) : Below w.heap.size w w' :=
  ⟨h.os, h.tape, h.output, Nat.le_trans (by simp) h.size, fun k hk => (h.block k (by simp; omega) (by omega)).trans (Below.heap_alloc _ _ _ hk)⟩
theorem isRoot_iface {r : Value} (h : isRoot r) : ∃ T x, r = .iface T x := by
  obtain ⟨c, rfl⟩ := h; exact ⟨_, _, rfl⟩
theorem isErr_iface {w : World} {ws : List (Bool × Int)} {v r : Value} (h : isErr w ws v r) (hr : isRoot r) : ∃ T x, v = .iface T x := by
  cases ws with
  | nil => obtain ⟨T, x, rfl⟩ := isRoot_iface hr; exact ⟨_, _, h⟩
  | cons y ws => obtain ⟨a, e, hv, _⟩ := h; exact ⟨_, _, hv⟩
/-- the first wrap of a kind, and what is in it -/
def firstOf (b : Bool) : List (Bool × Int) → Option (Int × List (Bool × Int))
  | [] => none
  | (c, n) :: ws => if c = b then some (n, ws) else firstOf b ws


end Go.Proofs.Ytbdbmkmebeemoaa
