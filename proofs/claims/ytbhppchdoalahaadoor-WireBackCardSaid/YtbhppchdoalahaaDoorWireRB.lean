/-
  hyglaw4.WireReads: what its walk stands on.
-/
import Derived.Test.YtbhppchdoalahaaDoorWireRL
import Derived.Test.YtbhppchdoalahaaDoorFirst4
import Derived.Test.YtbhppchdoalahaaDoorOrd
import Derived.Deep.LoopGhost
namespace Go.Proofs.YtbhppchdoalahaaDoor
open Go.RowKit

/-- what stays while two records and an error are looked into -/
structure WR (w0 : World) (b c : Nat) (r : Rec) (v : Value) (q : Int) (k : Option Nat) (w : World) : Prop where
  row : RecRow w b (recCells r).toArray
  rrow : RRow w c (recCells r).toArray
  glob : Glob w
  below : Below w0.heap.size w0 w
  err : match k with | none => v = .nilIface | some k => isErr w [(true, q)] v (codeV k)
theorem WR.keep {w0 : World} {b c : Nat} {r : Rec} {v : Value} {q : Int} {k : Option Nat} {w w' : World} (h : WR w0 b c r v q k w) (hb : Below w.heap.size w w') : WR w0 b c r v q k w' :=
  ⟨h.row.below hb, h.rrow.below hb, h.glob.below hb, below_step h.below hb, by
    have := h.err
    cases k with
    | none => exact this
    | some k => exact isErr_below hb this⟩
theorem wr_drew (w : World) : Below w.heap.size w w.drew := (Below.refl _ _).drew
def recN : Rec := ⟨0, 0, 0, [], []⟩
/-- what stays while two lists of records are compared -/
structure WL (w0 : World) (base : Nat) (u x : Value) (rs : List Rec) (w : World) : Prop where
  own : w.ownsRow base 36 5 u rs.length (rs.flatMap recCells)
  rown : w.ownsRow base 39 5 x rs.length (rs.flatMap recCells)
  below : Below w0.heap.size w0 w
theorem WL.keep {w0 : World} {base : Nat} {u x : Value} {rs : List Rec} {w w' : World} (h : WL w0 base u x rs w) (hb : Below w.heap.size w w') : WL w0 base u x rs w' := ⟨own_below h.own hb, own_below h.rown hb, below_step h.below hb⟩
theorem own_base {w : World} {base b' : Nat} {e : TypeId} {size : Nat} {v : Value} {n : Nat} {xs : List Value} (h : w.ownsRow base e size v n xs) (hb : b' ≤ base) : w.ownsRow b' e size v n xs := by
  obtain ⟨h1, h2⟩ := h
  refine ⟨h1, h2.imp id ?_⟩
  rintro ⟨g, cap, cur, a, b, c⟩
  exact ⟨g, cap, cur, a, Nat.le_trans hb b, c⟩
theorem recs_cell {rs : List Rec} {i j : Nat} (hi : i < rs.length) (hj : j < 5) : (rs.flatMap recCells)[5 * i + j]? = (recCells rs[i])[j]? := by
  induction rs generalizing i with
  | nil => simp at hi
  | cons r rs ih =>
    rw [List.flatMap_cons]
    cases i with
    | zero => rw [Nat.mul_zero, Nat.zero_add, List.getElem?_append_left (by simpa [recCells] using hj)]; rfl
    | succ i =>
      have hl : (recCells r).length = 5 := rfl
      rw [List.getElem?_append_right (by omega), hl, show 5 * (i + 1) + j - 5 = 5 * i + j by omega]
      exact ih (by simpa using hi)
end Go.Proofs.YtbhppchdoalahaaDoor
