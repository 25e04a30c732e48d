/-
  blame.Code, blame.Place, blame.Nums, blame.At, blame.In over a chain of wraps.
-/
import Derived.Test.YtbdbmkmebeemoaaErrAs
namespace Go.Proofs.Ytbdbmkmebeemoaa
open Go.RowKit

/-- an error: nil, or a root in wraps -/
def codeOf (r : Value) : Int := match r with
  | .iface 97 (.int .i64 c) => c
  | _ => 14

/-- the outermost place -/
def placeN (ws : List (Bool × Int)) : Int := match firstOf true ws with | some (n, _) => n | none => 0
def placeB (ws : List (Bool × Int)) : Bool := (firstOf true ws).isSome
theorem below_alloc (w : World) (o : Obj) : Below w.heap.size w (w.alloc o) := (Below.refl _ _).alloc (Nat.le_refl _) o
theorem below_trans {a b c : World} (h1 : Below a.heap.size a b) (h2 : Below b.heap.size b c) : Below a.heap.size a c := h1.trans (h2.mono h1.size)
theorem ownsRow_oneUpd {w w1 : World} {base : Nat} {e T : TypeId} {size : Nat} {v u : Value} {n t : Nat} {xs : List Value} (h : w.ownsRow base e size v n xs) (hu : OneUpd w w1 t T u) (ht : t < base) : w1.ownsRow base e size v n xs := by
  refine ⟨h.1, ?_⟩
  rcases h.2 with hn | ⟨g, cap, cur, rfl, hb, hgg, rest⟩
  · exact .inl hn
  · exact .inr ⟨g, cap, cur, rfl, hb, (hu.block g (Array.getElem?_eq_some_iff.1 hgg).1 (by omega)).trans hgg, rest⟩
theorem below_oneUpd {w0 w w1 : World} {B t : Nat} {T : TypeId} {u : Value} (h : Below B w0 w) (hu : OneUpd w w1 t T u) (ht : B ≤ t) (hs : t < w.heap.size) : Below B w0 w1 :=
  h.trans ⟨hu.os, hu.tape, hu.output, hu.size, fun k hk => hu.block k (by omega) (by omega)⟩
end Go.Proofs.Ytbdbmkmebeemoaa

