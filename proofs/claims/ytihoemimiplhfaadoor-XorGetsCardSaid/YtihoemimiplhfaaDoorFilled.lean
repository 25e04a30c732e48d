/-
  A list that is filled number by number; two lists of one content.
-/
import Derived.Test.YtihoemimiplhfaaDoorNatsApp
namespace Go.Proofs.YtihoemimiplhfaaDoor
open Go.RowKit

/-- the decoded ones, and zeros behind them -/
def filled (ls : List Nat) (k : Nat) : List Value := nvals (ls ++ List.replicate k 0)
theorem filled_zero (k : Nat) : List.replicate k (Value.int .u64 0) = filled [] k := by simp [filled, nvals]
theorem filled_length (ls : List Nat) (k : Nat) : (filled ls k).length = ls.length + k := by simp [filled, nvals]
theorem filled_set (ls : List Nat) (k n : Nat) : (filled ls (k + 1)).set ls.length (.int .u64 (n : Int)) = filled (ls ++ [n]) k := by
  unfold filled nvals
  rw [List.replicate_succ, List.map_append, List.set_append_right _ _ (by simp), List.length_map, Nat.sub_self, List.map_cons, List.set_cons_zero]
  simp
theorem filled_at (ls : List Nat) (k : Nat) : (filled ls (k + 1))[ls.length]? = some (.int .u64 0) := by
  unfold filled nvals
  rw [List.replicate_succ]
  simp
theorem filled_all (ls : List Nat) : filled ls 0 = nvals ls := by simp [filled]
theorem nums_len (ao bo : Option Addr) (cap bcap : Nat) (l : List Nat) (n : Nat) (w : World) (hn : l.length = n) (ha : Nats .u64 w ao l) (hb : Nats .u64 w bo l) (hl : n ≤ 1000000000) :
    Calls Tryd.prog 13 #[.slice ao n cap, .slice bo n bcap] w fun e w' => e = .returned (.bool true) ∧ Below w.heap.size w w' := by
  subst hn; exact nums_same ao bo cap bcap l w ha hb hl
end Go.Proofs.YtihoemimiplhfaaDoor
