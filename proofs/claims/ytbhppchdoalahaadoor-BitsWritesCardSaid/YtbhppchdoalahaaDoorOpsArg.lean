/-
  The numbers and counts that the laws of layer 5 take.
-/
import Derived.Test.YtbhppchdoalahaaDoorPairs
namespace Go.Proofs.YtbhppchdoalahaaDoor
open Go.RowKit

/-- the numbers and counts that the law takes -/
def Ops (w : World) (ao : Option Addr) (l : List (Int × Int)) : Prop := Prs (fun x : Int × Int => .int .u64 x.1) (fun x => .int .i64 x.2) w ao l
def okOp (x : Int × Int) : Prop := 0 ≤ x.1 ∧ 0 ≤ x.2 ∧ x.2 ≤ 64 ∧ x.1 < 2 ^ x.2.toNat
def natOp (x : Int × Int) : Nat × Nat := (x.1.toNat, x.2.toNat)
theorem natOp_lt {l : List (Int × Int)} (h : ∀ x ∈ l, okOp x) : ∀ x ∈ l.map natOp, x.1 < 2 ^ x.2 := by
  intro x hx
  obtain ⟨y, hy, rfl⟩ := List.mem_map.1 hx
  obtain ⟨h1, h2, h3, h4⟩ := h y hy
  show y.1.toNat < 2 ^ y.2.toNat
  have : (y.1.toNat : Int) < ((2 ^ y.2.toNat : Nat) : Int) := by simp; omega
  omega
theorem natOp_le {l : List (Int × Int)} (h : ∀ x ∈ l, okOp x) : ∀ x ∈ l.map natOp, x.2 ≤ 64 := by
  intro x hx
  obtain ⟨y, hy, rfl⟩ := List.mem_map.1 hx
  obtain ⟨h1, h2, h3, h4⟩ := h y hy
  show y.2.toNat ≤ 64
  omega
end Go.Proofs.YtbhppchdoalahaaDoor
