/-
  An exemplar, by its fields.
-/
/-
  An exemplar in memory; how it is read, what it weighs, there and back.
-/
/-
  An exemplar: there and back, by its fields.
-/
/-
  Exemplars behind one another.
-/
import Derived.Test.YthpngihcjbmmkaaGreatDoorFld
namespace Go.Proofs.YthpngihcjbmmkaaGreatDoor
open Go.RowKit

end Go.Proofs.YthpngihcjbmmkaaGreatDoor
namespace Go.Proofs.YthpngihcjbmmkaaGreatDoor
open Go.RowKit

abbrev Ex : Type := (Nat × ((Int × Nat) × List UInt8 × List UInt8) × List KV) × List UInt8
/-- in memory, with what is unknown behind it -/
def ExRel (w : World) (P : Nat → Prop) : Ex → List Value → Prop
  | ((t, (((k, n), (a, b)), l)), u), cs => ∃ (lo : Option Addr) (lc : Nat), cs = [.slice lo l.length lc, .int .u64 (t : Int), .int .i64 k, .int .u64 (n : Int), strV a, strV b, strV u] ∧ KRels w P l lo 0
end Go.Proofs.YthpngihcjbmmkaaGreatDoor
namespace Go.Proofs.YthpngihcjbmmkaaGreatDoor
open Go.RowKit

theorem num_seg (num n : Nat) : (if n = 0 then [] else (rF num n).raw).length ≤ 20 := by
  split
  · simp
  · show (vput (8 * num + 1) ++ eight 8 n).length ≤ 20
    have := vput_le10 (8 * num + 1); have := eight_len 8 n; rw [List.length_append]; omega
theorem var_seg (num n : Nat) : (if n = 0 then [] else (rN num n).raw).length ≤ 20 := by
  split
  · simp
  · exact rN_len20 num n
end Go.Proofs.YthpngihcjbmmkaaGreatDoor
namespace Go.Proofs.YthpngihcjbmmkaaGreatDoor
open Go.RowKit

end Go.Proofs.YthpngihcjbmmkaaGreatDoor

