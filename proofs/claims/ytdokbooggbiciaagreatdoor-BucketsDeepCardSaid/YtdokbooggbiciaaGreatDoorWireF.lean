/-
  wire.Fixed: eight bytes, the least first.
-/
import Derived.Test.YtdokbooggbiciaaGreatDoorWireW
import Derived.Test.YtdokbooggbiciaaGreatDoorUpd
import Derived.Deep.LoopGhost
namespace Go.Proofs.YtdokbooggbiciaaGreatDoor
open Go.RowKit

/-- a number's bytes, the least first -/
def eight : Nat → Nat → List UInt8
  | 0, _ => []
  | k + 1, n => UInt8.ofNat (n % 256) :: eight k (n / 256)
theorem eight_8 (n : Nat) : eight 8 n = [UInt8.ofNat (n % 256), UInt8.ofNat (n / 256 % 256), UInt8.ofNat (n / 65536 % 256), UInt8.ofNat (n / 16777216 % 256), UInt8.ofNat (n / 4294967296 % 256), UInt8.ofNat (n / 1099511627776 % 256), UInt8.ofNat (n / 281474976710656 % 256), UInt8.ofNat (n / 72057594037927936 % 256)] := by
  simp only [eight, Nat.div_div_eq_div_mul]
theorem ofNat_val (x : Nat) (v : Int) (h : v = ((x % 256 : Nat) : Int)) : ((UInt8.ofNat x).toNat : Int) = v := by
  rw [h]; simp
end Go.Proofs.YtdokbooggbiciaaGreatDoor
