/-
  hygref2.Varint, of any number.
-/
import Derived.Test.YtdokbooggbiciaaGreatDoorVarint
namespace Go.Proofs.YtdokbooggbiciaaGreatDoor
open Go.RowKit

theorem rvint_at (n : Nat) (w : World) (hn : n < 2^64) : Calls Tryz.prog 67 #[.int .u64 n] w fun e w' => e = .returned (.string ⟨(vput n).toArray⟩) ∧ Below w.heap.size w w' := refput_any n w (put_start hn) (Lib.hid hn)
end Go.Proofs.YtdokbooggbiciaaGreatDoor
