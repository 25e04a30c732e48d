/-
  hygref2.Varint, of any number.
-/
import Derived.Test.YtihoemimiplhfaaDoorVarint
namespace Go.Proofs.YtihoemimiplhfaaDoor
open Go.RowKit

theorem rvint_at (n : Nat) (w : World) (hn : n < 2^64) : Calls Tryd.prog 55 #[.int .u64 n] w fun e w' => e = .returned (.string ⟨(vput n).toArray⟩) ∧ Below w.heap.size w w' := refput_any n w (put_start hn) (Lib.hid hn)
end Go.Proofs.YtihoemimiplhfaaDoor
