/-
  exem.Unmarshal of any text.
-/
import Derived.Test.YtficgfemmijaaaaGreatDoorValKey
import Derived.Test.YtficgfemmijaaaaGreatDoorExRead
namespace Go.Proofs.YtficgfemmijaaaaGreatDoor
open Go.RowKit
theorem ex_un (X : ByteArray) (d : Int) (w : World) (hX : X.size ≤ 500000) (hd : -9223372036854775808 ≤ d ∧ d ≤ 9223372036854775807) :
  Calls Tryz.prog 80 #[.string X, .int .i64 d] w (RdPost exCel exzero (exrd X.data.toList d) X.size w) := unex_if X d (Lib.hid (fun _ _ _ => ukey_any)) w hX hd
end Go.Proofs.YtficgfemmijaaaaGreatDoor
