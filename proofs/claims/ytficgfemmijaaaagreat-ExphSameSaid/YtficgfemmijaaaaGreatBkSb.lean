/-
  A side of an exponential histogram as a message within a message.
-/
import Derived.Test.YtficgfemmijaaaaGreatBukRef
import Derived.Test.YtficgfemmijaaaaGreatFnl
namespace Go.Proofs.YtficgfemmijaaaaGreat
open Go.RowKit
def bkz (x:Bk × List UInt8):Bool:=decide (x.1.off=0)&&(x.1.cs.isEmpty&&x.2.isEmpty)
end Go.Proofs.YtficgfemmijaaaaGreat
