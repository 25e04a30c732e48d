/-
  A side of an exponential histogram as a message within a message.
-/
import Derived.Test.YtficgfemmijaaaaGreatDoorFirst14
import Derived.Test.YtficgfemmijaaaaGreatDoorMsgMath
import Derived.Test.YtficgfemmijaaaaGreatDoorMsgWrite
import Derived.Deep.Strs
import Derived.IntWalk
import Derived.Test.YtficgfemmijaaaaGreatDoorOrd
import Derived.Test.YtficgfemmijaaaaGreatDoorFnl
namespace Go.Proofs.YtficgfemmijaaaaGreatDoor
open Go.RowKit
def bkSb : Sub (Bk × List UInt8) where
 rd d t := bread t d
 out x := bput x.1 x.2
 may d x := bmay x.2 d
 fit x := BkOk x.1
 wt x := 10 * x.1.cs.length + x.2.length
def bkz (x : Bk × List UInt8) : Bool := decide (x.1.off = 0) && (x.1.cs.isEmpty && x.2.isEmpty)
end Go.Proofs.YtficgfemmijaaaaGreatDoor
