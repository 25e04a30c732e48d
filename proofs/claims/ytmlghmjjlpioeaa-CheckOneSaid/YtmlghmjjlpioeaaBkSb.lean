/-
  A side of an exponential histogram as a message within a message.
-/
import Derived.Test.YtmlghmjjlpioeaaValTake
import Derived.Test.YtmlghmjjlpioeaaBukWrite
import Derived.Test.YtmlghmjjlpioeaaUpd
import Derived.Deep.Cut
import Derived.Deep.MidRow
import Derived.Laws.Tables
import Derived.Laws.CopyOwn
import Derived.Deep.WholeRow
import Derived.Test.YtmlghmjjlpioeaaMsgMath
import Derived.Test.YtmlghmjjlpioeaaMsgWrite
import Derived.Deep.Strs
import Derived.IntWalk
import Derived.Test.YtmlghmjjlpioeaaOrd
import Derived.Test.YtmlghmjjlpioeaaFnl
namespace Go.Proofs.Ytmlghmjjlpioeaa
open Go.RowKit
open Lib (hid)
def bkz (x:Bk × List UInt8):Bool:=decide (x.1.off=0)&&(x.1.cs.isEmpty&&x.2.isEmpty)
end Go.Proofs.Ytmlghmjjlpioeaa
