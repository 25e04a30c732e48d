/-
  hyglaw18.CheckPoints.
-/
import Derived.Test.YtmlghmjjlpioeaaCkFirst
import Derived.Test.YtmlghmjjlpioeaaCkPt
import Derived.Test.YtmlghmjjlpioeaaFaddAdd
import Derived.Lib.MinMax
import Derived.Test.YtmlghmjjlpioeaaOrd
import Derived.Test.YtmlghmjjlpioeaaRowL
import Derived.Test.YtmlghmjjlpioeaaExSub
import Derived.Test.YtmlghmjjlpioeaaCkHist
import Derived.Test.YtmlghmjjlpioeaaCkExp
import Derived.Shelf.Strings.OnBuilder
import Derived.Test.YtmlghmjjlpioeaaProg
import Derived.Test.YtmlghmjjlpioeaaKit
import Derived.Test.YtmlghmjjlpioeaaMsgMath
import Derived.Test.YtmlghmjjlpioeaaWireR5
import Derived.Test.YtmlghmjjlpioeaaUpd
import Derived.Deep.LoopGhost
import Derived.Test.YtmlghmjjlpioeaaUtf2
import Derived.Deep.Cut
import Derived.Test.YtmlghmjjlpioeaaMsgWrite
import Derived.Laws.OwnMore
import Derived.Test.YtmlghmjjlpioeaaNuBack
import Derived.Test.YtmlghmjjlpioeaaHiRoom
import Derived.Test.YtmlghmjjlpioeaaExRoom
import Derived.Test.YtmlghmjjlpioeaaXpRoom
import Derived.Test.YtmlghmjjlpioeaaAlikeB
namespace Go.Proofs.Ytmlghmjjlpioeaa
open Go.RowKit
open Lib (hid)
theorem range_rowc {w:World}{g:Nat}{cs:List Value}{T:TypeId}{fr:Nat × Nat}(h:w.heap[g]? = some (.cells cs.toArray T fr)):w.rangeAt g 0 cs:=fun j v hj=>by
 have:=row_cell h (j:=j) (u:=v) (by simpa using hj)
 simpa using this
end Go.Proofs.Ytmlghmjjlpioeaa
