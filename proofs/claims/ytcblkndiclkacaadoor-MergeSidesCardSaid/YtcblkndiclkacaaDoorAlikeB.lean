/-
  Attributes alike or not; what is read is no longer than what it is read from.
-/
import Derived.Test.YtcblkndiclkacaaDoorVal
import Derived.Test.YtcblkndiclkacaaDoorMsgRead
import Derived.Test.YtcblkndiclkacaaDoorKit
import Derived.Deep.LoopGhost
import Derived.Test.YtcblkndiclkacaaDoorErrNew
import Derived.Test.YtcblkndiclkacaaDoorGet
import Derived.Deep.Cut
import Derived.Test.YtcblkndiclkacaaDoorOrd
import Derived.IntWalk
import Derived.Deep.MidRow
import Derived.Test.YtcblkndiclkacaaDoorUpd
import Derived.Test.YtcblkndiclkacaaDoorMsgMath
import Derived.Test.YtcblkndiclkacaaDoorWireMath
import Derived.Test.YtcblkndiclkacaaDoorWireR5
import Derived.Test.YtcblkndiclkacaaDoorMsgWrite
namespace Go.Proofs.YtcblkndiclkacaaDoor
open Go.RowKit
noncomputable def alike {α:Type} (x y:α):Bool:=@decide (x=y) (Classical.propDecidable _)
open Go.RowKit
open Go.RowKit
open Go.RowKit
end Go.Proofs.YtcblkndiclkacaaDoor
