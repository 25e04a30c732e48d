/-
  Messages by their fields: read, written, there and back, of any fields that do not share records.
-/
import Derived.Test.YtcblkndiclkacaaDoorMsgMath
import Derived.Test.YtcblkndiclkacaaDoorVal
import Derived.Test.YtcblkndiclkacaaDoorMsgRead
import Derived.Test.YtcblkndiclkacaaDoorKit
import Derived.Deep.LoopGhost
import Derived.Test.YtcblkndiclkacaaDoorErrNew
import Derived.Test.YtcblkndiclkacaaDoorGet
import Derived.Deep.Cut
import Derived.Test.YtcblkndiclkacaaDoorOrd
import Derived.IntWalk
import Derived.Deep.MidRow
import Derived.Test.YtcblkndiclkacaaDoorUpd
import Derived.Test.YtcblkndiclkacaaDoorMsgOpen
import Derived.Test.YtcblkndiclkacaaDoorAlikeB
namespace Go.Proofs.YtcblkndiclkacaaDoor
structure Fld where
 σ:Type
 z:σ
 tk:Rec→Bool
 step:Int→σ→Rec→Except Nat σ
 out:σ→List Rec
 may:Int→σ→Bool
 fit:σ→Prop
 wt:σ→Nat
 w0:Nat
 inv:Int→σ→Nat→Prop
open Go.RowKit
structure Sub (α:Type) where
 rd:Int→List UInt8→Except Nat α
 out:α→List UInt8
 may:Int→α→Bool
 fit:α→Prop
 wt:α→Nat
open Go.RowKit
open Go.RowKit
open Go.RowKit
open Go.RowKit
variable {F:Fld}
end Go.Proofs.YtcblkndiclkacaaDoor
