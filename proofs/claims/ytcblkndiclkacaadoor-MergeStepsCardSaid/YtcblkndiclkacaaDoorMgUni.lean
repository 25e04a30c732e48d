/-
  The four answers of MergeSides told alike: an Offset, counts, a code.
-/
import Derived.Test.YtcblkndiclkacaaDoorMgTrimMath
import Derived.Test.YtcblkndiclkacaaDoorMgTrim
namespace Go.Proofs.YtcblkndiclkacaaDoor
open Go.RowKit
def CodeV (w:World) (v:Value) (c:Nat):Prop:=(c=0∧v = .nilIface)∨EC w v c
end Go.Proofs.YtcblkndiclkacaaDoor
