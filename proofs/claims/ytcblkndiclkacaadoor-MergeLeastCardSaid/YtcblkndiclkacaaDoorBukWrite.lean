/-
  exph.UnmarshalBuckets.
-/
import Derived.Test.YtcblkndiclkacaaDoorMsgRead
import Derived.Test.YtcblkndiclkacaaDoorMsgMath
import Derived.Test.YtcblkndiclkacaaDoorOrd
import Derived.Test.YtcblkndiclkacaaDoorMsgWrite
import Derived.Laws.OwnMore
import Derived.Test.YtcblkndiclkacaaDoorKit
import Derived.Test.YtcblkndiclkacaaDoorErrNew
namespace Go.Proofs.YtcblkndiclkacaaDoor
open Go.RowKit
theorem load_buk {w:World} {g:Nat} {cs:Array Value} (hg:w.heap[g]? = some (.cells cs 24 (0,0))) (hc:cs.size=3):(loadVar 24 ⟨g,0,none⟩).run Tryd.prog w = .ok (.agg cs) w :=
 run_loadVar_row w g 24 24 cs (0,0) _ hg Tryd.underlying24 rfl (by rw[hc];kernel_rfl)
open Go.RowKit
end Go.Proofs.YtcblkndiclkacaaDoor
