/-
  hyglaw13.HistBack: for every input the law returns true, and the input stays as it was.
-/
import Derived.Test.YtjbingoliffjiaaGreatHiBackL
import Derived.Test.YtjbingoliffjiaaGreatHiOpen
import Derived.Test.YtjbingoliffjiaaGreatRow
namespace Go.Proofs.YtjbingoliffjiaaGreat.histBack
open Go.ChangeShapes Go.WideShapes Go.ChangeAt Go.RowKit
open Go.ChangeMaps (open_string shut_string)
theorem own : ownKnob Tryz.prog.godebug = none := by kernel_rfl
end Go.Proofs.YtjbingoliffjiaaGreat.histBack
