/-
  ExTakes, ExRead, ExUn
-/
import Derived.Test.YtjbingoliffjiaaGreatExBack
import Derived.Test.YtjbingoliffjiaaGreatFld
import Derived.Test.YtjbingoliffjiaaGreatValTake
import Derived.Deep.Cut
namespace Go.Proofs.YtjbingoliffjiaaGreat
open Go.RowKit
open Go.RowKit
open Go.RowKit
end Go.Proofs.YtjbingoliffjiaaGreat
