/-
  What the records of a point of an exponential histogram hold.
-/
import Derived.Test.YtoggpnfeioaidaaDoorFnl
import Derived.Test.YtoggpnfeioaidaaDoorExList
namespace Go.Proofs.YtoggpnfeioaidaaDoor
open Go.RowKit
def xrF:Fld:=(listF 1 kvS).and ((numF 2).and ((numF 3).and ((numF 4).and ((optF 5).and ((zigF 6).and ((numF 7).and ((partF 8).and ((partF 9).and ((var32F 10).and ((listF 11 exSb).and ((optF 12).and ((optF 13).and (numF 14)))))))))))))
end Go.Proofs.YtoggpnfeioaidaaDoor
