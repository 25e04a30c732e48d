/-
  value.plain.
-/
import Derived.Test.YtoggpnfeioaidaaDoorVal
import Derived.Test.YtoggpnfeioaidaaDoorValTake
namespace Go.Proofs.YtoggpnfeioaidaaDoor
open Go.RowKit
def vpl (k:Int) (se b:Bool) (n ll lm:Nat) (ie:Bool):Bool:=decide (0≤k∧k≤7)&&(decide (k=1∨k=7)||se)&&(decide (k=2)||!b)&&(decide (k=3∨k=4)||decide (n=0))&&(decide (k=5)||decide (ll=0))&&(decide (k=6)||decide (lm=0))&&(decide (k=5∨k=6)||ie)
end Go.Proofs.YtoggpnfeioaidaaDoor
