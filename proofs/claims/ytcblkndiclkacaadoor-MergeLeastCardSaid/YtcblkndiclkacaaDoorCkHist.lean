/-
  check.Hist.
-/
import Derived.Test.YtcblkndiclkacaaDoorDoor
import Derived.Test.YtcblkndiclkacaaDoorHiBack
namespace Go.Proofs.YtcblkndiclkacaaDoor
open Go.RowKit
def histT (k:Nat) (nc nb:List Nat):Bool:=decide (0<nc.length∨0<nb.length)&&(decide (nc.length≠nb.length+1)||!decide (nc.sum=k))
def histR:Hi→Nat
 | ((a,(t,(k,(_,(nc,(nb,(_,(l,(_,((mh,mn),(gh,gn))))))))))),_)=>if pointR a t (dup l)=0 then (if histT k nc nb=true then 8 else if riseB nb=false then 9 else if apartB mh mn gh gn=true then 11 else 0) else pointR a t (dup l)
end Go.Proofs.YtcblkndiclkacaaDoor
