/-
  Attributes: what is written is read again.
-/
import Derived.Test.YtficgfemmijaaaaGreatDoorValOut
namespace Go.Proofs.YtficgfemmijaaaaGreatDoor
open Go.RowKit
open Lib (hid)
section
variable {α:Type} {rd:List UInt8→Int→Except Nat α} {out:α→List UInt8}
end
open Go.RowKit
def bl (n:Nat):Nat:=1+(vput n).length+n
section
variable {α:Type} {rd:List UInt8→Int→Except Nat α} {out:α→List UInt8} {may:α→Int→Bool} {wt:α→Nat} {fit:α→Prop}
end
end Go.Proofs.YtficgfemmijaaaaGreatDoor
