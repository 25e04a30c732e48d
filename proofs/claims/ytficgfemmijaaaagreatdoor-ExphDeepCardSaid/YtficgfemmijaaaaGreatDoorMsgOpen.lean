/-
  message.Writer: messages within: Open, Close.
-/
import Derived.Test.YtficgfemmijaaaaGreatDoorMsgWrite
import Derived.Deep.Cut
import Derived.Test.YtficgfemmijaaaaGreatDoorUtf2
import Derived.Test.YtficgfemmijaaaaGreatDoorMsgRead
namespace Go.Proofs.YtficgfemmijaaaaGreatDoor
open Go.RowKit
structure Hole where
 num : Nat
 part : Nat
 size : Nat
def hcells (h : Hole) : List Value := [.int .i64 (h.num : Int), .int .i64 (h.part : Int), .int .i64 (h.size : Int)]
theorem vput_le10 (n : Nat) : (vput n).length ≤ 10 := (vput_length n).2
open Go.RowKit
section
variable {p : Nat} {d : Int} {ps : List (List UInt8)} {hs : List Hole} {b : Bool} {P : Nat → Prop} {w : World}
end
open Go.RowKit
section
variable {p : Nat} {d : Int} {ps : List (List UInt8)} {hs : List Hole} {b : Bool} {P : Nat → Prop} {w : World}
end
open Go.RowKit
section
variable {p : Nat} {d : Int} {ps : List (List UInt8)} {hs : List Hole} {b : Bool} {P : Nat → Prop} {w : World} {bx : Nat} {X : Array Value} {T : TypeId}
end
end Go.Proofs.YtficgfemmijaaaaGreatDoor
