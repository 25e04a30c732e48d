/-
  message.Writer: messages within: Open, Close.
-/
import Derived.Test.YtmlghmjjlpioeaaGreatDoorMsgWrite
import Derived.Deep.Cut
namespace Go.Proofs.YtmlghmjjlpioeaaGreatDoor
open Go.RowKit
open Lib (hid)
structure Hole where
 num:Nat
 part:Nat
 size:Nat
def zc3 (h:Hole):List Value:=[.int .i64 h.num,.int .i64 h.part,.int .i64 h.size]
theorem qq (n:Nat):(vput n).length<=10:=(zu n).2
section
variable {p:Nat} {d:Int} {ps:List (List UInt8)} {hs:List Hole} {b:Bool} {P:Nat->Prop} {w:World}
end
open Go.RowKit
section
variable {p:Nat} {d:Int} {ps:List (List UInt8)} {hs:List Hole} {b:Bool} {P:Nat->Prop} {w:World}
end
open Go.RowKit
section
variable {p:Nat} {d:Int} {ps:List (List UInt8)} {hs:List Hole} {b:Bool} {P:Nat->Prop} {w:World} {bx:Nat} {X:Array Value} {T:TypeId}
end
end Go.Proofs.YtmlghmjjlpioeaaGreatDoor
