/-
  message.Writer: messages within: Open, Close.
-/
import Derived.Test.YtmlghmjjlpioeaaMsgWrite
import Derived.Deep.Cut
import Derived.Test.YtmlghmjjlpioeaaUtf2
import Derived.Shelf.Strings.OnBuilder
import Derived.Test.YtmlghmjjlpioeaaProg
import Derived.Test.YtmlghmjjlpioeaaOrd
import Derived.Test.YtmlghmjjlpioeaaKit
import Derived.Test.YtmlghmjjlpioeaaMsgMath
import Derived.Test.YtmlghmjjlpioeaaWireR5
import Derived.Test.YtmlghmjjlpioeaaUpd
import Derived.Deep.LoopGhost
namespace Go.Proofs.Ytmlghmjjlpioeaa
open Go.RowKit
open Lib (hid)
structure Hole where
 num:Nat
 part:Nat
 size:Nat
open Go.RowKit
section
variable {p:Nat} {d:Int} {ps:List (List UInt8)} {hs:List Hole} {b:Bool} {P:Nat→Prop} {w:World}
end
open Go.RowKit
section
variable {p:Nat} {d:Int} {ps:List (List UInt8)} {hs:List Hole} {b:Bool} {P:Nat→Prop} {w:World}
end
open Go.RowKit
section
variable {p:Nat} {d:Int} {ps:List (List UInt8)} {hs:List Hole} {b:Bool} {P:Nat→Prop} {w:World} {bx:Nat} {X:Array Value} {T:TypeId}
end
end Go.Proofs.Ytmlghmjjlpioeaa
