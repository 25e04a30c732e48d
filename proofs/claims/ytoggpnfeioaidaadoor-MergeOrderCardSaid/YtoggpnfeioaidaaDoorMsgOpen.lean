/-
  message.Writer: messages within: Open, Close.
-/
import Derived.Test.YtoggpnfeioaidaaDoorMsgWrite
import Derived.Deep.Cut
import Derived.Test.YtoggpnfeioaidaaDoorUtf2
import Derived.Test.YtoggpnfeioaidaaDoorMsgRead
namespace Go.Proofs.YtoggpnfeioaidaaDoor
open Go.RowKit
structure Hole where
 num:Nat
 part:Nat
 size:Nat
open Go.RowKit
section
variable {p:Nat} {d:Int} {ps:List (List UInt8)} {hs:List Hole} {b:Bool} {P:Nat→Prop} {w:World}
end
open Go.RowKit
section
variable {p:Nat} {d:Int} {ps:List (List UInt8)} {hs:List Hole} {b:Bool} {P:Nat→Prop} {w:World}
end
open Go.RowKit
section
variable {p:Nat} {d:Int} {ps:List (List UInt8)} {hs:List Hole} {b:Bool} {P:Nat→Prop} {w:World} {bx:Nat} {X:Array Value} {T:TypeId}
end
end Go.Proofs.YtoggpnfeioaidaaDoor
