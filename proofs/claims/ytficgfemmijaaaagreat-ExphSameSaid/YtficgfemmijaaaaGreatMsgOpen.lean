/-
  message.Writer: messages within: Open, Close.
-/
import Derived.Test.YtficgfemmijaaaaGreatMsgWrite
import Derived.Deep.Cut
import Derived.Test.YtficgfemmijaaaaGreatUtf2
import Derived.Test.YtficgfemmijaaaaGreatMsgRead
namespace Go.Proofs.YtficgfemmijaaaaGreat
open Go.RowKit
structure Hole where
 num:Nat
 part:Nat
 size:Nat
def hcells (h:Hole):List Value:=[.int .i64 (h.num:Int),.int .i64 (h.part:Int),.int .i64 (h.size:Int)]
open Go.RowKit
section
variable {p:Nat} {d:Int} {ps:List (List UInt8)} {hs:List Hole} {b:Bool} {P:Nat→Prop} {w:World}
end
open Go.RowKit
section
variable {p:Nat} {d:Int} {ps:List (List UInt8)} {hs:List Hole} {b:Bool} {P:Nat→Prop} {w:World}
end
open Go.RowKit
section
variable {p:Nat} {d:Int} {ps:List (List UInt8)} {hs:List Hole} {b:Bool} {P:Nat→Prop} {w:World} {bx:Nat} {X:Array Value} {T:TypeId}
end
end Go.Proofs.YtficgfemmijaaaaGreat
