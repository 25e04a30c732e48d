/-
  exph.UnmarshalBuckets.
-/
import Derived.Shelf.Strings.OnBuilder
import Derived.Test.YtmlghmjjlpioeaaProg
import Derived.Test.YtmlghmjjlpioeaaOrd
import Derived.Test.YtmlghmjjlpioeaaKit
import Derived.Test.YtmlghmjjlpioeaaMsgMath
import Derived.Test.YtmlghmjjlpioeaaWireR5
import Derived.Test.YtmlghmjjlpioeaaUpd
import Derived.Deep.LoopGhost
import Derived.Test.YtmlghmjjlpioeaaUtf2
import Derived.Deep.Cut
import Derived.Test.YtmlghmjjlpioeaaMsgWrite
import Derived.Laws.OwnMore
namespace Go.Proofs.Ytmlghmjjlpioeaa
open Go.RowKit
open Lib (hid)
structure Bk where
 off:Int
 cs:List Nat
def btk (r:Rec):Bool:=decide (r.num=2∧(r.ty=2∨r.ty=0)∨r.num=1∧r.ty=0)
structure BkOk (x:Bk):Prop where
 lo : -2147483648≤x.off
 hi:x.off≤2147483647
 each:∀ n∈x.cs,n<2 ^ 64
open Go.RowKit
def bmay (u:List UInt8)(d:Int):Bool:=decide (0≤d)&&munkOk btk u d
end Go.Proofs.Ytmlghmjjlpioeaa
