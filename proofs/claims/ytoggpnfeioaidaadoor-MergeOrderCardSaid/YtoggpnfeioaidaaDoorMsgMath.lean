/-
  wire.Tag, record, Varint, Bytes: what they write.
-/
import Derived.Test.YtoggpnfeioaidaaDoorWireMath
import Derived.Test.YtoggpnfeioaidaaDoorGet
import Derived.Test.YtoggpnfeioaidaaDoorErrNew
import Derived.Deep.LoopGhost
import Derived.Test.YtoggpnfeioaidaaDoorWireR5
namespace Go.Proofs.YtoggpnfeioaidaaDoor
open Go.RowKit
open Go.RowKit
def eight:Nat→Nat→List UInt8
 | 0,_=>[]
 | k+1,n=>UInt8.ofNat (n % 256)::eight k (n / 256)
open Go.RowKit
def fixs (l:List UInt8) (k:Nat):List Nat:=(List.range k).map fun i=>wlit ((l.drop (8 * i)).take 8)
def eights (l:List Nat):List UInt8:=l.flatMap (eight 8)
def mfold {σ:Type} (tk:Rec→Bool) (step:σ→Rec→Except Nat σ):σ→List Rec→Except Nat σ
 | st,[] => .ok st
 | st,r::rs=>if tk r then (match step st r with
  | .error c => .error c
  | .ok st'=>mfold tk step st' rs) else mfold tk step st rs
def mrest (tk:Rec→Bool) (rs:List Rec):List Rec:=rs.filter fun r=>!tk r
def munk (tk:Rec→Bool) (rs:List Rec):List UInt8:=(mrest tk rs).flatMap Rec.raw
def mread {σ:Type} (tk:Rec→Bool) (step:σ→Rec→Except Nat σ) (st:σ) (l:List UInt8) (d:Int):Except Nat (σ × List UInt8) :=
 if d<0 then .error 6 else match wall l d with
  | .error c => .error c
  | .ok rs=>match mfold tk step st rs with
   | .error c => .error c
   | .ok st' => .ok (st',munk tk rs)
def munkOk (tk:Rec→Bool) (l:List UInt8) (d:Int):Bool:=match wall l d with
 | .error _=>false
 | .ok rs=>rs.all fun r=>!tk r
end Go.Proofs.YtoggpnfeioaidaaDoor
