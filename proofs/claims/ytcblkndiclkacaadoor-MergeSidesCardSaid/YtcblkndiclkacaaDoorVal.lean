/-
  Attributes: the tree, how it is read, and how it lies in memory.
-/
import Derived.Test.YtcblkndiclkacaaDoorMsgMath
import Derived.Test.YtcblkndiclkacaaDoorUpd
import Derived.Test.YtcblkndiclkacaaDoorOrd
import Derived.Test.YtcblkndiclkacaaDoorKit
import Derived.Deep.LoopGhost
import Derived.Test.YtcblkndiclkacaaDoorWireMath
import Derived.Test.YtcblkndiclkacaaDoorWireR5
import Derived.Test.YtcblkndiclkacaaDoorErrNew
namespace Go.Proofs.YtcblkndiclkacaaDoor
open Go.RowKit
mutual
inductive Val where
 | mk (kind:Int) (s:List UInt8) (b:Bool) (n:Nat) (l:List Val) (m:List KV) (inner unk:List UInt8)
inductive KV where
 | mk (key:List UInt8) (has:Bool) (v:Val) (unk:List UInt8)
end
def itk (r:Rec):Bool:=decide (r.num=1∧r.ty=2)
structure One where
 r:Rec
 ps:List (List UInt8)
def lstep {α:Type} (rd:List UInt8→Int→Except Nat α) (d:Int) (xs:List α) (r:Rec):Except Nat (List α):=match rd r.s d with
 | .error c => .error c
 | .ok x => .ok (xs++[x])
def lread {α:Type} (rd:List UInt8→Int→Except Nat α) (l:List UInt8) (d:Int):Except Nat (List α × List UInt8):=mread itk (lstep rd (d - 1)) [] l d
def stands (vr:List UInt8→Int→Except Nat Val) (kr:List UInt8→Int→Except Nat KV) (o:One) (d:Int) (unk:List UInt8):Except Nat Val :=
 if o.r.num=1∨o.r.num=7 then .ok (.mk o.r.num o.r.s false 0 [] [] [] unk)
 else if o.r.num=2 then .ok (.mk o.r.num [] (!decide (o.r.n=0)) 0 [] [] [] unk)
 else if o.r.num=3∨o.r.num=4 then .ok (.mk o.r.num [] false o.r.n [] [] [] unk)
 else if o.r.num=5 then match lread vr o.ps.flatten d with
  | .error c => .error c
  | .ok (xs,i) => .ok (.mk o.r.num [] false 0 xs [] i unk)
 else if o.r.num=6 then match lread kr o.ps.flatten d with
  | .error c => .error c
  | .ok (xs,i) => .ok (.mk o.r.num [] false 0 [] xs i unk)
 else .ok (.mk o.r.num [] false 0 [] [] [] unk)
end Go.Proofs.YtcblkndiclkacaaDoor
