/-
  Attributes written: may they be, their bytes.
-/
import Derived.Test.YtcblkndiclkacaaDoorValPlain
import Derived.Test.YtcblkndiclkacaaDoorMsgOpen
import Derived.Test.YtcblkndiclkacaaDoorAlikeB
namespace Go.Proofs.YtcblkndiclkacaaDoor
open Go.RowKit
def rF (num n:Nat):Rec:=⟨num,1,n,[],vput (8 * num+1)++eight 8 n⟩
def vrec (k:Int) (s:List UInt8) (b:Bool) (n:Nat) (L M i:List UInt8):List UInt8 :=
 if k=1∨k=7 then (rB k.toNat s).raw
 else if k=2 then (rN 2 (if b then 1 else n)).raw
 else if k=3 then (rN 3 n).raw
 else if k=4 then (rF 4 n).raw
 else if k=5 then (rB 5 (L++i)).raw
 else if k=6 then (rB 6 (M++i)).raw
 else []
def krec (key:List UInt8):List UInt8:=if key=[] then [] else (rB 1 key).raw
mutual
def vout:Val→List UInt8
 | .mk k s b n l m i u=>vrec k s b n (vouts 1 l) (kouts 1 m) i++u
def kout:KV→List UInt8
 | .mk key has v u=>(krec key++(if has then (rB 2 (vout v)).raw else []))++u
def vouts:Nat→List Val→List UInt8
 | _,[]=>[]
 | num,x::xs=>(rB num (vout x)).raw++vouts num xs
def kouts:Nat→List KV→List UInt8
 | _,[]=>[]
 | num,x::xs=>(rB num (kout x)).raw++kouts num xs
end
def vnone:Val→Bool
 | .mk k s b n l m i u=>decide (k=0)&&u.isEmpty&&vpl k s.isEmpty b n l.length m.length i.isEmpty
mutual
def vmay:Val→Int→Bool
 | .mk k s b n l m i u,d=>(vpl k s.isEmpty b n l.length m.length i.isEmpty&&(!decide (k=1)||uvalid s)&&(!decide (k=5∨k=6)||(decide (1≤d)&&((vmays l (d - 1)&&kmays m (d - 1))&&munkOk itk i (d - 1)))))&&munkOk vtk u d
def kmay:KV→Int→Bool
 | .mk key has v u,d=>(uvalid key&&(if has then decide (1≤d)&&vmay v (d - 1) else vnone v))&&munkOk ktk u d
def vmays:List Val→Int→Bool
 | [],_=>true
 | x::xs,d=>(decide (1≤d)&&vmay x (d - 1))&&vmays xs d
def kmays:List KV→Int→Bool
 | [],_=>true
 | x::xs,d=>(decide (1≤d)&&kmay x (d - 1))&&kmays xs d
end
open Go.RowKit
end Go.Proofs.YtcblkndiclkacaaDoor
