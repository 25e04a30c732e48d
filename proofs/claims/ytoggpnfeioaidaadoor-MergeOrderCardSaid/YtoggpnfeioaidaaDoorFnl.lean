/-
  Messages of which a part may stand in several records, that are read as one when all records are read; zigzag numbers.
-/
import Derived.Test.YtoggpnfeioaidaaDoorMxIs
namespace Go.Proofs.YtoggpnfeioaidaaDoor
open Go.RowKit
def bstepF (s:List (List UInt8)) (r:Rec):Except Nat (List (List UInt8)) := .ok (s++[r.s])
def partF (num:Nat):Fld where
 σ:=List (List UInt8)
 z:=[]
 tk r:=decide (r.num=num∧r.ty=2)
 step _ s r:=bstepF s r
 out s:=s.map (rB num)
 may _ _:=true
 fit _:=True
 wt s:=s.flatten.length+s.length
 w0:=0
 inv _ s t:=s.flatten.length+s.length≤t
def zigF (num:Nat):Fld where
 σ:=Int
 z:=0
 tk r:=decide (r.num=num∧r.ty=0)
 step _ _ r := .ok (zag (r.n % 2 ^ 32))
 out s:=if s=0 then [] else [rN num (zig s).toNat]
 may _ _:=true
 fit s := -2147483648≤s∧s≤2147483647
 wt _:=0
 w0:=0
 inv _ s _ := -2147483648≤s∧s≤2147483647
end Go.Proofs.YtoggpnfeioaidaaDoor
