/-
  Fields: a number that may lack; packed numbers of eight bytes.
-/
import Derived.Test.YtficgfemmijaaaaGreatFld
namespace Go.Proofs.YtficgfemmijaaaaGreat
open Go.RowKit
def optF (num:Nat):Fld where
 σ:=Bool × Nat
 z:=(false,0)
 tk r:=decide (r.num=num∧r.ty=1)
 step _ _ r := .ok (true,r.n)
 out s:=if s.1=true then [rF num s.2] else []
 may _ s:=s.1||decide (s.2=0)
 fit s:=s.2<18446744073709551616
 wt _:=0
 w0:=0
 inv _ s _:=(s.1=true∨s.2=0)∧s.2<18446744073709551616
end Go.Proofs.YtficgfemmijaaaaGreat
