/-
  Fields: a number that may lack; packed numbers of eight bytes.
-/
import Derived.Test.YtmlghmjjlpioeaaFld
namespace Go.Proofs.Ytmlghmjjlpioeaa
open Go.RowKit
open Lib (hid)
def optF (num:Nat):Fld where
 σ:=Bool × Nat
 z:=(false,0)
 tk r:=decide (r.num=num∧r.ty=1)
 step _ _ r := .ok (true,r.n)
 out s:=if s.1=true then [rF num s.2] else []
 may _ s:=s.1||decide (s.2=0)
 fit s:=s.2<18446744073709551616
 wt _:=0
 w0:=0
 inv _ s _:=(s.1=true∨s.2=0)∧s.2<18446744073709551616
def fstep (xs:List Nat)(r:Rec):Except Nat (List Nat):=if r.ty≠2 then .ok (xs++[r.n]) else if r.s.length % 8=0 then .ok (xs++fixs r.s (r.s.length / 8)) else .error 1
def numsF (num:Nat):Fld where
 σ:=List Nat
 z:=[]
 tk r:=decide (r.num=num∧(r.ty=1∨r.ty=2))
 step _ s r:=fstep s r
 out s:=if s=[] then [] else [rB num (eights s)]
 may _ _:=true
 fit s:=∀ n∈s,n<18446744073709551616
 wt s:=8 * s.length
 w0:=0
 inv _ s t:=(∀ n∈s,n<18446744073709551616)∧8 * s.length≤t
end Go.Proofs.Ytmlghmjjlpioeaa
