/-
  Messages by their fields: read, written, there and back, of any fields that do not share records.
-/
import Derived.Test.YtoggpnfeioaidaaDoorMsgMath
import Derived.Test.YtoggpnfeioaidaaDoorValOut
import Derived.Test.YtoggpnfeioaidaaDoorValTake
import Derived.Test.YtoggpnfeioaidaaDoorMsgRead
import Derived.Test.YtoggpnfeioaidaaDoorAlikeB
namespace Go.Proofs.YtoggpnfeioaidaaDoor
structure Fld where
 σ:Type
 z:σ
 tk:Rec→Bool
 step:Int→σ→Rec→Except Nat σ
 out:σ→List Rec
 may:Int→σ→Bool
 fit:σ→Prop
 wt:σ→Nat
 w0:Nat
 inv:Int→σ→Nat→Prop
def Fld.and (A B:Fld):Fld where
 σ:=A.σ × B.σ
 z:=(A.z,B.z)
 tk r:=A.tk r||B.tk r
 step d s r:=if A.tk r then (match A.step d s.1 r with
  | .error c => .error c
  | .ok a => .ok (a,s.2)) else (match B.step d s.2 r with
  | .error c => .error c
  | .ok b => .ok (s.1,b))
 out s:=A.out s.1++B.out s.2
 may d s:=A.may d s.1&&B.may d s.2
 fit s:=A.fit s.1∧B.fit s.2
 wt s:=A.wt s.1+B.wt s.2
 w0:=A.w0+B.w0
 inv d s t:=∃ t1 t2,t1+t2=t∧A.inv d s.1 t1∧B.inv d s.2 t2
open Go.RowKit
def var32F (num:Nat):Fld where
 σ:=Nat
 z:=0
 tk r:=decide (r.num=num∧r.ty=0)
 step _ _ r := .ok (r.n % 4294967296)
 out n:=if n=0 then [] else [rN num n]
 may _ _:=true
 fit n:=n<4294967296
 wt _:=0
 w0:=0
 inv _ n _:=n<4294967296
structure Sub (α:Type) where
 rd:Int→List UInt8→Except Nat α
 out:α→List UInt8
 may:Int→α→Bool
 fit:α→Prop
 wt:α→Nat
def lsum (l:List Nat):Nat:=l.foldr (·+·) 0
def listTk (num:Nat) (r:Rec):Bool:=decide (r.num=num∧r.ty=2)
def listStep {α:Type} (S:Sub α) (d:Int) (s:List α) (r:Rec):Except Nat (List α):=match S.rd (d - 1) r.s with
 | .error c => .error c
 | .ok x => .ok (s++[x])
def listF {α:Type} (num:Nat) (S:Sub α):Fld where
 σ:=List α
 z:=[]
 tk r:=listTk num r
 step d s r:=listStep S d s r
 out s:=s.map fun x=>rB num (S.out x)
 may d s:=s.all fun x=>decide (1≤d)&&S.may (d - 1) x
 fit s:=∀ x∈s,S.fit x
 wt s:=lsum (s.map S.wt)
 w0:=0
 inv d s t:=(∀ x∈s,1≤d∧S.may (d - 1) x=true∧S.fit x)∧lsum (s.map S.wt)≤51 * t
def kvS:Sub KV where
 rd d t:=kread 1000001 t d
 out:=kout
 may d x:=kmay x d
 fit:=kfit
 wt:=kw
open Go.RowKit
def numF (num:Nat):Fld where
 σ:=Nat
 z:=0
 tk r:=decide (r.num=num∧r.ty=1)
 step _ _ r := .ok r.n
 out n:=if n=0 then [] else [rF num n]
 may _ _:=true
 fit n:=n<18446744073709551616
 wt _:=0
 w0:=0
 inv _ n _:=n<18446744073709551616
def bytesF (num:Nat):Fld where
 σ:=List UInt8
 z:=[]
 tk r:=decide (r.num=num∧r.ty=2)
 step _ _ r := .ok r.s
 out s:=if s=[] then [] else [rB num s]
 may _ _:=true
 fit s:=s.length≤9223372036854775807
 wt s:=s.length
 w0:=0
 inv _ s t:=s.length≤t
def kindF (a b:Nat):Fld where
 σ:=Int × Nat
 z:=(0,0)
 tk r:=decide ((r.num=a∨r.num=b)∧r.ty=1)
 step _ _ r := .ok (if r.num=b then 2 else 1,r.n)
 out s:=if s.1=1 then [rF a s.2] else if s.1=2 then [rF b s.2] else []
 may _ s:=decide (s.1=0∧s.2=0∨s.1=1∨s.1=2)
 fit s:=s.2<18446744073709551616
 wt _:=0
 w0:=0
 inv _ s _:=(s.1=0∧s.2=0∨s.1=1∨s.1=2)∧s.2<18446744073709551616
def Fld.wrap (A B:Fld) (pre post:A.σ→List Rec):Fld:={ A.and B with out:=fun s=>pre s.1++B.out s.2++post s.1 }
open Go.RowKit
open Go.RowKit
open Go.RowKit
variable {F:Fld}
end Go.Proofs.YtoggpnfeioaidaaDoor
