/-
  Package utf: signs, what is whole.
-/
import Derived.Test.YtoggpnfeioaidaaDoorGet
import Derived.Deep.LoopGhost
namespace Go.Proofs.YtoggpnfeioaidaaDoor
open Go.RowKit
def usize (c:Nat):Nat:=if 244<c∨(128≤c∧c<194) then 0 else if 240≤c then 4 else if 224≤c then 3 else if 194≤c then 2 else 1
def usecond (c d:Nat):Bool :=
 if c=224 then decide (160≤d∧d≤191) else if c=237 then decide (128≤d∧d≤159) else if c=240 then decide (144≤d∧d≤191) else if c=244 then decide (128≤d∧d≤143) else decide (128≤d∧d≤191)
def ucont (b:UInt8):Bool:=decide (128≤b.toNat∧b.toNat≤191)
def usign (l:List UInt8):Nat :=
 let n:=usize (l.getD 0 0).toNat
 if n=0∨l.length<n then 0 else if 1<n∧usecond (l.getD 0 0).toNat (l.getD 1 0).toNat=false then 0
 else if ((l.take n).drop 2).all ucont then n else 0
open Go.RowKit
def whl:Nat→List UInt8→Int→Nat
 | 0,_,_=>0
 | f+1,l,n=>if l=[]∨usign l=0∨n<usign l then 0 else usign l+whl f (l.drop (usign l)) (n - usign l)
def uwhole (l:List UInt8) (n:Int):Nat:=whl l.length l n
def ubad (l:List UInt8):Int:=if uwhole l l.length=l.length then -1 else uwhole l l.length
def uvalid (l:List UInt8):Bool:=decide (ubad l<0)
end Go.Proofs.YtoggpnfeioaidaaDoor
