/-
  An exemplar, by its fields.
-/
import Derived.Test.YtoggpnfeioaidaaDoorFld
namespace Go.Proofs.YtoggpnfeioaidaaDoor
open Go.RowKit
def exF:Fld:=(numF 2).and (((kindF 3 6).wrap ((bytesF 4).and (bytesF 5)) (fun s=>if s.1=1 then [rF 3 s.2] else []) (fun s=>if s.1=2 then [rF 6 s.2] else [])).and (listF 7 kvS))
open Go.RowKit
abbrev Ex:Type:=(Nat × ((Int × Nat) × List UInt8 × List UInt8) × List KV) × List UInt8
def ExRel (w:World) (P:Nat→Prop):Ex→List Value→Prop
 | ((t,(((k,n),(a,b)),l)),u),cs=>∃ (lo:Option Addr) (lc:Nat),cs=[.slice lo l.length lc,.int .u64 (t:Int),.int .i64 k,.int .u64 (n:Int),strV a,strV b,strV u]∧KRels w P l lo 0
def exCel:Cel Ex where
 R:=ExRel
 size:=7
 len:=by rintro w P ⟨⟨t,⟨⟨⟨k,n⟩,⟨a,b⟩⟩,l⟩⟩,u⟩ cs ⟨lo,lc,rfl,_⟩;rfl
 upd:=by rintro w w' S P Q ⟨⟨t,⟨⟨⟨k,n⟩,⟨a,b⟩⟩,l⟩⟩,u⟩ cs hu hs hq ⟨lo,lc,h,h0⟩;exact ⟨lo,lc,h,KRels.upd hu hs hq _ _ _ h0⟩
 lt:=by rintro w P ⟨⟨t,⟨⟨⟨k,n⟩,⟨a,b⟩⟩,l⟩⟩,u⟩ cs ⟨lo,lc,h,h0⟩;exact ⟨lo,lc,h,KRels.lt _ _ _ h0⟩
def exrd (l:List UInt8) (d:Int):Except Nat Ex:=mread (σ:=Nat × ((Int × Nat) × List UInt8 × List UInt8) × List KV) exF.tk (exF.step d) exF.z l d
open Go.RowKit
def ex_may (d:Int):Ex→Bool
 | ((_,(((k,n),(_,_)),l)),u)=>decide (0≤d)&&((decide (k=0∧n=0∨k=1∨k=2)&&kmays l d)&&munkOk exF.tk u d)
def ex_out:Ex→List UInt8
 | ((t,(((k,n),(a,b)),l)),u)=>(if t=0 then [] else (rF 2 t).raw)++(if k=1 then (rF 3 n).raw else [])++(if a=[] then [] else (rB 4 a).raw)++(if b=[] then [] else (rB 5 b).raw)++(if k=2 then (rF 6 n).raw else [])++kouts 7 l++u
def ex_wt:Ex→Nat
 | ((_,(((_,_),(a,b)),l)),u)=>60+(a.length+b.length+ksw l+u.length)
def ex_arg:Ex→Prop
 | ((t,(((_,n),(a,b)),l)),u)=>t<18446744073709551616∧n<18446744073709551616∧a.length≤9223372036854775807∧b.length≤9223372036854775807∧ksfit l∧kslim l∧l.length≤9223372036854775807∧u.length≤9223372036854775807
open Go.RowKit
end Go.Proofs.YtoggpnfeioaidaaDoor
