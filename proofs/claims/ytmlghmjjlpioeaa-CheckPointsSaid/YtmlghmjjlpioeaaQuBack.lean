/-
  ExSub, QuBack
-/
import Derived.Test.YtmlghmjjlpioeaaRowL
import Derived.Test.YtmlghmjjlpioeaaExBack
namespace Go.Proofs.Ytmlghmjjlpioeaa
open Go.RowKit
open Lib (hid)
def exSb:Sub Ex where
 rd d t:=exrd t d
 out:=ex_out
 may d x:=ex_may d x
 fit x:=exF.fit x.1
 wt:=ex_wt
open Go.RowKit
def quF:Fld:=(numF 1).and (numF 2)
abbrev Qu:Type:=(Nat × Nat) × List UInt8
def QuRel (_:World)(_:Nat→Prop):Qu→List Value→Prop
 | ((q,v),u),cs=>cs=[.int .u64 (q:Int),.int .u64 (v:Int),strV u]
def quCel:Cel Qu where
 R:=QuRel
 size:=3
 len:=by rintro w P ⟨⟨q,v⟩,u⟩ cs h;have h:cs=_:=h;rw[h];rfl
 upd:=by rintro w w' S P Q ⟨⟨q,v⟩,u⟩ cs hu hs hq h;exact h
 lt:=by rintro w P ⟨⟨q,v⟩,u⟩ cs h;exact h
def qurd (l:List UInt8)(d:Int):Except Nat Qu:=mread (σ:=Nat × Nat) quF.tk (quF.step d) quF.z l d
def qu_may (d:Int):Qu→Bool
 | ((_,_),u)=>decide (0≤d)&&(true&&munkOk quF.tk u d)
def qu_out:Qu→List UInt8
 | ((q,v),u)=>(if q=0 then [] else (rF 1 q).raw)++(if v=0 then [] else (rF 2 v).raw)++u
def qu_wt:Qu→Nat
 | ((_,_),u)=>20+(u.length)
def qu_arg:Qu→Prop
 | ((q,v),u)=>q<18446744073709551616∧v<18446744073709551616∧u.length≤9223372036854775807
def quSb:Sub Qu where
 rd d t:=qurd t d
 out:=qu_out
 may d x:=qu_may d x
 fit x:=quF.fit x.1
 wt:=qu_wt
end Go.Proofs.Ytmlghmjjlpioeaa
