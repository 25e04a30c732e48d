/-
  Points of gauges and sums: by their fields; in memory; there and back; joined.
-/
import Derived.Test.YtmlghmjjlpioeaaExSub
namespace Go.Proofs.Ytmlghmjjlpioeaa
open Go.RowKit
open Lib (hid)
def nuF:Fld:=(numF 2).and ((numF 3).and (((kindF 4 6).wrap (listF 5 exSb) (fun s=>if s.1=1 then [rF 4 s.2] else []) (fun s=>if s.1=2 then [rF 6 s.2] else [])).and ((listF 7 kvS).and (var32F 8))))
abbrev Nu:Type:=(Nat × Nat × ((Int × Nat) × List Ex) × List KV × Nat) × List UInt8
def NuRel (w:World)(P:Nat→Prop):Nu→List Value→Prop
 | ((a,(t,(((k,n),es),(l,f)))),u),cs=>∃ (lo:Option Addr) (lc:Nat) (eo:Option Addr) (ec:Nat),cs=[.slice lo l.length lc,.int .u64 (a:Int),.int .u64 (t:Int),.int .i64 k,.int .u64 (n:Int),.slice eo es.length ec,.int .u32 (f:Int),strV u]∧KRels w P l lo 0∧CRels exCel w P es eo
def nuCel:Cel Nu where
 R:=NuRel
 size:=8
 len:=by rintro w P ⟨⟨a,⟨t,⟨⟨⟨k,n⟩,es⟩,⟨l,f⟩⟩⟩⟩,u⟩ cs ⟨lo,lc,eo,ec,rfl,_,_⟩;rfl
 upd:=by rintro w w' S P Q ⟨⟨a,⟨t,⟨⟨⟨k,n⟩,es⟩,⟨l,f⟩⟩⟩⟩,u⟩ cs hu hs hq ⟨lo,lc,eo,ec,h,h0,h1⟩;exact ⟨lo,lc,eo,ec,h,KRels.upd hu hs hq _ _ _ h0,CRels.upd hu hs hq h1⟩
 lt:=by rintro w P ⟨⟨a,⟨t,⟨⟨⟨k,n⟩,es⟩,⟨l,f⟩⟩⟩⟩,u⟩ cs ⟨lo,lc,eo,ec,h,h0,h1⟩;exact ⟨lo,lc,eo,ec,h,KRels.lt _ _ _ h0,CRels.lt h1⟩
def nu_may (d:Int):Nu→Bool
 | ((_,(_,(((k,n),es),(l,_)))),u)=>decide (0≤d)&&((decide (k=0∧n=0∨k=1∨k=2)&&(lmays exSb es d&&kmays l d))&&munkOk nuF.tk u d)
def nu_arg:Nu→Prop
 | ((a,(t,(((_,n),es),(l,f)))),u)=>a<18446744073709551616∧t<18446744073709551616∧n<18446744073709551616∧(∀ x∈es,ex_arg x)∧es.length≤9223372036854775807∧ksfit l∧kslim l∧l.length≤9223372036854775807∧f<4294967296∧u.length≤9223372036854775807
theorem nu_zarg:nu_arg ((0,(0,(((0,0),[]),([],0)))),[]):=⟨(by omega),(by omega),(by omega),(fun x hx=>by cases hx),(by simp),(by rw[ksfit];trivial),(by rw[kslim];trivial),(by simp),(by omega),(by simp)⟩
end Go.Proofs.Ytmlghmjjlpioeaa
