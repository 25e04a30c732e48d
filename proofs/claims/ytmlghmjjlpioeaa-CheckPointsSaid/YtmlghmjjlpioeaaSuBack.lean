/-
  Points of summaries: by their fields; in memory; there and back; joined.
-/
import Derived.Test.YtmlghmjjlpioeaaQuBack
namespace Go.Proofs.Ytmlghmjjlpioeaa
open Go.RowKit
open Lib (hid)
def suF:Fld:=(numF 2).and ((numF 3).and ((numF 4).and ((numF 5).and ((listF 6 quSb).and ((listF 7 kvS).and (var32F 8))))))
abbrev Su:Type:=(Nat × Nat × Nat × Nat × List Qu × List KV × Nat) × List UInt8
def SuRel (w:World)(P:Nat→Prop):Su→List Value→Prop
 | ((a,(t,(k,(n,(qs,(l,f)))))),u),cs=>∃ (lo:Option Addr) (lc:Nat) (qo:Option Addr) (qc:Nat),cs=[.slice lo l.length lc,.int .u64 (a:Int),.int .u64 (t:Int),.int .u64 (k:Int),.int .u64 (n:Int),.slice qo qs.length qc,.int .u32 (f:Int),strV u]∧KRels w P l lo 0∧CRels quCel w P qs qo
def suCel:Cel Su where
 R:=SuRel
 size:=8
 len:=by rintro w P ⟨⟨a,⟨t,⟨k,⟨n,⟨qs,⟨l,f⟩⟩⟩⟩⟩⟩,u⟩ cs ⟨lo,lc,qo,qc,rfl,_,_⟩;rfl
 upd:=by rintro w w' S P Q ⟨⟨a,⟨t,⟨k,⟨n,⟨qs,⟨l,f⟩⟩⟩⟩⟩⟩,u⟩ cs hu hs hq ⟨lo,lc,qo,qc,h,h0,h1⟩;exact ⟨lo,lc,qo,qc,h,KRels.upd hu hs hq _ _ _ h0,CRels.upd hu hs hq h1⟩
 lt:=by rintro w P ⟨⟨a,⟨t,⟨k,⟨n,⟨qs,⟨l,f⟩⟩⟩⟩⟩⟩,u⟩ cs ⟨lo,lc,qo,qc,h,h0,h1⟩;exact ⟨lo,lc,qo,qc,h,KRels.lt _ _ _ h0,CRels.lt h1⟩
def su_may (d:Int):Su→Bool
 | ((_,(_,(_,(_,(qs,(l,_)))))),u)=>decide (0≤d)&&((lmays quSb qs d&&kmays l d)&&munkOk suF.tk u d)
def su_wt:Su→Nat
 | ((_,(_,(_,(_,(qs,(l,_)))))),u)=>20+(lwt quSb qs+ksw l+u.length)
def su_arg:Su→Prop
 | ((a,(t,(k,(n,(qs,(l,f)))))),u)=>a<18446744073709551616∧t<18446744073709551616∧k<18446744073709551616∧n<18446744073709551616∧(∀ x∈qs,qu_arg x)∧qs.length≤9223372036854775807∧ksfit l∧kslim l∧l.length≤9223372036854775807∧f<4294967296∧u.length≤9223372036854775807
end Go.Proofs.Ytmlghmjjlpioeaa
