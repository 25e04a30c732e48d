/-
  Points of histograms: by their fields; in memory; there and back; joined.
-/
import Derived.Test.YtoggpnfeioaidaaDoorMgEach
import Derived.Test.YtoggpnfeioaidaaDoorFmB
namespace Go.Proofs.YtoggpnfeioaidaaDoor
open Go.RowKit
def hiF:Fld:=(numF 2).and ((numF 3).and ((numF 4).and ((optF 5).and ((numsF 6).and ((numsF 7).and ((listF 8 exSb).and ((listF 9 kvS).and ((var32F 10).and ((optF 11).and (optF 12))))))))))
abbrev Hi:Type:=(Nat × Nat × Nat × (Bool × Nat) × List Nat × List Nat × List Ex × List KV × Nat × (Bool × Nat) × Bool × Nat) × List UInt8
def HiRel (w:World) (P:Nat→Prop):Hi→List Value→Prop
 | ((a,(t,(k,((ph,pn),(nc,(nb,(es,(l,(f,((mh,mn),(gh,gn))))))))))),u),cs=>∃ (lo:Option Addr) (lc:Nat) (nco:Option Addr) (ncc:Nat) (nbo:Option Addr) (nbc:Nat) (eo:Option Addr) (ec:Nat),cs=[.slice lo l.length lc,.int .u64 (a:Int),.int .u64 (t:Int),.int .u64 (k:Int),.bool ph,.int .u64 (pn:Int),.bool mh,.int .u64 (mn:Int),.bool gh,.int .u64 (gn:Int),.slice nco nc.length ncc,.slice nbo nb.length nbc,.slice eo es.length ec,.int .u32 (f:Int),strV u]∧KRels w P l lo 0∧CRels natCel w P nc nco∧CRels natCel w P nb nbo∧CRels exCel w P es eo
def hiCel:Cel Hi where
 R:=HiRel
 size:=15
 len:=by rintro w P ⟨⟨a,⟨t,⟨k,⟨⟨ph,pn⟩,⟨nc,⟨nb,⟨es,⟨l,⟨f,⟨⟨mh,mn⟩,⟨gh,gn⟩⟩⟩⟩⟩⟩⟩⟩⟩⟩⟩,u⟩ cs ⟨lo,lc,nco,ncc,nbo,nbc,eo,ec,rfl,_,_,_,_⟩;rfl
 upd:=by rintro w w' S P Q ⟨⟨a,⟨t,⟨k,⟨⟨ph,pn⟩,⟨nc,⟨nb,⟨es,⟨l,⟨f,⟨⟨mh,mn⟩,⟨gh,gn⟩⟩⟩⟩⟩⟩⟩⟩⟩⟩⟩,u⟩ cs hu hs hq ⟨lo,lc,nco,ncc,nbo,nbc,eo,ec,h,h0,h1,h2,h3⟩;exact ⟨lo,lc,nco,ncc,nbo,nbc,eo,ec,h,KRels.upd hu hs hq _ _ _ h0,CRels.upd hu hs hq h1,CRels.upd hu hs hq h2,CRels.upd hu hs hq h3⟩
 lt:=by rintro w P ⟨⟨a,⟨t,⟨k,⟨⟨ph,pn⟩,⟨nc,⟨nb,⟨es,⟨l,⟨f,⟨⟨mh,mn⟩,⟨gh,gn⟩⟩⟩⟩⟩⟩⟩⟩⟩⟩⟩,u⟩ cs ⟨lo,lc,nco,ncc,nbo,nbc,eo,ec,h,h0,h1,h2,h3⟩;exact ⟨lo,lc,nco,ncc,nbo,nbc,eo,ec,h,KRels.lt _ _ _ h0,CRels.lt h1,CRels.lt h2,CRels.lt h3⟩
def hi_may (d:Int):Hi→Bool
 | ((_,(_,(_,((ph,pn),(_,(_,(es,(l,(_,((mh,mn),(gh,gn))))))))))),u)=>decide (0≤d)&&(((ph||decide (pn=0))&&(lmays exSb es d&&(kmays l d&&((mh||decide (mn=0))&&(gh||decide (gn=0))))))&&munkOk hiF.tk u d)
def hi_wt:Hi→Nat
 | ((_,(_,(_,((_,_),(nc,(nb,(es,(l,(_,((_,_),(_,_))))))))))),u)=>60+(8 * nc.length+8 * nb.length+lwt exSb es+ksw l+u.length)
def hi_arg:Hi→Prop
 | ((a,(t,(k,((_,pn),(nc,(nb,(es,(l,(f,((_,mn),(_,gn))))))))))),u)=>a<18446744073709551616∧t<18446744073709551616∧k<18446744073709551616∧pn<18446744073709551616∧(∀ n∈nc,n<18446744073709551616)∧nc.length≤9223372036854775807∧(∀ n∈nb,n<18446744073709551616)∧nb.length≤9223372036854775807∧(∀ x∈es,ex_arg x)∧es.length≤9223372036854775807∧ksfit l∧kslim l∧l.length≤9223372036854775807∧f<4294967296∧mn<18446744073709551616∧gn<18446744073709551616∧u.length≤9223372036854775807
theorem hi_zrel (w:World) (P:Nat→Prop):hiCel.R w P ((0,(0,(0,((false,0),([],([],([],([],(0,((false,0),(false,0))))))))))),[]) [.slice none 0 0,.int .u64 0,.int .u64 0,.int .u64 0,.bool false,.int .u64 0,.bool false,.int .u64 0,.bool false,.int .u64 0,.slice none 0 0,.slice none 0 0,.slice none 0 0,.int .u32 0,.string ⟨#[]⟩]:=⟨none,0,none,0,none,0,none,0,rfl,by rw[KRels];trivial,CRels.nil _ _ _ _,CRels.nil _ _ _ _,CRels.nil _ _ _ _⟩
end Go.Proofs.YtoggpnfeioaidaaDoor
