/-
  A point of an exponential histogram in memory.
-/
import Derived.Test.YtmlghmjjlpioeaaXpBack
import Derived.Test.YtmlghmjjlpioeaaNumsK
namespace Go.Proofs.Ytmlghmjjlpioeaa
open Go.RowKit
open Lib (hid)
def XpRel (w:World)(P:Nat→Prop):Xp→List Value→Prop
 | ((l,(a,(t,(k,((bp,vp),(sc,(zc,((gp,pb,pu),((gn,nb,nu),(f,(es,((bm,vm),((bg,vg),th))))))))))))),u),cs=>∃ (lo:Option Addr) (lc:Nat) (po:Option Addr) (pc:Nat) (no:Option Addr) (nc:Nat) (eo:Option Addr) (ec:Nat),cs=[.slice lo l.length lc,.int .u64 (a:Int),.int .u64 (t:Int),.int .u64 (k:Int),.bool bp,.int .u64 (vp:Int),.bool bm,.int .u64 (vm:Int),.bool bg,.int .u64 (vg:Int),.int .i32 sc,.int .u64 (zc:Int),.bool gp,.int .i32 pb.off,.slice po pb.cs.length pc,strV pu,.bool gn,.int .i32 nb.off,.slice no nb.cs.length nc,strV nu,.slice eo es.length ec,.int .u32 (f:Int),.int .u64 (th:Int),strV u]∧KRels w P l lo 0∧CRels natCel w P pb.cs po∧CRels natCel w P nb.cs no∧CRels exCel w P es eo
def xpCel:Cel Xp where
 R:=XpRel
 size:=24
 len:=by rintro w P ⟨⟨l,⟨a,⟨t,⟨k,⟨⟨bp,vp⟩,⟨sc,⟨zc,⟨⟨gp,pb,pu⟩,⟨⟨gn,nb,nu⟩,⟨f,⟨es,⟨⟨bm,vm⟩,⟨⟨bg,vg⟩,th⟩⟩⟩⟩⟩⟩⟩⟩⟩⟩⟩⟩⟩,u⟩ cs ⟨lo,lc,po,pc,no,nc,eo,ec,rfl,_,_,_,_⟩;rfl
 upd:=by rintro w w' S P Q ⟨⟨l,⟨a,⟨t,⟨k,⟨⟨bp,vp⟩,⟨sc,⟨zc,⟨⟨gp,pb,pu⟩,⟨⟨gn,nb,nu⟩,⟨f,⟨es,⟨⟨bm,vm⟩,⟨⟨bg,vg⟩,th⟩⟩⟩⟩⟩⟩⟩⟩⟩⟩⟩⟩⟩,u⟩ cs hu hs hq ⟨lo,lc,po,pc,no,nc,eo,ec,h,h0,h1,h2,h3⟩;exact ⟨lo,lc,po,pc,no,nc,eo,ec,h,KRels.upd hu hs hq _ _ _ h0,CRels.upd hu hs hq h1,CRels.upd hu hs hq h2,CRels.upd hu hs hq h3⟩
 lt:=by rintro w P ⟨⟨l,⟨a,⟨t,⟨k,⟨⟨bp,vp⟩,⟨sc,⟨zc,⟨⟨gp,pb,pu⟩,⟨⟨gn,nb,nu⟩,⟨f,⟨es,⟨⟨bm,vm⟩,⟨⟨bg,vg⟩,th⟩⟩⟩⟩⟩⟩⟩⟩⟩⟩⟩⟩⟩,u⟩ cs ⟨lo,lc,po,pc,no,nc,eo,ec,h,h0,h1,h2,h3⟩;exact ⟨lo,lc,po,pc,no,nc,eo,ec,h,KRels.lt _ _ _ h0,CRels.lt h1,CRels.lt h2,CRels.lt h3⟩
end Go.Proofs.Ytmlghmjjlpioeaa
