/-
  FldH, NumsK
-/
import Derived.Test.YtoggpnfeioaidaaDoorFld
import Derived.Test.YtoggpnfeioaidaaDoorMsgRead
import Derived.Test.YtoggpnfeioaidaaDoorMsgMath
import Derived.Test.YtoggpnfeioaidaaDoorOrd
import Derived.Test.YtoggpnfeioaidaaDoorMsgWrite
import Derived.Laws.OwnMore
import Derived.Test.YtoggpnfeioaidaaDoorExList
import Derived.Test.YtoggpnfeioaidaaDoorAlikeB
namespace Go.Proofs.YtoggpnfeioaidaaDoor
open Go.RowKit
def optF (num:Nat):Fld where
 σ:=Bool × Nat
 z:=(false,0)
 tk r:=decide (r.num=num∧r.ty=1)
 step _ _ r := .ok (true,r.n)
 out s:=if s.1=true then [rF num s.2] else []
 may _ s:=s.1||decide (s.2=0)
 fit s:=s.2<18446744073709551616
 wt _:=0
 w0:=0
 inv _ s _:=(s.1=true∨s.2=0)∧s.2<18446744073709551616
open Go.RowKit
def natCel:Cel Nat where
 R _ _ n cs:=cs=[.int .u64 (n:Int)]
 size:=1
 len:=by intro w P n cs h;rw[h];rfl
 upd:=by intro w w' S P Q n cs hu hs hq h;exact h
 lt:=fun h=>h
theorem nats_of_rels {w:World} {P:Nat→Prop} {l:List Nat} {ao:Option Addr} (h:CRels natCel w P l ao):Nats .u64 w ao l:=fun hn=>by
 have hl:0<l.length:=List.length_pos_iff.2 hn
 obtain ⟨g,off,cs,rfl,hP,hg,_,_⟩:=h 0 hl
 refine ⟨g,off,rfl,hg,fun j hj=>?_⟩
 obtain ⟨g',off',cs',he,_,_,hc,hr⟩:=h j hj
 simp only[Option.some.injEq,Addr.mk.injEq] at he
 obtain ⟨rfl,rfl,_⟩:=he
 have hr:cs'=[.int .u64 (l[j]:Int)]:=hr
 subst hr
 have:=hc 0 (by simp)
 rw[show off+natCel.size * j+0=off+j from by show off+1 * j+0=_;omega] at this
 simpa using this
theorem rels_of_nats {w:World} {P:Nat→Prop} {l:List Nat} {ao:Option Addr} (h:Nats .u64 w ao l) (hP:∀ b off,ao=some ⟨b,off,none⟩→b<w.heap.size→P b):CRels natCel w P l ao:=fun j hj=>by
 obtain ⟨b,off,rfl,hb,hc⟩:=h (by intro e;subst e;simp at hj)
 refine ⟨b,off,[.int .u64 (l[j]:Int)],rfl,hP b off rfl hb,hb,fun i hi=>?_,rfl⟩
 have h0:i=0:=by simp at hi;omega
 subst h0
 have:=hc j hj
 rw[show off+natCel.size * j+0=off+j from by show off+1 * j+0=_;omega]
 simpa using this
end Go.Proofs.YtoggpnfeioaidaaDoor
