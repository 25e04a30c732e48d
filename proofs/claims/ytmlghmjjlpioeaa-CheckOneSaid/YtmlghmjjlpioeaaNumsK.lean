/-
  Lists of numbers as lists of messages; message.AddNums.
-/
import Derived.Shelf.Strings.OnBuilder
import Derived.Test.YtmlghmjjlpioeaaProg
import Derived.Test.YtmlghmjjlpioeaaOrd
import Derived.Test.YtmlghmjjlpioeaaKit
import Derived.Test.YtmlghmjjlpioeaaMsgMath
import Derived.Test.YtmlghmjjlpioeaaWireR5
import Derived.Test.YtmlghmjjlpioeaaUpd
import Derived.Deep.LoopGhost
import Derived.Test.YtmlghmjjlpioeaaUtf2
import Derived.Deep.Cut
import Derived.Test.YtmlghmjjlpioeaaMsgWrite
import Derived.Laws.OwnMore
import Derived.Test.YtmlghmjjlpioeaaFldH
import Derived.Test.YtmlghmjjlpioeaaRowL
import Derived.Test.YtmlghmjjlpioeaaAlikeB
namespace Go.Proofs.Ytmlghmjjlpioeaa
open Go.RowKit
open Lib (hid)
def natCel:Cel Nat where
 R _ _ n cs:=cs=[.int .u64 (n:Int)]
 size:=1
 len:=by intro w P n cs h;rw[h];rfl
 upd:=by intro w w' S P Q n cs hu hs hq h;exact h
 lt:=fun h=>h
theorem nats_of_rels {w:World}{P:Nat→Prop}{l:List Nat}{ao:Option Addr}(h:CRels natCel w P l ao):Nats .u64 w ao l:=fun hn=>by
 have hl:0<l.length:=List.length_pos_iff.2 hn
 obtain ⟨g,off,cs,rfl,hP,hg,_,_⟩:=h 0 hl
 refine ⟨g,off,rfl,hg,fun j hj=>?_⟩
 obtain ⟨g',off',cs',he,_,_,hc,hr⟩:=h j hj
 simp only[Option.some.injEq,Addr.mk.injEq] at he
 obtain ⟨rfl,rfl,_⟩:=he
 have hr:cs'=[.int .u64 (l[j]:Int)]:=hr
 subst hr
 have:=hc 0 (by simp)
 rw[show off+natCel.size * j+0=off+j from by show off+1 * j+0=_;omega] at this
 simpa using this
end Go.Proofs.Ytmlghmjjlpioeaa
