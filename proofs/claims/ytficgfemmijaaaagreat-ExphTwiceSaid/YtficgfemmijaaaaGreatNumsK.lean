/-
  Lists of numbers as lists of messages; message.AddNums.
-/
import Derived.Test.YtficgfemmijaaaaGreatMsgPack
import Derived.Test.YtficgfemmijaaaaGreatFldH
import Derived.Test.YtficgfemmijaaaaGreatRowL
import Derived.Test.YtficgfemmijaaaaGreatAlikeB
namespace Go.Proofs.YtficgfemmijaaaaGreat
open Go.RowKit
open Lib (hid)
def natCel:Cel Nat where
 R _ _ n cs:=cs=[.int .u64 n]
 size:=1
 len:=by intro w P n cs h;rw[h];rfl
 upd:=by intro w w' S P Q n cs hu hs hq h;exact h
 lt:=fun h=>h
theorem nats_flat:∀ xs:List Nat,(xs.map fun n:Nat=>[Value.int .u64 n]).flatten=nats64 xs
 | []=>rfl
 | x::xs=>by
  rw[List.map_cons,List.flatten_cons,nats_flat xs]
  rfl
theorem nats_ls {base:Nat}{v:Value}{xs:List Nat}{w:World}(h:w.ownsRow base 23 1 v xs.length (nats64 xs)):LsAt natCel 23 base v xs (fun k=>v.ownBlock=some k∨False) w:=by
 refine ⟨xs.map fun n:Nat=>[Value.int .u64 n],fun _=>False,?_,by rw[List.length_map],fun j a b=>?_,fun _ h=>h.elim,rfl⟩
 ·rw[nats_flat];exact h
 ·show _=_
  rw[List.getElem_map]
theorem nats_of_rels {w:World}{P:Nat→Prop}{l:List Nat}{ao:Option Addr}(h:CRels natCel w P l ao):Nats .u64 w ao l:=fun hn=>by
 have hl:0<l.length:=List.length_pos_iff.2 hn;obtain ⟨g,off,cs,rfl,hP,hg,_,_⟩:=h 0 hl;refine ⟨g,off,rfl,hg,fun j hj=>?_⟩;obtain ⟨g',off',cs',he,_,_,hc,hr⟩:=h j hj
 simp only[Option.some.injEq,Addr.mk.injEq] at he
 obtain ⟨rfl,rfl,_⟩:=he;have hr:cs'=[.int .u64 (l[j]:Int)]:=hr;subst hr;have:=hc 0 (by simp);rw[show off+natCel.size * j+0=off+j from by show off+1 * j+0=_;omega] at this
 simpa using this
end Go.Proofs.YtficgfemmijaaaaGreat
