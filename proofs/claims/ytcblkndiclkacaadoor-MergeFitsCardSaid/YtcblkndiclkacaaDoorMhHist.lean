/-
  merge.Hist.
-/
import Derived.Test.YtcblkndiclkacaaDoorXpJoin
import Derived.Test.YtcblkndiclkacaaDoorWireRA
import Derived.Test.YtcblkndiclkacaaDoorNumsK
import Derived.Test.YtcblkndiclkacaaDoorExEqf
import Derived.Test.YtcblkndiclkacaaDoorBukRef
import Derived.Test.YtcblkndiclkacaaDoorMgAdd1
import Derived.Test.YtcblkndiclkacaaDoorMxDoor
namespace Go.Proofs.YtcblkndiclkacaaDoor
open Go.RowKit
theorem ec_upd15 {w w':World} {v:Value} {a c:Nat} {cs:Array Value} {T:TypeId} (h:EC w v c) (hu:Upd (fun k=>k=a) w w') (hr:w.heap[a]? = some (.cells cs T (0,0))) (hs:cs.size≠2:=by decide):EC w' v c:=by
 obtain ⟨ws,h⟩:=h
 refine ⟨ws,isErr_upd hu (fun k hk b n e he=>?_) h⟩
 have hk:k=a:=hk
 subst hk
 rw[hr] at he
 have h1:=congrArg (fun o:Option Obj=>match o with|some (.cells cs _ _)=>cs.size|_=>0) he
 exact hs h1
end Go.Proofs.YtcblkndiclkacaaDoor
