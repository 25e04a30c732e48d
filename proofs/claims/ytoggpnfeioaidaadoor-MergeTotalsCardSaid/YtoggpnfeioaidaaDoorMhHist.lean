/-
  merge.Hist.
-/
import Derived.Test.YtoggpnfeioaidaaDoorMhFlt
import Derived.Test.YtoggpnfeioaidaaDoorNumsK
import Derived.Test.YtoggpnfeioaidaaDoorExList
import Derived.Test.YtoggpnfeioaidaaDoorValTake
import Derived.Test.YtoggpnfeioaidaaDoorBukWrite
import Derived.Test.YtoggpnfeioaidaaDoorErrNew
import Derived.Deep.Cut
import Derived.Deep.MidRow
import Derived.Laws.Tables
import Derived.Laws.CopyOwn
import Derived.Deep.WholeRow
import Derived.Test.YtoggpnfeioaidaaDoorMsgMath
import Derived.Test.YtoggpnfeioaidaaDoorMsgWrite
import Derived.Deep.Strs
import Derived.IntWalk
import Derived.Test.YtoggpnfeioaidaaDoorOrd
import Derived.Test.YtoggpnfeioaidaaDoorMgAdd1
import Derived.Test.YtoggpnfeioaidaaDoorMxDoor
namespace Go.Proofs.YtoggpnfeioaidaaDoor
open Go.RowKit
theorem ec_upd15 {w w':World} {v:Value} {a c:Nat} {cs:Array Value} {T:TypeId} (h:EC w v c) (hu:Upd (fun k=>k=a) w w') (hr:w.heap[a]? = some (.cells cs T (0,0))) (hs:cs.size≠2:=by decide):EC w' v c:=by
 obtain ⟨ws,h⟩:=h
 refine ⟨ws,isErr_upd hu (fun k hk b n e he=>?_) h⟩
 have hk:k=a:=hk
 subst hk
 rw[hr] at he
 have h1:=congrArg (fun o:Option Obj=>match o with|some (.cells cs _ _)=>cs.size|_=>0) he
 exact hs h1
end Go.Proofs.YtoggpnfeioaidaaDoor
