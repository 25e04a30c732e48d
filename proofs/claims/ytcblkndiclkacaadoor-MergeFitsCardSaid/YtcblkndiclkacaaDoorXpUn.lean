/-
  exph.Unmarshal of any text.
-/
import Derived.Test.YtcblkndiclkacaaDoorXrFld
import Derived.Test.YtcblkndiclkacaaDoorExEqf
import Derived.Test.YtcblkndiclkacaaDoorValTake
import Derived.Deep.Cut
import Derived.Test.YtcblkndiclkacaaDoorFld
import Derived.Test.YtcblkndiclkacaaDoorBukWrite
import Derived.Test.YtcblkndiclkacaaDoorOpenV
import Derived.Test.YtcblkndiclkacaaDoorXpOpen
import Derived.Test.YtcblkndiclkacaaDoorExSame
import Derived.Test.YtcblkndiclkacaaDoorErrNew
import Derived.Deep.MidRow
import Derived.Laws.Tables
import Derived.Laws.CopyOwn
import Derived.Deep.WholeRow
namespace Go.Proofs.YtcblkndiclkacaaDoor
open Go.RowKit
theorem upd_setRow (w:World) (g:Nat) (cs:Array Value):Upd (fun k=>k=g) w (w.setRow g cs) :=
 ⟨rfl,rfl,rfl,by simp[World.setRow],fun k _ h=>setRow_other w g k cs (fun e=>h e)⟩
end Go.Proofs.YtcblkndiclkacaaDoor
