/-
  exph.UnmarshalBuckets.
-/
import Derived.Test.YtcblkndiclkacaaDoorMsgRead
import Derived.Test.YtcblkndiclkacaaDoorMsgMath
import Derived.Test.YtcblkndiclkacaaDoorOrd
import Derived.Test.YtcblkndiclkacaaDoorMsgWrite
import Derived.Laws.OwnMore
import Derived.Test.YtcblkndiclkacaaDoorGet
import Derived.Test.YtcblkndiclkacaaDoorErrNew
namespace Go.Proofs.YtcblkndiclkacaaDoor
open Go.RowKit
theorem ec_in {w:World} {n:Int} {v:Value} {c:Nat} (h:EC w v c):EC (w.alloc (.cells #[.int .i64 n,v] 141)) (.iface 139 (.pointer (some ⟨w.heap.size,0,none⟩))) c:=by
 obtain ⟨ws,h⟩:=h
 exact ⟨(false,n)::ws,w.heap.size,v,rfl,by simp,heap_alloc_new w _,isErr_below ((Below.refl _ _).alloc (Nat.le_refl _) _) h⟩
structure Bk where
 off:Int
 cs:List Nat
def btk (r:Rec):Bool:=decide (r.num=2∧(r.ty=2∨r.ty=0)∨r.num=1∧r.ty=0)
structure BkOk (x:Bk):Prop where
 lo : -2147483648≤x.off
 hi:x.off≤2147483647
 each:∀ n∈x.cs,n<2 ^ 64
theorem load_buk {w:World} {g:Nat} {cs:Array Value} (hg:w.heap[g]? = some (.cells cs 24 (0,0))) (hc:cs.size=3):(loadVar 24 ⟨g,0,none⟩).run Tryd.prog w = .ok (.agg cs) w :=
 run_loadVar_row w g 24 24 cs (0,0) _ hg Tryd.underlying24 rfl (by rw[hc];kernel_rfl)
open Go.RowKit
def bmay (u:List UInt8) (d:Int):Bool:=decide (0≤d)&&munkOk btk u d
end Go.Proofs.YtcblkndiclkacaaDoor
