/-
  exph.UnmarshalBuckets.
-/
import Derived.Test.YtoggpnfeioaidaaDoorMsgRead
import Derived.Test.YtoggpnfeioaidaaDoorMsgMath
import Derived.Test.YtoggpnfeioaidaaDoorOrd
import Derived.Test.YtoggpnfeioaidaaDoorMsgWrite
import Derived.Laws.OwnMore
import Derived.Test.YtoggpnfeioaidaaDoorGet
import Derived.Test.YtoggpnfeioaidaaDoorErrNew
namespace Go.Proofs.YtoggpnfeioaidaaDoor
open Go.RowKit
theorem ec_in {w:World} {n:Int} {v:Value} {c:Nat} (h:EC w v c):EC (w.alloc (.cells #[.int .i64 n,v] 99)) (.iface 97 (.pointer (some ⟨w.heap.size,0,none⟩))) c:=by
 obtain ⟨ws,h⟩:=h
 exact ⟨(false,n)::ws,w.heap.size,v,rfl,by simp,heap_alloc_new w _,isErr_below ((Below.refl _ _).alloc (Nat.le_refl _) _) h⟩
structure Bk where
 off:Int
 cs:List Nat
def btk (r:Rec):Bool:=decide (r.num=2∧(r.ty=2∨r.ty=0)∨r.num=1∧r.ty=0)
structure BkOk (x:Bk):Prop where
 lo : -2147483648≤x.off
 hi:x.off≤2147483647
 each:∀ n∈x.cs,n<2 ^ 64
theorem load_buk {w:World} {g:Nat} {cs:Array Value} (hg:w.heap[g]? = some (.cells cs 28 (0,0))) (hc:cs.size=3):(loadVar 28 ⟨g,0,none⟩).run Tryd.prog w = .ok (.agg cs) w :=
 run_loadVar_row w g 28 28 cs (0,0) _ hg Tryd.underlying28 rfl (by rw[hc];kernel_rfl)
open Go.RowKit
def bmay (u:List UInt8) (d:Int):Bool:=decide (0≤d)&&munkOk btk u d
end Go.Proofs.YtoggpnfeioaidaaDoor
