/-
  hygref13.buckets, ReadBuckets, MayBuckets, Buckets.
-/
import Derived.Test.YtficgfemmijaaaaGreatDoorRefMsg
import Derived.Test.YtficgfemmijaaaaGreatDoorBukRef
set_option maxRecDepth 1000000
set_option maxHeartbeats 16000000
namespace Go.Proofs.YtficgfemmijaaaaGreatDoor
open Go.RowKit
open Lib (hid)
theorem nats3 (w:World)(a b c:Nat):Nats .i64 (w.alloc (.cells #[.int .i64 a,.int .i64 b,.int .i64 c] 3)) (some ⟨w.heap.size,0,none⟩) [a,b,c]:=by
 intro _;refine ⟨w.heap.size,0,rfl,by simp,fun j hj=>?_⟩;have:j=0∨j=1∨j=2:=by simp at hj;omega
 rcases this with rfl|rfl|rfl
 ·exact row_cell (heap_alloc_new w _) (j:=0) rfl
 ·exact row_cell (heap_alloc_new w _) (j:=1) rfl
 ·exact row_cell (heap_alloc_new w _) (j:=2) rfl
theorem tab14_any (w:World):Calls Tryz.prog 92 #[] w fun e w'=>∃ ao,e = .returned (.slice ao 3 3)∧Hid (Nats .i64 w' ao [8,16,18])∧Below w.heap.size w w':=by
 have HN:=hid (nats3 w 8 16 18);go_enter Tryz.func92,Tryz.ntmps92;go_wp2_with fail;go_ret;exact ⟨_,rfl,HN,below_new _ _⟩
theorem btk_rtk (r:Rec):btk r=rtk [8,16,18] r:=by
 unfold btk rtk;rw[Bool.eq_iff_iff]
 simp
 omega
end Go.Proofs.YtficgfemmijaaaaGreatDoor
