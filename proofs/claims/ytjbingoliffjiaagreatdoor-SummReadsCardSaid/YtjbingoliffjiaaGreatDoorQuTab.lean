/-
  hygref13.quantiles, summaries.
-/
import Derived.Test.YtjbingoliffjiaaGreatDoorRefMsg
import Derived.Test.YtjbingoliffjiaaGreatDoorSuBack
set_option maxRecDepth 1000000
set_option maxHeartbeats 16000000
namespace Go.Proofs.YtjbingoliffjiaaGreatDoor
open Go.RowKit
theorem nats_tab2 (w:World) (a0 a1:Nat):Nats .i64 (w.alloc (.cells #[.int .i64 (a0:Int),.int .i64 (a1:Int)] 3)) (some ⟨w.heap.size,0,none⟩) [a0,a1]:=by
 intro _
 refine ⟨w.heap.size,0,rfl,by simp,fun j hj=>?_⟩
 have:j=0∨j=1:=by simp at hj;omega
 rcases this with rfl|rfl
 ·exact row_cell (heap_alloc_new w _) (j:=0) rfl
 ·exact row_cell (heap_alloc_new w _) (j:=1) rfl
theorem qu_tab (w:World):Calls Tryz.prog 99 #[] w fun e w'=>∃ ao,e = .returned (.slice ao 2 2)∧Hid (Nats .i64 w' ao [9,17])∧Below w.heap.size w w':=by
 have HN:=Lib.hid (nats_tab2 w 9 17)
 go_enter Tryz.func99,Tryz.ntmps99
 go_wp2_with fail
 go_ret
 exact ⟨_,rfl,HN,below_new _ _⟩
theorem qu_rtk (r:Rec):quF.tk r=rtk [9,17] r:=by
 rw[quF_tk]
 unfold rtk
 rw[Bool.eq_iff_iff]
 simp
 omega
theorem nats_tab7s (w:World) (a0 a1 a2 a3 a4 a5 a6:Nat):Nats .i64 (w.alloc (.cells #[.int .i64 (a0:Int),.int .i64 (a1:Int),.int .i64 (a2:Int),.int .i64 (a3:Int),.int .i64 (a4:Int),.int .i64 (a5:Int),.int .i64 (a6:Int)] 3)) (some ⟨w.heap.size,0,none⟩) [a0,a1,a2,a3,a4,a5,a6]:=by
 intro _
 refine ⟨w.heap.size,0,rfl,by simp,fun j hj=>?_⟩
 have:j=0∨j=1∨j=2∨j=3∨j=4∨j=5∨j=6:=by simp at hj;omega
 rcases this with rfl|rfl|rfl|rfl|rfl|rfl|rfl
 ·exact row_cell (heap_alloc_new w _) (j:=0) rfl
 ·exact row_cell (heap_alloc_new w _) (j:=1) rfl
 ·exact row_cell (heap_alloc_new w _) (j:=2) rfl
 ·exact row_cell (heap_alloc_new w _) (j:=3) rfl
 ·exact row_cell (heap_alloc_new w _) (j:=4) rfl
 ·exact row_cell (heap_alloc_new w _) (j:=5) rfl
 ·exact row_cell (heap_alloc_new w _) (j:=6) rfl
theorem su_tab (w:World):Calls Tryz.prog 97 #[] w fun e w'=>∃ ao,e = .returned (.slice ao 7 7)∧Hid (Nats .i64 w' ao [17,25,33,41,50,58,64])∧Below w.heap.size w w':=by
 have HN:=Lib.hid (nats_tab7s w 17 25 33 41 50 58 64)
 go_enter Tryz.func97,Tryz.ntmps97
 go_wp2_with fail
 go_ret
 exact ⟨_,rfl,HN,below_new _ _⟩
theorem su_rtk (r:Rec):suF.tk r=rtk [17,25,33,41,50,58,64] r:=by
 rw[suF_tk]
 unfold rtk
 rw[Bool.eq_iff_iff]
 simp
 omega
end Go.Proofs.YtjbingoliffjiaaGreatDoor
