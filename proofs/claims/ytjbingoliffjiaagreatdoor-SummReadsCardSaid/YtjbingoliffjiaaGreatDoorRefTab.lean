/-
  hygref8's tables of chapter 8, and its Text.
-/
import Derived.Test.YtjbingoliffjiaaGreatDoorRefMsg
import Derived.Test.YtjbingoliffjiaaGreatDoorVal
import Derived.Test.YtjbingoliffjiaaGreatDoorUtfRefW
set_option maxRecDepth 1000000
set_option maxHeartbeats 16000000
namespace Go.Proofs.YtjbingoliffjiaaGreatDoor
open Go.RowKit
theorem nats_new (w:World) (l:List Nat) (T:TypeId):Nats .i64 (w.alloc (.cells (l.map fun n:Nat=>Value.int .i64 (n:Int)).toArray T)) (some ⟨w.heap.size,0,none⟩) l:=fun _ =>
 ⟨w.heap.size,0,rfl,by simp,fun j hj=>row_cell (heap_alloc_new w _) (by rw[Nat.zero_add];simp[List.getElem?_eq_getElem hj])⟩
theorem tabV_any (w:World):Calls Tryz.prog 163 #[] w fun e w'=>∃ ao,e = .returned (.slice ao 7 7)∧Hid (Nats .i64 w' ao [10,16,24,33,42,50,58])∧Below w.heap.size w w':=by
 have HN:=Lib.hid (nats_new w [10,16,24,33,42,50,58] 3)
 go_enter Tryz.func163,Tryz.ntmps163
 go_wp2_with fail
 go_ret
 exact ⟨_,rfl,HN,below_new _ _⟩
theorem tabK_any (w:World):Calls Tryz.prog 112 #[] w fun e w'=>∃ ao,e = .returned (.slice ao 2 2)∧Hid (Nats .i64 w' ao [10,18])∧Below w.heap.size w w':=by
 have HN:=Lib.hid (nats_new w [10,18] 3)
 go_enter Tryz.func112,Tryz.ntmps112
 go_wp2_with fail
 go_ret
 exact ⟨_,rfl,HN,below_new _ _⟩
theorem tabI_any (w:World):Calls Tryz.prog 195 #[] w fun e w'=>∃ ao,e = .returned (.slice ao 1 1)∧Hid (Nats .i64 w' ao [10])∧Below w.heap.size w w':=by
 have HN:=Lib.hid (nats_new w [10] 3)
 go_enter Tryz.func195,Tryz.ntmps195
 go_wp2_with fail
 go_ret
 exact ⟨_,rfl,HN,below_new _ _⟩
theorem vtk_rtk (r:Rec):vtk r=rtk [10,16,24,33,42,50,58] r:=by
 unfold vtk rtk
 rw[Bool.eq_iff_iff]
 simp
 omega
theorem ktk_rtk (r:Rec):ktk r=rtk [10,18] r:=by
 unfold ktk rtk
 rw[Bool.eq_iff_iff]
 simp
 omega
theorem itk_rtk (r:Rec):itk r=rtk [10] r:=by
 unfold itk rtk
 rw[Bool.eq_iff_iff]
 simp
 omega
theorem ba_eta8 (X:ByteArray):(⟨X.data.toList.toArray⟩:ByteArray)=X:=ByteArray.ext (by simp)
theorem text8_key (X:ByteArray) (w:World) (hX:X.size≤1000000):Calls Tryz.prog 113 #[.string X] w fun e w'=>e = .returned (.bool (uvalid X.data.toList))∧w=w':=by
 have HB:=Lib.hid (rbad_any X w hX)
 go_enter Tryz.func113,Tryz.ntmps113
 go_wp2_with fail
 refine HB.out.mono ?_;rintro e w' ⟨rfl,rfl⟩
 go_wp2_with fail
 go_ret
 exact ⟨rfl,rfl⟩
end Go.Proofs.YtjbingoliffjiaaGreatDoor
