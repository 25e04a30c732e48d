/-
  hygref25.Down, how far it may not be.
-/
import Derived.Test.YtcblkndiclkacaaDoorMgTrim
set_option maxRecDepth 1000000
set_option maxHeartbeats 16000000
namespace Go.Proofs.YtcblkndiclkacaaDoor
open Go.RowKit
theorem rdown_out (o:Int) (bo:Option Addr) (n cap:Nat) (U:ByteArray) (by':Int) (h:by' < 0∨(¬by' < 0∧31<by')) (w:World) :
  Calls Tryd.prog 14 #[.agg #[.int .i32 o,.slice bo n cap,.string U],.int .i64 by'] w fun E w'=>Below w.heap.size w w'∧E = .returned (.tuple #[.agg #[.int .i32 0,.slice none 0 0,.string ⟨#[]⟩],.int .i64 9]):=by
 rcases h with h|⟨h,h2⟩
 ·have d1:decide (by' < 0)=true:=decide_eq_true h
  clear h
  obtain ⟨a2,HA⟩:∃ a,Hid (w.heap.size+1=a):=⟨_,Lib.hid rfl⟩
  obtain ⟨W,HW⟩:∃ W,Hid ((w.alloc (.cells #[.int .i32 o,.slice bo n cap,.string U] 24)).alloc (.cells #[.int .i32 0,.slice none 0 0,.string ⟨#[]⟩] 24)=W):=⟨_,Lib.hid rfl⟩
  have HB:Hid (Below w.heap.size w W):=Lib.hid (by rw[←HW.out];exact below_step (below_new _ _) (below_new _ _))
  have HR:Hid (W.heap[a2]? = some (.cells #[.int .i32 0,.slice none 0 0,.string ⟨#[]⟩] 24 (0,0))):=Lib.hid (by
   rw[←HW.out,←HA.out]
   have h:=heap_alloc_new (w.alloc (.cells #[.int .i32 o,.slice bo n cap,.string U] 24)) (.cells #[.int .i32 0,.slice none 0 0,.string ⟨#[]⟩] 24)
   rw[show (w.alloc (.cells #[.int .i32 o,.slice bo n cap,.string U] 24)).heap.size=w.heap.size+1 by simp] at h
   exact h)
  have hz20:W.frozen? ⟨a2,0,none⟩=false:=row_thaw HR.out 0
  have hz21:W.frozen? ⟨a2,1,none⟩=false:=row_thaw HR.out 1
  have hz22:W.frozen? ⟨a2,2,none⟩=false:=row_thaw HR.out 2
  have ha0:W.cell? ⟨a2,0,none⟩=some (.int .i32 0):=row_cell HR.out (j:=0) rfl
  have ha1:W.cell? ⟨a2,1,none⟩=some (.slice none 0 0):=row_cell HR.out (j:=1) rfl
  have ha3:W.cell? ⟨a2,2,none⟩=some (.string ⟨#[]⟩):=row_cell HR.out (j:=2) rfl
  go_enter Tryd.func14,Tryd.ntmps14
  go_upto_region 1 with fail
  rw[HW.out,HA.out]
  go_wp2_with fail
  (try simp only[Exit.inBlock,Exit.then])
  have HZ:=buk_end (u := .int .i32 0) (v := .slice none 0 0) (s := .string ⟨#[]⟩) HB.out (by have:=HA.out;omega) HR.out
  refine body_cell2v rfl rfl (load_buk HZ.2.1 rfl) rfl ?_
  exact ⟨HZ.1,rfl⟩
 ·have d1:decide (by' < 0)=false:=decide_eq_false h
  have d2:decide (by' > 31)=true:=decide_eq_true h2
  clear h h2
  obtain ⟨a2,HA⟩:∃ a,Hid (w.heap.size+1=a):=⟨_,Lib.hid rfl⟩
  obtain ⟨W,HW⟩:∃ W,Hid ((w.alloc (.cells #[.int .i32 o,.slice bo n cap,.string U] 24)).alloc (.cells #[.int .i32 0,.slice none 0 0,.string ⟨#[]⟩] 24)=W):=⟨_,Lib.hid rfl⟩
  have HB:Hid (Below w.heap.size w W):=Lib.hid (by rw[←HW.out];exact below_step (below_new _ _) (below_new _ _))
  have HR:Hid (W.heap[a2]? = some (.cells #[.int .i32 0,.slice none 0 0,.string ⟨#[]⟩] 24 (0,0))):=Lib.hid (by
   rw[←HW.out,←HA.out]
   have h:=heap_alloc_new (w.alloc (.cells #[.int .i32 o,.slice bo n cap,.string U] 24)) (.cells #[.int .i32 0,.slice none 0 0,.string ⟨#[]⟩] 24)
   rw[show (w.alloc (.cells #[.int .i32 o,.slice bo n cap,.string U] 24)).heap.size=w.heap.size+1 by simp] at h
   exact h)
  have hz20:W.frozen? ⟨a2,0,none⟩=false:=row_thaw HR.out 0
  have hz21:W.frozen? ⟨a2,1,none⟩=false:=row_thaw HR.out 1
  have hz22:W.frozen? ⟨a2,2,none⟩=false:=row_thaw HR.out 2
  have ha0:W.cell? ⟨a2,0,none⟩=some (.int .i32 0):=row_cell HR.out (j:=0) rfl
  have ha1:W.cell? ⟨a2,1,none⟩=some (.slice none 0 0):=row_cell HR.out (j:=1) rfl
  have ha3:W.cell? ⟨a2,2,none⟩=some (.string ⟨#[]⟩):=row_cell HR.out (j:=2) rfl
  go_enter Tryd.func14,Tryd.ntmps14
  go_upto_region 1 with fail
  rw[HW.out,HA.out]
  go_wp2_with fail
  (try simp only[Exit.inBlock,Exit.then])
  have HZ:=buk_end (u := .int .i32 0) (v := .slice none 0 0) (s := .string ⟨#[]⟩) HB.out (by have:=HA.out;omega) HR.out
  refine body_cell2v rfl rfl (load_buk HZ.2.1 rfl) rfl ?_
  exact ⟨HZ.1,rfl⟩
end Go.Proofs.YtcblkndiclkacaaDoor
