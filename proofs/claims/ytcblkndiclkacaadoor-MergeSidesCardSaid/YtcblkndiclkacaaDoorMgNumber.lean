/-
  merge.Number of two kinds.
-/
import Derived.Test.YtcblkndiclkacaaDoorErrNew
import Derived.Test.YtcblkndiclkacaaDoorMsgRead
set_option maxRecDepth 1000000
set_option maxHeartbeats 16000000
namespace Go.Proofs.YtcblkndiclkacaaDoor
open Go.RowKit
theorem alike_kinds (w:World) :
  Calls Tryd.prog 57 #[.agg #[.slice none 0 0,.int .u64 0,.int .u64 0,.int .i64 1,.int .u64 0,.slice none 0 0,.int .u32 0,.string ⟨#[]⟩],.agg #[.slice none 0 0,.int .u64 0,.int .u64 0,.int .i64 2,.int .u64 0,.slice none 0 0,.int .u32 0,.string ⟨#[]⟩]] w fun e w'=>Below w.heap.size w w'∧∃ v,e = .returned v∧EC w' v 13:=by
 go_enter Tryd.func57,Tryd.ntmps57
 go_wp2_with fail
 obtain ⟨W,HW⟩:∃ W,Hid ((w.alloc (.cells #[.slice none 0 0,.int .u64 0,.int .u64 0,.int .i64 1,.int .u64 0,.slice none 0 0,.int .u32 0,.string ⟨#[]⟩] 71)).alloc (.cells #[.slice none 0 0,.int .u64 0,.int .u64 0,.int .i64 2,.int .u64 0,.slice none 0 0,.int .u32 0,.string ⟨#[]⟩] 71)=W):=⟨_,Lib.hid rfl⟩
 have HB:Hid (Below w.heap.size w W):=Lib.hid (by rw[←HW.out];exact below_step (below_new _ _) (below_new _ _))
 rw[HW.out]
 refine (in_any 4 _ _ W).mono ?_;rintro e w1 ⟨rfl,hw1⟩
 have HB1:Hid (Below w.heap.size w w1):=Lib.hid (below_step HB.out (by rw[hw1];exact below_new _ _))
 have HF1:Hid (EC w1 (.iface 139 (.pointer (some ⟨W.heap.size,0,none⟩))) 13):=Lib.hid (by rw[hw1];exact ec_field ⟨[],rfl⟩)
 clear hw1
 go_wp2_with fail
 go_ret
 exact ⟨HB1.out,_,rfl,HF1.out⟩
theorem number_no (w:World) :
  Calls Tryd.prog 28 #[.agg #[.slice none 0 0,.int .u64 0,.int .u64 0,.int .i64 1,.int .u64 0,.slice none 0 0,.int .u32 0,.string ⟨#[]⟩],.agg #[.slice none 0 0,.int .u64 0,.int .u64 0,.int .i64 2,.int .u64 0,.slice none 0 0,.int .u32 0,.string ⟨#[]⟩]] w fun e w'=>Below w.heap.size w w'∧∃ v,e = .returned (.tuple #[.agg #[.slice none 0 0,.int .u64 0,.int .u64 0,.int .i64 0,.int .u64 0,.slice none 0 0,.int .u32 0,.string ⟨#[]⟩],v])∧EC w' v 13:=by
 go_enter Tryd.func28,Tryd.ntmps28
 go_wp2_with fail
 obtain ⟨a2,HA⟩:∃ a,Hid (w.heap.size+1+1=a):=⟨_,Lib.hid rfl⟩
 obtain ⟨W,HW⟩:∃ W,Hid (((w.alloc (.cells #[.slice none 0 0,.int .u64 0,.int .u64 0,.int .i64 1,.int .u64 0,.slice none 0 0,.int .u32 0,.string ⟨#[]⟩] 71)).alloc (.cells #[.slice none 0 0,.int .u64 0,.int .u64 0,.int .i64 2,.int .u64 0,.slice none 0 0,.int .u32 0,.string ⟨#[]⟩] 71)).alloc (.cells #[.slice none 0 0,.int .u64 0,.int .u64 0,.int .i64 0,.int .u64 0,.slice none 0 0,.int .u32 0,.string ⟨#[]⟩] 71)=W):=⟨_,Lib.hid rfl⟩
 have HB:Hid (Below w.heap.size w W):=Lib.hid (by rw[←HW.out];exact below_step (below_new _ _) (below_step (below_new _ _) (below_new _ _)))
 have HR:Hid (W.heap[a2]? = some (.cells #[.slice none 0 0,.int .u64 0,.int .u64 0,.int .i64 0,.int .u64 0,.slice none 0 0,.int .u32 0,.string ⟨#[]⟩] 71 (0,0))):=Lib.hid (by
  rw[←HW.out,←HA.out]
  have h:=heap_alloc_new ((w.alloc (.cells #[.slice none 0 0,.int .u64 0,.int .u64 0,.int .i64 1,.int .u64 0,.slice none 0 0,.int .u32 0,.string ⟨#[]⟩] 71)).alloc (.cells #[.slice none 0 0,.int .u64 0,.int .u64 0,.int .i64 2,.int .u64 0,.slice none 0 0,.int .u32 0,.string ⟨#[]⟩] 71)) (.cells #[.slice none 0 0,.int .u64 0,.int .u64 0,.int .i64 0,.int .u64 0,.slice none 0 0,.int .u32 0,.string ⟨#[]⟩] 71)
  rw[show ((w.alloc (.cells #[.slice none 0 0,.int .u64 0,.int .u64 0,.int .i64 1,.int .u64 0,.slice none 0 0,.int .u32 0,.string ⟨#[]⟩] 71)).alloc (.cells #[.slice none 0 0,.int .u64 0,.int .u64 0,.int .i64 2,.int .u64 0,.slice none 0 0,.int .u32 0,.string ⟨#[]⟩] 71)).heap.size=w.heap.size+1+1 by simp] at h
  exact h)
 rw[HW.out,HA.out]
 refine (alike_kinds W).mono ?_
 rintro e w1 ⟨hb1,v,rfl,hv⟩
 have HB1:=Lib.hid (below_step HB.out hb1)
 have HR1:=Lib.hid ((hb1.block _ (row_lt HR.out)).trans HR.out)
 have HV:=Lib.hid hv
 obtain ⟨T,y,rfl⟩:=hv.iface
 clear hb1 hv
 have c0:w1.cell? ⟨a2,0,none⟩=some (.slice none 0 0):=row_cell HR1.out (j:=0) rfl
 have z0:w1.frozen? ⟨a2,0,none⟩=false:=row_thaw HR1.out 0
 have c1:w1.cell? ⟨a2,1,none⟩=some (.int .u64 0):=row_cell HR1.out (j:=1) rfl
 have z1:w1.frozen? ⟨a2,1,none⟩=false:=row_thaw HR1.out 1
 have c2:w1.cell? ⟨a2,2,none⟩=some (.int .u64 0):=row_cell HR1.out (j:=2) rfl
 have z2:w1.frozen? ⟨a2,2,none⟩=false:=row_thaw HR1.out 2
 have c3:w1.cell? ⟨a2,3,none⟩=some (.int .i64 0):=row_cell HR1.out (j:=3) rfl
 have z3:w1.frozen? ⟨a2,3,none⟩=false:=row_thaw HR1.out 3
 have c4:w1.cell? ⟨a2,4,none⟩=some (.int .u64 0):=row_cell HR1.out (j:=4) rfl
 have z4:w1.frozen? ⟨a2,4,none⟩=false:=row_thaw HR1.out 4
 have c5:w1.cell? ⟨a2,5,none⟩=some (.slice none 0 0):=row_cell HR1.out (j:=5) rfl
 have z5:w1.frozen? ⟨a2,5,none⟩=false:=row_thaw HR1.out 5
 have c6:w1.cell? ⟨a2,6,none⟩=some (.int .u32 0):=row_cell HR1.out (j:=6) rfl
 have z6:w1.frozen? ⟨a2,6,none⟩=false:=row_thaw HR1.out 6
 have c7:w1.cell? ⟨a2,7,none⟩=some (.string ⟨#[]⟩):=row_cell HR1.out (j:=7) rfl
 have z7:w1.frozen? ⟨a2,7,none⟩=false:=row_thaw HR1.out 7
 go_wp2_with fail
 (try simp only[Exit.inBlock,Exit.then])
 clear c0 c1 c2 c3 c4 c5 c6 c7 z0 z1 z2 z3 z4 z5 z6 z7
 have r0:(w1.setCell ⟨a2,0,none⟩ (.slice none 0 0)).heap[a2]? = some (.cells #[.slice none 0 0,.int .u64 0,.int .u64 0,.int .i64 0,.int .u64 0,.slice none 0 0,.int .u32 0,.string ⟨#[]⟩] 71 (0,0)):=row_set HR1.out 0 (.slice none 0 0)
 have u0:Upd (fun k=>k=a2) w1 (w1.setCell ⟨a2,0,none⟩ (.slice none 0 0)):=Upd.set w1 ⟨a2,0,none⟩ (.slice none 0 0)
 have r1:((w1.setCell ⟨a2,0,none⟩ (.slice none 0 0)).setCell ⟨a2,1,none⟩ (.int .u64 0)).heap[a2]? = some (.cells #[.slice none 0 0,.int .u64 0,.int .u64 0,.int .i64 0,.int .u64 0,.slice none 0 0,.int .u32 0,.string ⟨#[]⟩] 71 (0,0)):=row_set r0 1 (.int .u64 0)
 have u1:Upd (fun k=>k=a2) w1 ((w1.setCell ⟨a2,0,none⟩ (.slice none 0 0)).setCell ⟨a2,1,none⟩ (.int .u64 0)):=u0.trans (Upd.set _ ⟨a2,1,none⟩ (.int .u64 0))
 have r2:(((w1.setCell ⟨a2,0,none⟩ (.slice none 0 0)).setCell ⟨a2,1,none⟩ (.int .u64 0)).setCell ⟨a2,2,none⟩ (.int .u64 0)).heap[a2]? = some (.cells #[.slice none 0 0,.int .u64 0,.int .u64 0,.int .i64 0,.int .u64 0,.slice none 0 0,.int .u32 0,.string ⟨#[]⟩] 71 (0,0)):=row_set r1 2 (.int .u64 0)
 have u2:Upd (fun k=>k=a2) w1 (((w1.setCell ⟨a2,0,none⟩ (.slice none 0 0)).setCell ⟨a2,1,none⟩ (.int .u64 0)).setCell ⟨a2,2,none⟩ (.int .u64 0)):=u1.trans (Upd.set _ ⟨a2,2,none⟩ (.int .u64 0))
 have r3:((((w1.setCell ⟨a2,0,none⟩ (.slice none 0 0)).setCell ⟨a2,1,none⟩ (.int .u64 0)).setCell ⟨a2,2,none⟩ (.int .u64 0)).setCell ⟨a2,3,none⟩ (.int .i64 0)).heap[a2]? = some (.cells #[.slice none 0 0,.int .u64 0,.int .u64 0,.int .i64 0,.int .u64 0,.slice none 0 0,.int .u32 0,.string ⟨#[]⟩] 71 (0,0)):=row_set r2 3 (.int .i64 0)
 have u3:Upd (fun k=>k=a2) w1 ((((w1.setCell ⟨a2,0,none⟩ (.slice none 0 0)).setCell ⟨a2,1,none⟩ (.int .u64 0)).setCell ⟨a2,2,none⟩ (.int .u64 0)).setCell ⟨a2,3,none⟩ (.int .i64 0)):=u2.trans (Upd.set _ ⟨a2,3,none⟩ (.int .i64 0))
 have r4:(((((w1.setCell ⟨a2,0,none⟩ (.slice none 0 0)).setCell ⟨a2,1,none⟩ (.int .u64 0)).setCell ⟨a2,2,none⟩ (.int .u64 0)).setCell ⟨a2,3,none⟩ (.int .i64 0)).setCell ⟨a2,4,none⟩ (.int .u64 0)).heap[a2]? = some (.cells #[.slice none 0 0,.int .u64 0,.int .u64 0,.int .i64 0,.int .u64 0,.slice none 0 0,.int .u32 0,.string ⟨#[]⟩] 71 (0,0)):=row_set r3 4 (.int .u64 0)
 have u4:Upd (fun k=>k=a2) w1 (((((w1.setCell ⟨a2,0,none⟩ (.slice none 0 0)).setCell ⟨a2,1,none⟩ (.int .u64 0)).setCell ⟨a2,2,none⟩ (.int .u64 0)).setCell ⟨a2,3,none⟩ (.int .i64 0)).setCell ⟨a2,4,none⟩ (.int .u64 0)):=u3.trans (Upd.set _ ⟨a2,4,none⟩ (.int .u64 0))
 have r5:((((((w1.setCell ⟨a2,0,none⟩ (.slice none 0 0)).setCell ⟨a2,1,none⟩ (.int .u64 0)).setCell ⟨a2,2,none⟩ (.int .u64 0)).setCell ⟨a2,3,none⟩ (.int .i64 0)).setCell ⟨a2,4,none⟩ (.int .u64 0)).setCell ⟨a2,5,none⟩ (.slice none 0 0)).heap[a2]? = some (.cells #[.slice none 0 0,.int .u64 0,.int .u64 0,.int .i64 0,.int .u64 0,.slice none 0 0,.int .u32 0,.string ⟨#[]⟩] 71 (0,0)):=row_set r4 5 (.slice none 0 0)
 have u5:Upd (fun k=>k=a2) w1 ((((((w1.setCell ⟨a2,0,none⟩ (.slice none 0 0)).setCell ⟨a2,1,none⟩ (.int .u64 0)).setCell ⟨a2,2,none⟩ (.int .u64 0)).setCell ⟨a2,3,none⟩ (.int .i64 0)).setCell ⟨a2,4,none⟩ (.int .u64 0)).setCell ⟨a2,5,none⟩ (.slice none 0 0)):=u4.trans (Upd.set _ ⟨a2,5,none⟩ (.slice none 0 0))
 have r6:(((((((w1.setCell ⟨a2,0,none⟩ (.slice none 0 0)).setCell ⟨a2,1,none⟩ (.int .u64 0)).setCell ⟨a2,2,none⟩ (.int .u64 0)).setCell ⟨a2,3,none⟩ (.int .i64 0)).setCell ⟨a2,4,none⟩ (.int .u64 0)).setCell ⟨a2,5,none⟩ (.slice none 0 0)).setCell ⟨a2,6,none⟩ (.int .u32 0)).heap[a2]? = some (.cells #[.slice none 0 0,.int .u64 0,.int .u64 0,.int .i64 0,.int .u64 0,.slice none 0 0,.int .u32 0,.string ⟨#[]⟩] 71 (0,0)):=row_set r5 6 (.int .u32 0)
 have u6:Upd (fun k=>k=a2) w1 (((((((w1.setCell ⟨a2,0,none⟩ (.slice none 0 0)).setCell ⟨a2,1,none⟩ (.int .u64 0)).setCell ⟨a2,2,none⟩ (.int .u64 0)).setCell ⟨a2,3,none⟩ (.int .i64 0)).setCell ⟨a2,4,none⟩ (.int .u64 0)).setCell ⟨a2,5,none⟩ (.slice none 0 0)).setCell ⟨a2,6,none⟩ (.int .u32 0)):=u5.trans (Upd.set _ ⟨a2,6,none⟩ (.int .u32 0))
 have r7:((((((((w1.setCell ⟨a2,0,none⟩ (.slice none 0 0)).setCell ⟨a2,1,none⟩ (.int .u64 0)).setCell ⟨a2,2,none⟩ (.int .u64 0)).setCell ⟨a2,3,none⟩ (.int .i64 0)).setCell ⟨a2,4,none⟩ (.int .u64 0)).setCell ⟨a2,5,none⟩ (.slice none 0 0)).setCell ⟨a2,6,none⟩ (.int .u32 0)).setCell ⟨a2,7,none⟩ (.string ⟨#[]⟩)).heap[a2]? = some (.cells #[.slice none 0 0,.int .u64 0,.int .u64 0,.int .i64 0,.int .u64 0,.slice none 0 0,.int .u32 0,.string ⟨#[]⟩] 71 (0,0)):=row_set r6 7 (.string ⟨#[]⟩)
 have u7:Upd (fun k=>k=a2) w1 ((((((((w1.setCell ⟨a2,0,none⟩ (.slice none 0 0)).setCell ⟨a2,1,none⟩ (.int .u64 0)).setCell ⟨a2,2,none⟩ (.int .u64 0)).setCell ⟨a2,3,none⟩ (.int .i64 0)).setCell ⟨a2,4,none⟩ (.int .u64 0)).setCell ⟨a2,5,none⟩ (.slice none 0 0)).setCell ⟨a2,6,none⟩ (.int .u32 0)).setCell ⟨a2,7,none⟩ (.string ⟨#[]⟩)):=u6.trans (Upd.set _ ⟨a2,7,none⟩ (.string ⟨#[]⟩))
 refine body_cell2v rfl rfl (run_loadVar_row _ a2 71 71 _ (0,0) _ r7 Tryd.underlying71 rfl (by kernel_rfl)) rfl ?_
 refine ⟨HB1.out.trans (u7.below HB1.out.size (fun k _ hk=>by have hk:k=a2:=hk;have:=HA.out;omega)),_,rfl,?_⟩
 obtain ⟨ws,h⟩:=HV.out
 exact ⟨ws,isErr_upd u7 (fun k hk b n e he=>by
  have hk:k=a2:=hk
  subst hk
  rw[HR1.out] at he
  have h1:=congrArg (fun o:Option Obj=>match o with|some (.cells cs _ _)=>cs.size|_=>0) he
  exact absurd (show (8:Nat)=2 from h1) (by decide)) h⟩
end Go.Proofs.YtcblkndiclkacaaDoor
