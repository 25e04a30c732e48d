/-
  MgNumber, MgFirst
-/
import Derived.Test.YtoggpnfeioaidaaDoorErrNew
import Derived.Test.YtoggpnfeioaidaaDoorMsgRead
import Derived.Test.YtoggpnfeioaidaaDoorMgPlaces
import Derived.Test.YtoggpnfeioaidaaDoorBukRef
set_option maxRecDepth 1000000
set_option maxHeartbeats 16000000
namespace Go.Proofs.YtoggpnfeioaidaaDoor
open Go.RowKit
theorem alike_kinds (w:World) :
  Calls Tryd.prog 32 #[.agg #[.slice none 0 0,.int .u64 0,.int .u64 0,.int .i64 1,.int .u64 0,.slice none 0 0,.int .u32 0,.string ⟨#[]⟩],.agg #[.slice none 0 0,.int .u64 0,.int .u64 0,.int .i64 2,.int .u64 0,.slice none 0 0,.int .u32 0,.string ⟨#[]⟩]] w fun e w'=>Below w.heap.size w w'∧∃ v,e = .returned v∧EC w' v 13:=by
 go_enter Tryd.func32,Tryd.ntmps32
 go_wp2_with fail
 obtain ⟨W,HW⟩:∃ W,Hid ((w.alloc (.cells #[.slice none 0 0,.int .u64 0,.int .u64 0,.int .i64 1,.int .u64 0,.slice none 0 0,.int .u32 0,.string ⟨#[]⟩] 56)).alloc (.cells #[.slice none 0 0,.int .u64 0,.int .u64 0,.int .i64 2,.int .u64 0,.slice none 0 0,.int .u32 0,.string ⟨#[]⟩] 56)=W):=⟨_,Lib.hid rfl⟩
 have HB:Hid (Below w.heap.size w W):=Lib.hid (by rw[←HW.out];exact below_step (below_new _ _) (below_new _ _))
 rw[HW.out]
 refine (in_any 4 _ _ W).mono ?_;rintro e w1 ⟨rfl,hw1⟩
 have HB1:Hid (Below w.heap.size w w1):=Lib.hid (below_step HB.out (by rw[hw1];exact below_new _ _))
 have HF1:Hid (EC w1 (.iface 97 (.pointer (some ⟨W.heap.size,0,none⟩))) 13):=Lib.hid (by rw[hw1];exact ec_field ⟨[],rfl⟩)
 clear hw1
 go_wp2_with fail
 go_ret
 exact ⟨HB1.out,_,rfl,HF1.out⟩
theorem number_no (w:World) :
  Calls Tryd.prog 15 #[.agg #[.slice none 0 0,.int .u64 0,.int .u64 0,.int .i64 1,.int .u64 0,.slice none 0 0,.int .u32 0,.string ⟨#[]⟩],.agg #[.slice none 0 0,.int .u64 0,.int .u64 0,.int .i64 2,.int .u64 0,.slice none 0 0,.int .u32 0,.string ⟨#[]⟩]] w fun e w'=>Below w.heap.size w w'∧∃ v,e = .returned (.tuple #[.agg #[.slice none 0 0,.int .u64 0,.int .u64 0,.int .i64 0,.int .u64 0,.slice none 0 0,.int .u32 0,.string ⟨#[]⟩],v])∧EC w' v 13:=by
 go_enter Tryd.func15,Tryd.ntmps15
 go_wp2_with fail
 obtain ⟨a2,HA⟩:∃ a,Hid (w.heap.size+1+1=a):=⟨_,Lib.hid rfl⟩
 obtain ⟨W,HW⟩:∃ W,Hid (((w.alloc (.cells #[.slice none 0 0,.int .u64 0,.int .u64 0,.int .i64 1,.int .u64 0,.slice none 0 0,.int .u32 0,.string ⟨#[]⟩] 56)).alloc (.cells #[.slice none 0 0,.int .u64 0,.int .u64 0,.int .i64 2,.int .u64 0,.slice none 0 0,.int .u32 0,.string ⟨#[]⟩] 56)).alloc (.cells #[.slice none 0 0,.int .u64 0,.int .u64 0,.int .i64 0,.int .u64 0,.slice none 0 0,.int .u32 0,.string ⟨#[]⟩] 56)=W):=⟨_,Lib.hid rfl⟩
 have HB:Hid (Below w.heap.size w W):=Lib.hid (by rw[←HW.out];exact below_step (below_new _ _) (below_step (below_new _ _) (below_new _ _)))
 have HR:Hid (W.heap[a2]? = some (.cells #[.slice none 0 0,.int .u64 0,.int .u64 0,.int .i64 0,.int .u64 0,.slice none 0 0,.int .u32 0,.string ⟨#[]⟩] 56 (0,0))):=Lib.hid (by
  rw[←HW.out,←HA.out]
  have h:=heap_alloc_new ((w.alloc (.cells #[.slice none 0 0,.int .u64 0,.int .u64 0,.int .i64 1,.int .u64 0,.slice none 0 0,.int .u32 0,.string ⟨#[]⟩] 56)).alloc (.cells #[.slice none 0 0,.int .u64 0,.int .u64 0,.int .i64 2,.int .u64 0,.slice none 0 0,.int .u32 0,.string ⟨#[]⟩] 56)) (.cells #[.slice none 0 0,.int .u64 0,.int .u64 0,.int .i64 0,.int .u64 0,.slice none 0 0,.int .u32 0,.string ⟨#[]⟩] 56)
  rw[show ((w.alloc (.cells #[.slice none 0 0,.int .u64 0,.int .u64 0,.int .i64 1,.int .u64 0,.slice none 0 0,.int .u32 0,.string ⟨#[]⟩] 56)).alloc (.cells #[.slice none 0 0,.int .u64 0,.int .u64 0,.int .i64 2,.int .u64 0,.slice none 0 0,.int .u32 0,.string ⟨#[]⟩] 56)).heap.size=w.heap.size+1+1 by simp] at h
  exact h)
 rw[HW.out,HA.out]
 refine (alike_kinds W).mono ?_
 rintro e w1 ⟨hb1,v,rfl,hv⟩
 have HB1:=Lib.hid (below_step HB.out hb1)
 have HR1:=Lib.hid ((hb1.block _ (row_lt HR.out)).trans HR.out)
 have HV:=Lib.hid hv
 obtain ⟨T,y,rfl⟩:=hv.iface
 clear hb1 hv
 have c0:w1.cell? ⟨a2,0,none⟩=some (.slice none 0 0):=row_cell HR1.out (j:=0) rfl
 have z0:w1.frozen? ⟨a2,0,none⟩=false:=row_thaw HR1.out 0
 have c1:w1.cell? ⟨a2,1,none⟩=some (.int .u64 0):=row_cell HR1.out (j:=1) rfl
 have z1:w1.frozen? ⟨a2,1,none⟩=false:=row_thaw HR1.out 1
 have c2:w1.cell? ⟨a2,2,none⟩=some (.int .u64 0):=row_cell HR1.out (j:=2) rfl
 have z2:w1.frozen? ⟨a2,2,none⟩=false:=row_thaw HR1.out 2
 have c3:w1.cell? ⟨a2,3,none⟩=some (.int .i64 0):=row_cell HR1.out (j:=3) rfl
 have z3:w1.frozen? ⟨a2,3,none⟩=false:=row_thaw HR1.out 3
 have c4:w1.cell? ⟨a2,4,none⟩=some (.int .u64 0):=row_cell HR1.out (j:=4) rfl
 have z4:w1.frozen? ⟨a2,4,none⟩=false:=row_thaw HR1.out 4
 have c5:w1.cell? ⟨a2,5,none⟩=some (.slice none 0 0):=row_cell HR1.out (j:=5) rfl
 have z5:w1.frozen? ⟨a2,5,none⟩=false:=row_thaw HR1.out 5
 have c6:w1.cell? ⟨a2,6,none⟩=some (.int .u32 0):=row_cell HR1.out (j:=6) rfl
 have z6:w1.frozen? ⟨a2,6,none⟩=false:=row_thaw HR1.out 6
 have c7:w1.cell? ⟨a2,7,none⟩=some (.string ⟨#[]⟩):=row_cell HR1.out (j:=7) rfl
 have z7:w1.frozen? ⟨a2,7,none⟩=false:=row_thaw HR1.out 7
 go_wp2_with fail
 (try simp only[Exit.inBlock,Exit.then])
 clear c0 c1 c2 c3 c4 c5 c6 c7 z0 z1 z2 z3 z4 z5 z6 z7
 have r0:(w1.setCell ⟨a2,0,none⟩ (.slice none 0 0)).heap[a2]? = some (.cells #[.slice none 0 0,.int .u64 0,.int .u64 0,.int .i64 0,.int .u64 0,.slice none 0 0,.int .u32 0,.string ⟨#[]⟩] 56 (0,0)):=row_set HR1.out 0 (.slice none 0 0)
 have u0:Upd (fun k=>k=a2) w1 (w1.setCell ⟨a2,0,none⟩ (.slice none 0 0)):=Upd.set w1 ⟨a2,0,none⟩ (.slice none 0 0)
 have r1:((w1.setCell ⟨a2,0,none⟩ (.slice none 0 0)).setCell ⟨a2,1,none⟩ (.int .u64 0)).heap[a2]? = some (.cells #[.slice none 0 0,.int .u64 0,.int .u64 0,.int .i64 0,.int .u64 0,.slice none 0 0,.int .u32 0,.string ⟨#[]⟩] 56 (0,0)):=row_set r0 1 (.int .u64 0)
 have u1:Upd (fun k=>k=a2) w1 ((w1.setCell ⟨a2,0,none⟩ (.slice none 0 0)).setCell ⟨a2,1,none⟩ (.int .u64 0)):=u0.trans (Upd.set _ ⟨a2,1,none⟩ (.int .u64 0))
 have r2:(((w1.setCell ⟨a2,0,none⟩ (.slice none 0 0)).setCell ⟨a2,1,none⟩ (.int .u64 0)).setCell ⟨a2,2,none⟩ (.int .u64 0)).heap[a2]? = some (.cells #[.slice none 0 0,.int .u64 0,.int .u64 0,.int .i64 0,.int .u64 0,.slice none 0 0,.int .u32 0,.string ⟨#[]⟩] 56 (0,0)):=row_set r1 2 (.int .u64 0)
 have u2:Upd (fun k=>k=a2) w1 (((w1.setCell ⟨a2,0,none⟩ (.slice none 0 0)).setCell ⟨a2,1,none⟩ (.int .u64 0)).setCell ⟨a2,2,none⟩ (.int .u64 0)):=u1.trans (Upd.set _ ⟨a2,2,none⟩ (.int .u64 0))
 have r3:((((w1.setCell ⟨a2,0,none⟩ (.slice none 0 0)).setCell ⟨a2,1,none⟩ (.int .u64 0)).setCell ⟨a2,2,none⟩ (.int .u64 0)).setCell ⟨a2,3,none⟩ (.int .i64 0)).heap[a2]? = some (.cells #[.slice none 0 0,.int .u64 0,.int .u64 0,.int .i64 0,.int .u64 0,.slice none 0 0,.int .u32 0,.string ⟨#[]⟩] 56 (0,0)):=row_set r2 3 (.int .i64 0)
 have u3:Upd (fun k=>k=a2) w1 ((((w1.setCell ⟨a2,0,none⟩ (.slice none 0 0)).setCell ⟨a2,1,none⟩ (.int .u64 0)).setCell ⟨a2,2,none⟩ (.int .u64 0)).setCell ⟨a2,3,none⟩ (.int .i64 0)):=u2.trans (Upd.set _ ⟨a2,3,none⟩ (.int .i64 0))
 have r4:(((((w1.setCell ⟨a2,0,none⟩ (.slice none 0 0)).setCell ⟨a2,1,none⟩ (.int .u64 0)).setCell ⟨a2,2,none⟩ (.int .u64 0)).setCell ⟨a2,3,none⟩ (.int .i64 0)).setCell ⟨a2,4,none⟩ (.int .u64 0)).heap[a2]? = some (.cells #[.slice none 0 0,.int .u64 0,.int .u64 0,.int .i64 0,.int .u64 0,.slice none 0 0,.int .u32 0,.string ⟨#[]⟩] 56 (0,0)):=row_set r3 4 (.int .u64 0)
 have u4:Upd (fun k=>k=a2) w1 (((((w1.setCell ⟨a2,0,none⟩ (.slice none 0 0)).setCell ⟨a2,1,none⟩ (.int .u64 0)).setCell ⟨a2,2,none⟩ (.int .u64 0)).setCell ⟨a2,3,none⟩ (.int .i64 0)).setCell ⟨a2,4,none⟩ (.int .u64 0)):=u3.trans (Upd.set _ ⟨a2,4,none⟩ (.int .u64 0))
 have r5:((((((w1.setCell ⟨a2,0,none⟩ (.slice none 0 0)).setCell ⟨a2,1,none⟩ (.int .u64 0)).setCell ⟨a2,2,none⟩ (.int .u64 0)).setCell ⟨a2,3,none⟩ (.int .i64 0)).setCell ⟨a2,4,none⟩ (.int .u64 0)).setCell ⟨a2,5,none⟩ (.slice none 0 0)).heap[a2]? = some (.cells #[.slice none 0 0,.int .u64 0,.int .u64 0,.int .i64 0,.int .u64 0,.slice none 0 0,.int .u32 0,.string ⟨#[]⟩] 56 (0,0)):=row_set r4 5 (.slice none 0 0)
 have u5:Upd (fun k=>k=a2) w1 ((((((w1.setCell ⟨a2,0,none⟩ (.slice none 0 0)).setCell ⟨a2,1,none⟩ (.int .u64 0)).setCell ⟨a2,2,none⟩ (.int .u64 0)).setCell ⟨a2,3,none⟩ (.int .i64 0)).setCell ⟨a2,4,none⟩ (.int .u64 0)).setCell ⟨a2,5,none⟩ (.slice none 0 0)):=u4.trans (Upd.set _ ⟨a2,5,none⟩ (.slice none 0 0))
 have r6:(((((((w1.setCell ⟨a2,0,none⟩ (.slice none 0 0)).setCell ⟨a2,1,none⟩ (.int .u64 0)).setCell ⟨a2,2,none⟩ (.int .u64 0)).setCell ⟨a2,3,none⟩ (.int .i64 0)).setCell ⟨a2,4,none⟩ (.int .u64 0)).setCell ⟨a2,5,none⟩ (.slice none 0 0)).setCell ⟨a2,6,none⟩ (.int .u32 0)).heap[a2]? = some (.cells #[.slice none 0 0,.int .u64 0,.int .u64 0,.int .i64 0,.int .u64 0,.slice none 0 0,.int .u32 0,.string ⟨#[]⟩] 56 (0,0)):=row_set r5 6 (.int .u32 0)
 have u6:Upd (fun k=>k=a2) w1 (((((((w1.setCell ⟨a2,0,none⟩ (.slice none 0 0)).setCell ⟨a2,1,none⟩ (.int .u64 0)).setCell ⟨a2,2,none⟩ (.int .u64 0)).setCell ⟨a2,3,none⟩ (.int .i64 0)).setCell ⟨a2,4,none⟩ (.int .u64 0)).setCell ⟨a2,5,none⟩ (.slice none 0 0)).setCell ⟨a2,6,none⟩ (.int .u32 0)):=u5.trans (Upd.set _ ⟨a2,6,none⟩ (.int .u32 0))
 have r7:((((((((w1.setCell ⟨a2,0,none⟩ (.slice none 0 0)).setCell ⟨a2,1,none⟩ (.int .u64 0)).setCell ⟨a2,2,none⟩ (.int .u64 0)).setCell ⟨a2,3,none⟩ (.int .i64 0)).setCell ⟨a2,4,none⟩ (.int .u64 0)).setCell ⟨a2,5,none⟩ (.slice none 0 0)).setCell ⟨a2,6,none⟩ (.int .u32 0)).setCell ⟨a2,7,none⟩ (.string ⟨#[]⟩)).heap[a2]? = some (.cells #[.slice none 0 0,.int .u64 0,.int .u64 0,.int .i64 0,.int .u64 0,.slice none 0 0,.int .u32 0,.string ⟨#[]⟩] 56 (0,0)):=row_set r6 7 (.string ⟨#[]⟩)
 have u7:Upd (fun k=>k=a2) w1 ((((((((w1.setCell ⟨a2,0,none⟩ (.slice none 0 0)).setCell ⟨a2,1,none⟩ (.int .u64 0)).setCell ⟨a2,2,none⟩ (.int .u64 0)).setCell ⟨a2,3,none⟩ (.int .i64 0)).setCell ⟨a2,4,none⟩ (.int .u64 0)).setCell ⟨a2,5,none⟩ (.slice none 0 0)).setCell ⟨a2,6,none⟩ (.int .u32 0)).setCell ⟨a2,7,none⟩ (.string ⟨#[]⟩)):=u6.trans (Upd.set _ ⟨a2,7,none⟩ (.string ⟨#[]⟩))
 refine body_cell2v rfl rfl (run_loadVar_row _ a2 56 56 _ (0,0) _ r7 Tryd.underlying56 rfl (by kernel_rfl)) rfl ?_
 refine ⟨HB1.out.trans (u7.below HB1.out.size (fun k _ hk=>by have hk:k=a2:=hk;have:=HA.out;omega)),_,rfl,?_⟩
 obtain ⟨ws,h⟩:=HV.out
 exact ⟨ws,isErr_upd u7 (fun k hk b n e he=>by
  have hk:k=a2:=hk
  subst hk
  rw[HR1.out] at he
  have h1:=congrArg (fun o:Option Obj=>match o with|some (.cells cs _ _)=>cs.size|_=>0) he
  exact absurd (show (8:Nat)=2 from h1) (by decide)) h⟩
open Go.RowKit
theorem first25_a:aans [⟨-1,[1,1],1⟩]=some (-1,[1,1]):=by decide +kernel
theorem first25_b:aans [⟨0,[1,1],1⟩]=some (0,[2]):=by decide +kernel
theorem first25_ok (o:Int) (h : -2147483648≤o∧o≤2147483647):Pt.Ok ⟨o,[1,1],1⟩:=⟨h.1,h.2,(by show 2≤1000000;decide),(by show 1≤31;decide),(by show ∀ n∈[1,1],n<18446744073709551616;decide)⟩
theorem nats_row {w:World} {g:Nat} {l:List Nat} {T:TypeId} (h:w.heap[g]? = some (.cells (nvals l).toArray T (0,0))):Nats .u64 w (some ⟨g,0,none⟩) l:=fun _=>by
 refine ⟨g,0,rfl,row_lt h,fun j hj=>?_⟩
 rw[Nat.zero_add,cell_of_row w g j _ _ _ h]
 simp[nvals,List.getElem?_eq_getElem hj]
theorem first25 (w:World) (hg:Hid (Glob w)) :
  Calls Tryd.prog 5 #[] w fun e w'=>e = .returned (.bool true)∧Below w.heap.size w w':=by
 obtain ⟨W,HW⟩:∃ W,Hid (w.alloc (.cells #[.int .u64 1,.int .u64 1] 23)=W):=⟨_,Lib.hid rfl⟩
 have HB:Hid (Below w.heap.size w W):=Lib.hid (by rw[←HW.out];exact below_new _ _)
 have HN:Hid (Nats .u64 W (some ⟨w.heap.size,0,none⟩) [1,1]):=Lib.hid (nats_row (T:=23) (by rw[←HW.out];exact heap_alloc_new w _))
 go_enter Tryd.func5,Tryd.ntmps5
 go_wp2_with fail
 rw[HW.out]
 refine (down_any ⟨-1,[1,1],1⟩ (Lib.hid (first25_ok _ (by decide))) (some ⟨w.heap.size,0,none⟩) 2 ⟨#[]⟩ W HN).mono ?_
 rintro E w1 ⟨hb1,hm⟩
 rw[first25_a] at hm
 obtain ⟨bo1,cap1,rfl,hc1,hn1,hg1,hN1⟩:=hm
 have HB1:=Lib.hid (below_step HB.out hb1)
 have HN1:=Lib.hid hN1
 clear hb1 hN1 hg1 hn1 hc1
 go_upto_region 2 with fail
 obtain ⟨a1,HA1⟩:∃ a,Hid (w1.heap.size=a):=⟨_,Lib.hid rfl⟩
 obtain ⟨W2,HW2⟩:∃ W,Hid (w1.alloc (.cells #[.int .i32 (-1),.slice bo1 2 cap1,.string ⟨#[]⟩] 28)=W):=⟨_,Lib.hid rfl⟩
 have hn2:Below w1.heap.size w1 W2:=by rw[←HW2.out];exact below_new _ _
 have HB2:=Lib.hid (below_step HB1.out hn2)
 have HR2:Hid (W2.heap[a1]? = some (.cells #[.int .i32 (-1),.slice bo1 2 cap1,.string ⟨#[]⟩] 28 (0,0))):=Lib.hid (by rw[←HW2.out,←HA1.out];exact heap_alloc_new w1 _)
 have HN2:=Lib.hid (HN1.out.below hn2)
 obtain ⟨W3,HW3⟩:∃ W,Hid (W2.alloc (.cells #[.int .u64 1,.int .u64 1] 23)=W):=⟨_,Lib.hid rfl⟩
 have hn3:Below W2.heap.size W2 W3:=by rw[←HW3.out];exact below_new _ _
 have HB3:=Lib.hid (below_step HB2.out hn3)
 have HN3:Hid (Nats .u64 W3 (some ⟨W2.heap.size,0,none⟩) [1,1]):=Lib.hid (nats_row (T:=23) (by rw[←HW3.out];exact heap_alloc_new W2 _))
 rw[HW2.out,HA1.out]
 go_wp2_with fail
 rw[HW3.out]
 refine (down_any ⟨0,[1,1],1⟩ (Lib.hid (first25_ok _ (by decide))) (some ⟨W2.heap.size,0,none⟩) 2 ⟨#[]⟩ W3 HN3).mono ?_
 rintro E w4 ⟨hb4,hm⟩
 rw[first25_b] at hm
 obtain ⟨bo4,cap4,rfl,hc4,hn4,hg4,hN4⟩:=hm
 have hb34:=below_step hn3 hb4
 have HB4:=Lib.hid (below_step HB2.out hb34)
 have HR4:=Lib.hid ((hb34.block _ (row_lt HR2.out)).trans HR2.out)
 have HN24:=Lib.hid (HN2.out.below hb34)
 have HN4:=Lib.hid hN4
 clear hb4 hN4 hg4 hn4 hc4 hb34 hn3 hn2
 go_upto_region 3 with fail
 obtain ⟨a4,HA4⟩:∃ a,Hid (w4.heap.size=a):=⟨_,Lib.hid rfl⟩
 obtain ⟨W5,HW5⟩:∃ W,Hid (w4.alloc (.cells #[.int .i32 0,.slice bo4 1 cap4,.string ⟨#[]⟩] 28)=W):=⟨_,Lib.hid rfl⟩
 have hn5:Below w4.heap.size w4 W5:=by rw[←HW5.out];exact below_new _ _
 have HB5:=Lib.hid (below_step HB4.out hn5)
 have HR5:=Lib.hid ((hn5.block _ (row_lt HR4.out)).trans HR4.out)
 have HQ5:Hid (W5.heap[a4]? = some (.cells #[.int .i32 0,.slice bo4 1 cap4,.string ⟨#[]⟩] 28 (0,0))):=Lib.hid (by rw[←HW5.out,←HA4.out];exact heap_alloc_new w4 _)
 have HN25:=Lib.hid (HN24.out.below hn5)
 have HN5:=Lib.hid (HN4.out.below hn5)
 clear hn5
 rw[HW5.out,HA4.out]
 go_wp2_with fail
 refine (number_no W5).mono ?_
 rintro E w6 ⟨hb6,v,rfl,hv⟩
 obtain ⟨TT,yy,rfl⟩:=hv.iface
 have HV6:=Lib.hid hv
 have HB6:=Lib.hid (below_step HB5.out hb6)
 have HR6:=Lib.hid ((hb6.block _ (row_lt HR5.out)).trans HR5.out)
 have HQ6:=Lib.hid ((hb6.block _ (row_lt HQ5.out)).trans HQ5.out)
 have HN26:=Lib.hid (HN25.out.below hb6)
 have HN6:=Lib.hid (HN5.out.below hb6)
 clear hb6 hv
 go_upto_region 4 with fail
 obtain ⟨W7,HW7⟩:∃ W,Hid (w6.alloc (.cells #[.slice none 0 0,.int .u64 0,.int .u64 0,.int .i64 0,.int .u64 0,.slice none 0 0,.int .u32 0,.string ⟨#[]⟩] 56)=W):=⟨_,Lib.hid rfl⟩
 have hn7:Below w6.heap.size w6 W7:=by rw[←HW7.out];exact below_new _ _
 have HB7:=Lib.hid (below_step HB6.out hn7)
 have HR7:=Lib.hid ((hn7.block _ (row_lt HR6.out)).trans HR6.out)
 have HQ7:=Lib.hid ((hn7.block _ (row_lt HQ6.out)).trans HQ6.out)
 have HN27:=Lib.hid (HN26.out.below hn7)
 have HN7:=Lib.hid (HN6.out.below hn7)
 have HV7:=Lib.hid (HV6.out.below hn7)
 clear hn7
 rw[HW7.out]
 have c0:W7.cell? ⟨a1,0,none⟩=some (.int .i32 (-1)):=row_cell HR7.out (j:=0) rfl
 have c1:W7.cell? ⟨a1,1,none⟩=some (.slice bo1 2 cap1):=row_cell HR7.out (j:=1) rfl
 go_wp2_with fail
 obtain ⟨Wv8,HWv8⟩:∃ W,Hid (W7.alloc (.cells #[.int .u64 1,.int .u64 1] 23)=W):=⟨_,Lib.hid rfl⟩
 have hn8:Below W7.heap.size W7 Wv8:=by rw[←HWv8.out];exact below_new _ _
 have HA8:Hid (Nats .u64 Wv8 (some ⟨W7.heap.size,0,none⟩) [1,1]):=Lib.hid (nats_row (T:=23) (by rw[←HWv8.out];exact heap_alloc_new W7 _))
 have HN28:=Lib.hid (HN27.out.below hn8)
 rw[HWv8.out]
 refine (nums_same bo1 (some ⟨W7.heap.size,0,none⟩) cap1 2 [1,1] Wv8 HN28.out HA8.out (by decide)).mono ?_
 rintro E w9 ⟨rfl,hb9⟩
 have hb79:=below_step hn8 hb9
 have HB9:=Lib.hid (below_step HB7.out hb79)
 have HQ9:=Lib.hid ((hb79.block _ (row_lt HQ7.out)).trans HQ7.out)
 have HN9:=Lib.hid (HN7.out.below hb79)
 have HV9:=Lib.hid (HV7.out.below hb79)
 clear hn8 hb9 hb79 c0 c1
 have c0:w9.cell? ⟨a4,0,none⟩=some (.int .i32 0):=row_cell HQ9.out (j:=0) rfl
 have c1:w9.cell? ⟨a4,1,none⟩=some (.slice bo4 1 cap4):=row_cell HQ9.out (j:=1) rfl
 go_wp2_with fail
 obtain ⟨W10,HW10⟩:∃ W,Hid (w9.alloc (.cells #[.int .u64 2] 23)=W):=⟨_,Lib.hid rfl⟩
 have hn10:Below w9.heap.size w9 W10:=by rw[←HW10.out];exact below_new _ _
 have HA10:Hid (Nats .u64 W10 (some ⟨w9.heap.size,0,none⟩) [2]):=Lib.hid (nats_row (T:=23) (by rw[←HW10.out];exact heap_alloc_new w9 _))
 have HN10:=Lib.hid (HN9.out.below hn10)
 rw[HW10.out]
 refine (nums_same bo4 (some ⟨w9.heap.size,0,none⟩) cap4 1 [2] W10 HN10.out HA10.out (by decide)).mono ?_
 rintro E w11 ⟨rfl,hb11⟩
 have hb91:=below_step hn10 hb11
 have HB11:=Lib.hid (below_step HB9.out hb91)
 have HV11:=Lib.hid (HV9.out.below hb91)
 have HG11:=Lib.hid (hg.out.below (HB11.out.mono (Nat.le_refl _)))
 clear hn10 hb11 hb91 c0 c1
 go_wp2_with fail
 obtain ⟨ws,hws⟩:=HV11.out
 refine (code_any ws _ _ w11 hws (root_code 13) HG11.out).mono ?_
 rintro E w12 ⟨rfl,hb12⟩
 have HB12:=Lib.hid (below_step HB11.out hb12)
 rw[show codeOf (codeV ((13:Nat):Int))=13 from rfl]
 clear hb12
 go_wp2_with fail
 go_ret
 exact ⟨rfl,HB12.out⟩
end Go.Proofs.YtoggpnfeioaidaaDoor
