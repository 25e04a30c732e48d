/-
  hyglaw14.ExphSame.
-/
import Derived.Test.YtficgfemmijaaaaGreatXpSame
import Derived.Test.YtficgfemmijaaaaGreatXpSameR
import Derived.Test.YtficgfemmijaaaaGreatXpRoom
import Derived.Test.YtficgfemmijaaaaGreatFirst14
import Derived.Deep.MidRow
set_option maxRecDepth 1000000
set_option maxHeartbeats 16000000
namespace Go.Proofs.YtficgfemmijaaaaGreat
open Go.RowKit
theorem range_row {w:World} {g:Nat} {cs:List Value} {T:TypeId} {fr:Nat × Nat} (h:w.heap[g]? = some (.cells cs.toArray T fr)):w.rangeAt g 0 cs:=fun j v hj=>by
  rw[Nat.zero_add]
  exact row_cell h (by simpa using hj)
theorem xpsm_false (x:Xp) (ca:List Value) (P:Nat→Prop) (y:Xp) (cb:List Value) (Q:Nat→Prop) (w:World) (ha1:xp_arg x) (hr1:xpCel.R w P x ca) (ha2:xp_arg y) (hr2:xpCel.R w Q y cb) (hal:alike x y=false) :
 Calls Tryz.prog 3 #[.agg ca.toArray,.agg cb.toArray] w fun e w'=>e = .returned (.bool true)∧Below w.heap.size w w':=by
 obtain ⟨⟨l1,⟨a1,⟨t1,⟨k1,⟨⟨bp1,vp1⟩,⟨sc1,⟨zc1,⟨⟨gp1,pb1,pu1⟩,⟨⟨gn1,nb1,nu1⟩,⟨f1,⟨es1,⟨⟨bm1,vm1⟩,⟨⟨bg1,vg1⟩,th1⟩⟩⟩⟩⟩⟩⟩⟩⟩⟩⟩⟩⟩,u1⟩:=x
 obtain ⟨⟨l2,⟨a2,⟨t2,⟨k2,⟨⟨bp2,vp2⟩,⟨sc2,⟨zc2,⟨⟨gp2,pb2,pu2⟩,⟨⟨gn2,nb2,nu2⟩,⟨f2,⟨es2,⟨⟨bm2,vm2⟩,⟨⟨bg2,vg2⟩,th2⟩⟩⟩⟩⟩⟩⟩⟩⟩⟩⟩⟩⟩,u2⟩:=y
 have hs1:=hr1
 obtain ⟨lo1,lc1,po1,pc1,no1,nc1,eo1,ec1,rfl,_,_,_,_⟩:=hs1
 have hs2:=hr2
 obtain ⟨lo2,lc2,po2,pc2,no2,nc2,eo2,ec2,rfl,_,_,_,_⟩:=hs2
 dsimp only[strV]
 obtain ⟨Xpu1,epu1⟩:∃ X:ByteArray,(⟨pu1.toArray⟩:ByteArray)=X:=⟨_,rfl⟩
 have HNpu1:=Lib.hid epu1
 clear epu1
 obtain ⟨Xnu1,enu1⟩:∃ X:ByteArray,(⟨nu1.toArray⟩:ByteArray)=X:=⟨_,rfl⟩
 have HNnu1:=Lib.hid enu1
 clear enu1
 obtain ⟨Xu1,eu1⟩:∃ X:ByteArray,(⟨u1.toArray⟩:ByteArray)=X:=⟨_,rfl⟩
 have HNu1:=Lib.hid eu1
 clear eu1
 obtain ⟨Xpu2,epu2⟩:∃ X:ByteArray,(⟨pu2.toArray⟩:ByteArray)=X:=⟨_,rfl⟩
 have HNpu2:=Lib.hid epu2
 clear epu2
 obtain ⟨Xnu2,enu2⟩:∃ X:ByteArray,(⟨nu2.toArray⟩:ByteArray)=X:=⟨_,rfl⟩
 have HNnu2:=Lib.hid enu2
 clear enu2
 obtain ⟨Xu2,eu2⟩:∃ X:ByteArray,(⟨u2.toArray⟩:ByteArray)=X:=⟨_,rfl⟩
 have HNu2:=Lib.hid eu2
 clear eu2
 rw[HNpu1.out,HNnu1.out,HNu1.out,HNpu2.out,HNnu2.out,HNu2.out]
 have HAL:=Lib.hid hal
 have HARG1:=Lib.hid ha1
 have HARG2:=Lib.hid ha2
 obtain ⟨W,hW⟩:∃ W,(w.alloc (.cells #[.slice lo1 l1.length lc1,.int .u64 (a1:Int),.int .u64 (t1:Int),.int .u64 (k1:Int),.bool bp1,.int .u64 (vp1:Int),.bool bm1,.int .u64 (vm1:Int),.bool bg1,.int .u64 (vg1:Int),.int .i32 sc1,.int .u64 (zc1:Int),.bool gp1,.int .i32 pb1.off,.slice po1 pb1.cs.length pc1,.string Xpu1,.bool gn1,.int .i32 nb1.off,.slice no1 nb1.cs.length nc1,.string Xnu1,.slice eo1 es1.length ec1,.int .u32 (f1:Int),.int .u64 (th1:Int),.string Xu1] 32)).alloc (.cells #[.slice lo2 l2.length lc2,.int .u64 (a2:Int),.int .u64 (t2:Int),.int .u64 (k2:Int),.bool bp2,.int .u64 (vp2:Int),.bool bm2,.int .u64 (vm2:Int),.bool bg2,.int .u64 (vg2:Int),.int .i32 sc2,.int .u64 (zc2:Int),.bool gp2,.int .i32 pb2.off,.slice po2 pb2.cs.length pc2,.string Xpu2,.bool gn2,.int .i32 nb2.off,.slice no2 nb2.cs.length nc2,.string Xnu2,.slice eo2 es2.length ec2,.int .u32 (f2:Int),.int .u64 (th2:Int),.string Xu2] 32)=W:=⟨_,rfl⟩
 obtain ⟨blr1,hb1⟩:∃ b,w.heap.size=b:=⟨_,rfl⟩
 obtain ⟨blr2,hb2⟩:∃ b,w.heap.size+1=b:=⟨_,rfl⟩
 have hbw:Below w.heap.size w W:=by rw[←hW];exact below_step (below_new _ _) (below_new _ _)
 have hra:W.heap[blr1]? = some (.cells #[.slice lo1 l1.length lc1,.int .u64 (a1:Int),.int .u64 (t1:Int),.int .u64 (k1:Int),.bool bp1,.int .u64 (vp1:Int),.bool bm1,.int .u64 (vm1:Int),.bool bg1,.int .u64 (vg1:Int),.int .i32 sc1,.int .u64 (zc1:Int),.bool gp1,.int .i32 pb1.off,.slice po1 pb1.cs.length pc1,.string Xpu1,.bool gn1,.int .i32 nb1.off,.slice no1 nb1.cs.length nc1,.string Xnu1,.slice eo1 es1.length ec1,.int .u32 (f1:Int),.int .u64 (th1:Int),.string Xu1] 32 (0,0)):=by rw[←hW,←hb1];exact (Below.heap_alloc _ _ _ (by simp)).trans (heap_alloc_new w _)
 have hrk:W.heap[blr2]? = some (.cells #[.slice lo2 l2.length lc2,.int .u64 (a2:Int),.int .u64 (t2:Int),.int .u64 (k2:Int),.bool bp2,.int .u64 (vp2:Int),.bool bm2,.int .u64 (vm2:Int),.bool bg2,.int .u64 (vg2:Int),.int .i32 sc2,.int .u64 (zc2:Int),.bool gp2,.int .i32 pb2.off,.slice po2 pb2.cs.length pc2,.string Xpu2,.bool gn2,.int .i32 nb2.off,.slice no2 nb2.cs.length nc2,.string Xnu2,.slice eo2 es2.length ec2,.int .u32 (f2:Int),.int .u64 (th2:Int),.string Xu2] 32 (0,0)):=by rw[←hW,←hb2];have:=heap_alloc_new (w.alloc (.cells #[.slice lo1 l1.length lc1,.int .u64 (a1:Int),.int .u64 (t1:Int),.int .u64 (k1:Int),.bool bp1,.int .u64 (vp1:Int),.bool bm1,.int .u64 (vm1:Int),.bool bg1,.int .u64 (vg1:Int),.int .i32 sc1,.int .u64 (zc1:Int),.bool gp1,.int .i32 pb1.off,.slice po1 pb1.cs.length pc1,.string Xpu1,.bool gn1,.int .i32 nb1.off,.slice no1 nb1.cs.length nc1,.string Xnu1,.slice eo1 es1.length ec1,.int .u32 (f1:Int),.int .u64 (th1:Int),.string Xu1] 32)) (.cells #[.slice lo2 l2.length lc2,.int .u64 (a2:Int),.int .u64 (t2:Int),.int .u64 (k2:Int),.bool bp2,.int .u64 (vp2:Int),.bool bm2,.int .u64 (vm2:Int),.bool bg2,.int .u64 (vg2:Int),.int .i32 sc2,.int .u64 (zc2:Int),.bool gp2,.int .i32 pb2.off,.slice po2 pb2.cs.length pc2,.string Xpu2,.bool gn2,.int .i32 nb2.off,.slice no2 nb2.cs.length nc2,.string Xnu2,.slice eo2 es2.length ec2,.int .u32 (f2:Int),.int .u64 (th2:Int),.string Xu2] 32);simpa using this
 have H1:=Lib.hid (Fx.nil w)
 have H2:=Lib.hid (H1.out.cel (hr1))
 clear H1
 have H3:=Lib.hid (H2.out.cel (hr2))
 clear H2
 have hb:=hbw
 have H4:=Lib.hid (H3.out.below hb)
 clear hb H3
 have H5:=Lib.hid (H4.out.base (hbw))
 clear H4
 have H6:=Lib.hid (H5.out.row (hra))
 clear H5
 have H7:=Lib.hid (H6.out.row (hrk))
 clear H6
 have HW:=Lib.hid hW
 have HBA:=Lib.hid hb1
 have HBB:=Lib.hid hb2
 clear hW hb1 hb2 hbw hra hrk hr1 hr2 hal ha1 ha2
 go_enter Tryz.func3,Tryz.ntmps3
 go_upto_region 1 with fail
 rw[HW.out,HBB.out,HBA.out]
 go_wp2_with fail
 refine (first14 W).mono ?_;rintro e w1 ⟨rfl,hb⟩
 have H8:=Lib.hid (H7.out.below hb)
 clear hb H7
 go_upto_region 3 with fail
 refine wp_region_lit ?_
 refine wpList_plain rfl (fun K hK=>?_)
 refine wp_load_mid 32 (.tmp 2) rfl blr1 0 rfl [.slice lo1 l1.length lc1,.int .u64 (a1:Int),.int .u64 (t1:Int),.int .u64 (k1:Int),.bool bp1,.int .u64 (vp1:Int),.bool bm1,.int .u64 (vm1:Int),.bool bg1,.int .u64 (vg1:Int),.int .i32 sc1,.int .u64 (zc1:Int),.bool gp1,.int .i32 pb1.off,.slice po1 pb1.cs.length pc1,.string Xpu1,.bool gn1,.int .i32 nb1.off,.slice no1 nb1.cs.length nc1,.string Xnu1,.slice eo1 es1.length ec1,.int .u32 (f1:Int),.int .u64 (th1:Int),.string Xu1] _ (range_row (H8.out.is.2.1)) Tryz.underlying32 rfl (by kernel_rfl) (hK _ _ ?_)
 clear hK K
 refine wpList_plain rfl (fun K hK=>?_);go_simp
 refine (xp_room ((l1,(a1,(t1,(k1,((bp1,vp1),(sc1,(zc1,((gp1,pb1,pu1),((gn1,nb1,nu1),(f1,(es1,((bm1,vm1),((bg1,vg1),th1))))))))))))),u1) [.slice lo1 l1.length lc1,.int .u64 (a1:Int),.int .u64 (t1:Int),.int .u64 (k1:Int),.bool bp1,.int .u64 (vp1:Int),.bool bm1,.int .u64 (vm1:Int),.bool bg1,.int .u64 (vg1:Int),.int .i32 sc1,.int .u64 (zc1:Int),.bool gp1,.int .i32 pb1.off,.slice po1 pb1.cs.length pc1,.string Xpu1,.bool gn1,.int .i32 nb1.off,.slice no1 nb1.cs.length nc1,.string Xnu1,.slice eo1 es1.length ec1,.int .u32 (f1:Int),.int .u64 (th1:Int),.string Xu1] _ w1 12000 HARG1.out (by rw[←HNpu1.out,←HNnu1.out,←HNu1.out];exact H8.out.is.2.2.2.2.1) (by omega)).mono ?_;intro e w2 hpost
 obtain ⟨hb,s1,rfl,HR1⟩:=hpost
 have H9:=Lib.hid (H8.out.below hb)
 clear hb H8
 refine hK _ _ ?_;clear hK K
 by_cases hr1:s1<0
 case pos =>
  have d1:decide (s1<0)=true:=decide_eq_true hr1
  clear hr1
  go_wp2_with fail
  refine (first14 w2).mono ?_;rintro e w9 ⟨rfl,hb⟩
  have H10:=Lib.hid (H9.out.below hb)
  clear hb H9
  go_wp2_with fail
  go_ret
  exact ⟨rfl,H10.out.is.2.2.1⟩
 have d1:decide (s1<0)=false:=decide_eq_false hr1
 have HWT1:=Lib.hid (Nat.le_trans (xp_wt_rw (x:=((l1,(a1,(t1,(k1,((bp1,vp1),(sc1,(zc1,((gp1,pb1,pu1),((gn1,nb1,nu1),(f1,(es1,((bm1,vm1),((bg1,vg1),th1))))))))))))),u1)) (by have h:=HR1.out;unfold RoomOk at h;omega)) (by omega:16000≤1000000))
 clear hr1 HR1
 iterate 2 refine wpList_plain rfl (fun K hK=>?_);go_simp;refine hK _ _ ?_;clear hK K
 refine BigFrame.wpList_want (by rfl) (fun K hK=>?_)
 refine wp_load_mid 32 (.tmp 3) rfl blr2 0 rfl [.slice lo2 l2.length lc2,.int .u64 (a2:Int),.int .u64 (t2:Int),.int .u64 (k2:Int),.bool bp2,.int .u64 (vp2:Int),.bool bm2,.int .u64 (vm2:Int),.bool bg2,.int .u64 (vg2:Int),.int .i32 sc2,.int .u64 (zc2:Int),.bool gp2,.int .i32 pb2.off,.slice po2 pb2.cs.length pc2,.string Xpu2,.bool gn2,.int .i32 nb2.off,.slice no2 nb2.cs.length nc2,.string Xnu2,.slice eo2 es2.length ec2,.int .u32 (f2:Int),.int .u64 (th2:Int),.string Xu2] _ (range_row (H9.out.is.1)) Tryz.underlying32 rfl (by kernel_rfl) (hK _ _ ?_)
 clear hK K
 refine BigFrame.wpList_want (by rfl) (fun K hK=>?_);go_simp
 refine (xp_room ((l2,(a2,(t2,(k2,((bp2,vp2),(sc2,(zc2,((gp2,pb2,pu2),((gn2,nb2,nu2),(f2,(es2,((bm2,vm2),((bg2,vg2),th2))))))))))))),u2) [.slice lo2 l2.length lc2,.int .u64 (a2:Int),.int .u64 (t2:Int),.int .u64 (k2:Int),.bool bp2,.int .u64 (vp2:Int),.bool bm2,.int .u64 (vm2:Int),.bool bg2,.int .u64 (vg2:Int),.int .i32 sc2,.int .u64 (zc2:Int),.bool gp2,.int .i32 pb2.off,.slice po2 pb2.cs.length pc2,.string Xpu2,.bool gn2,.int .i32 nb2.off,.slice no2 nb2.cs.length nc2,.string Xnu2,.slice eo2 es2.length ec2,.int .u32 (f2:Int),.int .u64 (th2:Int),.string Xu2] _ w2 12000 HARG2.out (by rw[←HNpu2.out,←HNnu2.out,←HNu2.out];exact H9.out.is.2.2.2.1) (by omega)).mono ?_;intro e w3 hpost
 obtain ⟨hb,s2,rfl,HR2⟩:=hpost
 have H10:=Lib.hid (H9.out.below hb)
 clear hb H9
 refine hK _ _ ?_;clear hK K
 by_cases hr2:s2<0
 case pos =>
  have d2:decide (s2<0)=true:=decide_eq_true hr2
  clear hr2
  go_wp2_with fail
  refine (first14 w3).mono ?_;rintro e w9 ⟨rfl,hb⟩
  have H11:=Lib.hid (H10.out.below hb)
  clear hb H10
  go_wp2_with fail
  go_ret
  exact ⟨rfl,H11.out.is.2.2.1⟩
 have d2:decide (s2<0)=false:=decide_eq_false hr2
 have HWT2:=Lib.hid (Nat.le_trans (xp_wt_rw (x:=((l2,(a2,(t2,(k2,((bp2,vp2),(sc2,(zc2,((gp2,pb2,pu2),((gn2,nb2,nu2),(f2,(es2,((bm2,vm2),((bg2,vg2),th2))))))))))))),u2)) (by have h:=HR2.out;unfold RoomOk at h;omega)) (by omega:16000≤1000000))
 clear hr2 HR2
 go_upto_region 5 with fail
 obtain ⟨D,hD⟩:∃ D,w3.drew=D:=⟨_,rfl⟩
 have hb:Below w3.heap.size w3 D:=by rw[←hD];exact (Below.refl _ _).drew
 have H11:=Lib.hid (H10.out.below hb)
 clear hb H10
 have hS:R2 blr1 #[.slice lo1 l1.length lc1,.int .u64 (a1:Int),.int .u64 (t1:Int),.int .u64 (k1:Int),.bool bp1,.int .u64 (vp1:Int),.bool bm1,.int .u64 (vm1:Int),.bool bg1,.int .u64 (vg1:Int),.int .i32 sc1,.int .u64 (zc1:Int),.bool gp1,.int .i32 pb1.off,.slice po1 pb1.cs.length pc1,.string Xpu1,.bool gn1,.int .i32 nb1.off,.slice no1 nb1.cs.length nc1,.string Xnu1,.slice eo1 es1.length ec1,.int .u32 (f1:Int),.int .u64 (th1:Int),.string Xu1] 32 blr2 #[.slice lo2 l2.length lc2,.int .u64 (a2:Int),.int .u64 (t2:Int),.int .u64 (k2:Int),.bool bp2,.int .u64 (vp2:Int),.bool bm2,.int .u64 (vm2:Int),.bool bg2,.int .u64 (vg2:Int),.int .i32 sc2,.int .u64 (zc2:Int),.bool gp2,.int .i32 pb2.off,.slice po2 pb2.cs.length pc2,.string Xpu2,.bool gn2,.int .i32 nb2.off,.slice no2 nb2.cs.length nc2,.string Xnu2,.slice eo2 es2.length ec2,.int .u32 (f2:Int),.int .u64 (th2:Int),.string Xu2] 32 D:=⟨H11.out.is.2.1,H11.out.is.1⟩
 have hne:Nonempty {w':World // R2 blr1 #[.slice lo1 l1.length lc1,.int .u64 (a1:Int),.int .u64 (t1:Int),.int .u64 (k1:Int),.bool bp1,.int .u64 (vp1:Int),.bool bm1,.int .u64 (vm1:Int),.bool bg1,.int .u64 (vg1:Int),.int .i32 sc1,.int .u64 (zc1:Int),.bool gp1,.int .i32 pb1.off,.slice po1 pb1.cs.length pc1,.string Xpu1,.bool gn1,.int .i32 nb1.off,.slice no1 nb1.cs.length nc1,.string Xnu1,.slice eo1 es1.length ec1,.int .u32 (f1:Int),.int .u64 (th1:Int),.string Xu1] 32 blr2 #[.slice lo2 l2.length lc2,.int .u64 (a2:Int),.int .u64 (t2:Int),.int .u64 (k2:Int),.bool bp2,.int .u64 (vp2:Int),.bool bm2,.int .u64 (vm2:Int),.bool bg2,.int .u64 (vg2:Int),.int .i32 sc2,.int .u64 (zc2:Int),.bool gp2,.int .i32 pb2.off,.slice po2 pb2.cs.length pc2,.string Xpu2,.bool gn2,.int .i32 nb2.off,.slice no2 nb2.cs.length nc2,.string Xnu2,.slice eo2 es2.length ec2,.int .u32 (f2:Int),.int .u64 (th2:Int),.string Xu2] 32 w'}:=⟨⟨_,hS⟩⟩
 refine wp_region_seq (S:=R2 blr1 #[.slice lo1 l1.length lc1,.int .u64 (a1:Int),.int .u64 (t1:Int),.int .u64 (k1:Int),.bool bp1,.int .u64 (vp1:Int),.bool bm1,.int .u64 (vm1:Int),.bool bg1,.int .u64 (vg1:Int),.int .i32 sc1,.int .u64 (zc1:Int),.bool gp1,.int .i32 pb1.off,.slice po1 pb1.cs.length pc1,.string Xpu1,.bool gn1,.int .i32 nb1.off,.slice no1 nb1.cs.length nc1,.string Xnu1,.slice eo1 es1.length ec1,.int .u32 (f1:Int),.int .u64 (th1:Int),.string Xu1] 32 blr2 #[.slice lo2 l2.length lc2,.int .u64 (a2:Int),.int .u64 (t2:Int),.int .u64 (k2:Int),.bool bp2,.int .u64 (vp2:Int),.bool bm2,.int .u64 (vm2:Int),.bool bg2,.int .u64 (vg2:Int),.int .i32 sc2,.int .u64 (zc2:Int),.bool gp2,.int .i32 pb2.off,.slice po2 pb2.cs.length pc2,.string Xpu2,.bool gn2,.int .i32 nb2.off,.slice no2 nb2.cs.length nc2,.string Xnu2,.slice eo2 es2.length ec2,.int .u32 (f2:Int),.int .u64 (th2:Int),.string Xu2] 32) [(0,false),(1,true),(2,true),(3,true),(5,true),(6,true),(4,false),(7,false),(8,true),(9,true),(10,true),(11,true),(12,true),(13,false),(14,true),(15,true)] (by kernel_rfl) (by kernel_rfl) (by kernel_rfl) (by kernel_rfl) (by rw[hD];exact hS) ?_
 rw[hD]
 clear hD
 refine seq_come _ rfl (fun KC hK=>?_);go_simp
 refine (first14 D).mono ?_;rintro e w4 ⟨rfl,hb⟩
 have hS4:=hS.below hb
 have H12:=Lib.hid (H11.out.below hb)
 clear hb H11
 go_simp;refine hK.out _ _ hS4 ?_;clear hK KC
 iterate 1 (refine seq_take _ rfl (fun KC hK=>?_);go_simp;(first|refine hK _ ?_|refine ⟨_,fun _ _=>rfl,hK _ ?_⟩);clear hK KC)
 refine seq_take _ rfl (fun KC hK=>?_);go_simp
 refine ⟨.agg #[.slice lo1 l1.length lc1,.int .u64 (a1:Int),.int .u64 (t1:Int),.int .u64 (k1:Int),.bool bp1,.int .u64 (vp1:Int),.bool bm1,.int .u64 (vm1:Int),.bool bg1,.int .u64 (vg1:Int),.int .i32 sc1,.int .u64 (zc1:Int),.bool gp1,.int .i32 pb1.off,.slice po1 pb1.cs.length pc1,.string Xpu1,.bool gn1,.int .i32 nb1.off,.slice no1 nb1.cs.length nc1,.string Xnu1,.slice eo1 es1.length ec1,.int .u32 (f1:Int),.int .u64 (th1:Int),.string Xu1],fun a ha=>by obtain ⟨p0,p1,p2,p3,p4,p5,p6,p7,p8,p9,p10,p11,p12,p13,p14,p15,p16,p17,p18,p19,p20,p21,p22,p23⟩:=row24 ha.1;simp only[p0,p1,p2,p3,p4,p5,p6,p7,p8,p9,p10,p11,p12,p13,p14,p15,p16,p17,p18,p19,p20,p21,p22,p23,Result.andThen],hK _ ?_⟩
 clear hK KC
 refine seq_take _ rfl (fun KC hK=>?_);go_simp
 refine ⟨.agg #[.slice lo2 l2.length lc2,.int .u64 (a2:Int),.int .u64 (t2:Int),.int .u64 (k2:Int),.bool bp2,.int .u64 (vp2:Int),.bool bm2,.int .u64 (vm2:Int),.bool bg2,.int .u64 (vg2:Int),.int .i32 sc2,.int .u64 (zc2:Int),.bool gp2,.int .i32 pb2.off,.slice po2 pb2.cs.length pc2,.string Xpu2,.bool gn2,.int .i32 nb2.off,.slice no2 nb2.cs.length nc2,.string Xnu2,.slice eo2 es2.length ec2,.int .u32 (f2:Int),.int .u64 (th2:Int),.string Xu2],fun a ha=>by obtain ⟨p0,p1,p2,p3,p4,p5,p6,p7,p8,p9,p10,p11,p12,p13,p14,p15,p16,p17,p18,p19,p20,p21,p22,p23⟩:=row24 ha.2;simp only[p0,p1,p2,p3,p4,p5,p6,p7,p8,p9,p10,p11,p12,p13,p14,p15,p16,p17,p18,p19,p20,p21,p22,p23,Result.andThen],hK _ ?_⟩
 clear hK KC
 refine seq_take _ rfl (fun KC hK=>?_);go_simp
 refine ⟨.agg #[.slice lo1 l1.length lc1,.int .u64 (a1:Int),.int .u64 (t1:Int),.int .u64 (k1:Int),.bool bp1,.int .u64 (vp1:Int),.bool bm1,.int .u64 (vm1:Int),.bool bg1,.int .u64 (vg1:Int),.int .i32 sc1,.int .u64 (zc1:Int),.bool gp1,.int .i32 pb1.off,.slice po1 pb1.cs.length pc1,.string Xpu1,.bool gn1,.int .i32 nb1.off,.slice no1 nb1.cs.length nc1,.string Xnu1,.slice eo1 es1.length ec1,.int .u32 (f1:Int),.int .u64 (th1:Int),.string Xu1],fun a ha=>by obtain ⟨p0,p1,p2,p3,p4,p5,p6,p7,p8,p9,p10,p11,p12,p13,p14,p15,p16,p17,p18,p19,p20,p21,p22,p23⟩:=row24 ha.1;simp only[p0,p1,p2,p3,p4,p5,p6,p7,p8,p9,p10,p11,p12,p13,p14,p15,p16,p17,p18,p19,p20,p21,p22,p23,Result.andThen],hK _ ?_⟩
 clear hK KC
 refine seq_take _ rfl (fun KC hK=>?_);go_simp
 refine ⟨.agg #[.slice lo2 l2.length lc2,.int .u64 (a2:Int),.int .u64 (t2:Int),.int .u64 (k2:Int),.bool bp2,.int .u64 (vp2:Int),.bool bm2,.int .u64 (vm2:Int),.bool bg2,.int .u64 (vg2:Int),.int .i32 sc2,.int .u64 (zc2:Int),.bool gp2,.int .i32 pb2.off,.slice po2 pb2.cs.length pc2,.string Xpu2,.bool gn2,.int .i32 nb2.off,.slice no2 nb2.cs.length nc2,.string Xnu2,.slice eo2 es2.length ec2,.int .u32 (f2:Int),.int .u64 (th2:Int),.string Xu2],fun a ha=>by obtain ⟨p0,p1,p2,p3,p4,p5,p6,p7,p8,p9,p10,p11,p12,p13,p14,p15,p16,p17,p18,p19,p20,p21,p22,p23⟩:=row24 ha.2;simp only[p0,p1,p2,p3,p4,p5,p6,p7,p8,p9,p10,p11,p12,p13,p14,p15,p16,p17,p18,p19,p20,p21,p22,p23,Result.andThen],hK _ ?_⟩
 clear hK KC
 refine seq_come _ rfl (fun KC hK=>?_);go_simp
 refine (xp_same ((l1,(a1,(t1,(k1,((bp1,vp1),(sc1,(zc1,((gp1,pb1,pu1),((gn1,nb1,nu1),(f1,(es1,((bm1,vm1),((bg1,vg1),th1))))))))))))),u1) ((l2,(a2,(t2,(k2,((bp2,vp2),(sc2,(zc2,((gp2,pb2,pu2),((gn2,nb2,nu2),(f2,(es2,((bm2,vm2),((bg2,vg2),th2))))))))))))),u2) [.slice lo1 l1.length lc1,.int .u64 (a1:Int),.int .u64 (t1:Int),.int .u64 (k1:Int),.bool bp1,.int .u64 (vp1:Int),.bool bm1,.int .u64 (vm1:Int),.bool bg1,.int .u64 (vg1:Int),.int .i32 sc1,.int .u64 (zc1:Int),.bool gp1,.int .i32 pb1.off,.slice po1 pb1.cs.length pc1,.string Xpu1,.bool gn1,.int .i32 nb1.off,.slice no1 nb1.cs.length nc1,.string Xnu1,.slice eo1 es1.length ec1,.int .u32 (f1:Int),.int .u64 (th1:Int),.string Xu1] [.slice lo2 l2.length lc2,.int .u64 (a2:Int),.int .u64 (t2:Int),.int .u64 (k2:Int),.bool bp2,.int .u64 (vp2:Int),.bool bm2,.int .u64 (vm2:Int),.bool bg2,.int .u64 (vg2:Int),.int .i32 sc2,.int .u64 (zc2:Int),.bool gp2,.int .i32 pb2.off,.slice po2 pb2.cs.length pc2,.string Xpu2,.bool gn2,.int .i32 nb2.off,.slice no2 nb2.cs.length nc2,.string Xnu2,.slice eo2 es2.length ec2,.int .u32 (f2:Int),.int .u64 (th2:Int),.string Xu2] _ _ w4 HARG1.out HWT1.out (by rw[←HNpu1.out,←HNnu1.out,←HNu1.out];exact H12.out.is.2.2.2.2.1) (by rw[←HNpu2.out,←HNnu2.out,←HNu2.out];exact H12.out.is.2.2.2.1)).mono ?_;rintro e w5 ⟨rfl,hb⟩
 rw[HAL.out]
 have hS5:=hS4.below hb
 have H13:=Lib.hid (H12.out.below hb)
 clear hb H12
 go_simp;refine hK.out _ _ hS5 ?_;clear hK KC
 refine seq_come _ rfl (fun KC hK=>?_);go_simp
 refine (xp_ref ((l1,(a1,(t1,(k1,((bp1,vp1),(sc1,(zc1,((gp1,pb1,pu1),((gn1,nb1,nu1),(f1,(es1,((bm1,vm1),((bg1,vg1),th1))))))))))))),u1) ((l2,(a2,(t2,(k2,((bp2,vp2),(sc2,(zc2,((gp2,pb2,pu2),((gn2,nb2,nu2),(f2,(es2,((bm2,vm2),((bg2,vg2),th2))))))))))))),u2) [.slice lo1 l1.length lc1,.int .u64 (a1:Int),.int .u64 (t1:Int),.int .u64 (k1:Int),.bool bp1,.int .u64 (vp1:Int),.bool bm1,.int .u64 (vm1:Int),.bool bg1,.int .u64 (vg1:Int),.int .i32 sc1,.int .u64 (zc1:Int),.bool gp1,.int .i32 pb1.off,.slice po1 pb1.cs.length pc1,.string Xpu1,.bool gn1,.int .i32 nb1.off,.slice no1 nb1.cs.length nc1,.string Xnu1,.slice eo1 es1.length ec1,.int .u32 (f1:Int),.int .u64 (th1:Int),.string Xu1] [.slice lo2 l2.length lc2,.int .u64 (a2:Int),.int .u64 (t2:Int),.int .u64 (k2:Int),.bool bp2,.int .u64 (vp2:Int),.bool bm2,.int .u64 (vm2:Int),.bool bg2,.int .u64 (vg2:Int),.int .i32 sc2,.int .u64 (zc2:Int),.bool gp2,.int .i32 pb2.off,.slice po2 pb2.cs.length pc2,.string Xpu2,.bool gn2,.int .i32 nb2.off,.slice no2 nb2.cs.length nc2,.string Xnu2,.slice eo2 es2.length ec2,.int .u32 (f2:Int),.int .u64 (th2:Int),.string Xu2] _ _ w5 HARG1.out HWT1.out (by rw[←HNpu1.out,←HNnu1.out,←HNu1.out];exact H13.out.is.2.2.2.2.1) (by rw[←HNpu2.out,←HNnu2.out,←HNu2.out];exact H13.out.is.2.2.2.1)).mono ?_;rintro e w6 ⟨rfl,hb⟩
 rw[HAL.out]
 have hS6:=hS5.below hb
 have H14:=Lib.hid (H13.out.below hb)
 clear hb H13
 go_simp;refine hK.out _ _ hS6 ?_;clear hK KC
 iterate 3 (refine seq_take _ rfl (fun KC hK=>?_);go_simp;(first|refine hK _ ?_|refine ⟨_,fun _ _=>rfl,hK _ ?_⟩);clear hK KC)
 refine seq_take _ rfl (fun KC hK=>?_);go_simp
 refine ⟨.agg #[.slice lo1 l1.length lc1,.int .u64 (a1:Int),.int .u64 (t1:Int),.int .u64 (k1:Int),.bool bp1,.int .u64 (vp1:Int),.bool bm1,.int .u64 (vm1:Int),.bool bg1,.int .u64 (vg1:Int),.int .i32 sc1,.int .u64 (zc1:Int),.bool gp1,.int .i32 pb1.off,.slice po1 pb1.cs.length pc1,.string Xpu1,.bool gn1,.int .i32 nb1.off,.slice no1 nb1.cs.length nc1,.string Xnu1,.slice eo1 es1.length ec1,.int .u32 (f1:Int),.int .u64 (th1:Int),.string Xu1],fun a ha=>by obtain ⟨p0,p1,p2,p3,p4,p5,p6,p7,p8,p9,p10,p11,p12,p13,p14,p15,p16,p17,p18,p19,p20,p21,p22,p23⟩:=row24 ha.1;simp only[p0,p1,p2,p3,p4,p5,p6,p7,p8,p9,p10,p11,p12,p13,p14,p15,p16,p17,p18,p19,p20,p21,p22,p23,Result.andThen],hK _ ?_⟩
 clear hK KC
 refine seq_take _ rfl (fun KC hK=>?_);go_simp
 refine ⟨.agg #[.slice lo1 l1.length lc1,.int .u64 (a1:Int),.int .u64 (t1:Int),.int .u64 (k1:Int),.bool bp1,.int .u64 (vp1:Int),.bool bm1,.int .u64 (vm1:Int),.bool bg1,.int .u64 (vg1:Int),.int .i32 sc1,.int .u64 (zc1:Int),.bool gp1,.int .i32 pb1.off,.slice po1 pb1.cs.length pc1,.string Xpu1,.bool gn1,.int .i32 nb1.off,.slice no1 nb1.cs.length nc1,.string Xnu1,.slice eo1 es1.length ec1,.int .u32 (f1:Int),.int .u64 (th1:Int),.string Xu1],fun a ha=>by obtain ⟨p0,p1,p2,p3,p4,p5,p6,p7,p8,p9,p10,p11,p12,p13,p14,p15,p16,p17,p18,p19,p20,p21,p22,p23⟩:=row24 ha.1;simp only[p0,p1,p2,p3,p4,p5,p6,p7,p8,p9,p10,p11,p12,p13,p14,p15,p16,p17,p18,p19,p20,p21,p22,p23,Result.andThen],hK _ ?_⟩
 clear hK KC
 refine seq_come _ rfl (fun KC hK=>?_);go_simp
 refine (xp_same ((l1,(a1,(t1,(k1,((bp1,vp1),(sc1,(zc1,((gp1,pb1,pu1),((gn1,nb1,nu1),(f1,(es1,((bm1,vm1),((bg1,vg1),th1))))))))))))),u1) ((l1,(a1,(t1,(k1,((bp1,vp1),(sc1,(zc1,((gp1,pb1,pu1),((gn1,nb1,nu1),(f1,(es1,((bm1,vm1),((bg1,vg1),th1))))))))))))),u1) [.slice lo1 l1.length lc1,.int .u64 (a1:Int),.int .u64 (t1:Int),.int .u64 (k1:Int),.bool bp1,.int .u64 (vp1:Int),.bool bm1,.int .u64 (vm1:Int),.bool bg1,.int .u64 (vg1:Int),.int .i32 sc1,.int .u64 (zc1:Int),.bool gp1,.int .i32 pb1.off,.slice po1 pb1.cs.length pc1,.string Xpu1,.bool gn1,.int .i32 nb1.off,.slice no1 nb1.cs.length nc1,.string Xnu1,.slice eo1 es1.length ec1,.int .u32 (f1:Int),.int .u64 (th1:Int),.string Xu1] [.slice lo1 l1.length lc1,.int .u64 (a1:Int),.int .u64 (t1:Int),.int .u64 (k1:Int),.bool bp1,.int .u64 (vp1:Int),.bool bm1,.int .u64 (vm1:Int),.bool bg1,.int .u64 (vg1:Int),.int .i32 sc1,.int .u64 (zc1:Int),.bool gp1,.int .i32 pb1.off,.slice po1 pb1.cs.length pc1,.string Xpu1,.bool gn1,.int .i32 nb1.off,.slice no1 nb1.cs.length nc1,.string Xnu1,.slice eo1 es1.length ec1,.int .u32 (f1:Int),.int .u64 (th1:Int),.string Xu1] _ _ w6 HARG1.out HWT1.out (by rw[←HNpu1.out,←HNnu1.out,←HNu1.out];exact H14.out.is.2.2.2.2.1) (by rw[←HNpu1.out,←HNnu1.out,←HNu1.out];exact H14.out.is.2.2.2.2.1)).mono ?_;rintro e w7 ⟨rfl,hb⟩
 rw[alike_yes rfl]
 have hS7:=hS6.below hb
 have H15:=Lib.hid (H14.out.below hb)
 clear hb H14
 go_simp;refine hK.out _ _ hS7 ?_;clear hK KC
 iterate 2 (refine seq_take _ rfl (fun KC hK=>?_);go_simp;(first|refine hK _ ?_|refine ⟨_,fun _ _=>rfl,hK _ ?_⟩);clear hK KC)
 refine seq_done ?_
 clear hne hS hS4 hS5 hS6 hS7
 go_wp2_with fail
 go_ret
 exact ⟨rfl,H15.out.is.2.2.1⟩
theorem xpsm_true (x:Xp) (ca:List Value) (P:Nat→Prop) (y:Xp) (cb:List Value) (Q:Nat→Prop) (w:World) (ha1:xp_arg x) (hr1:xpCel.R w P x ca) (ha2:xp_arg y) (hr2:xpCel.R w Q y cb) (hal:alike x y=true) :
 Calls Tryz.prog 3 #[.agg ca.toArray,.agg cb.toArray] w fun e w'=>e = .returned (.bool true)∧Below w.heap.size w w':=by
 obtain ⟨⟨l1,⟨a1,⟨t1,⟨k1,⟨⟨bp1,vp1⟩,⟨sc1,⟨zc1,⟨⟨gp1,pb1,pu1⟩,⟨⟨gn1,nb1,nu1⟩,⟨f1,⟨es1,⟨⟨bm1,vm1⟩,⟨⟨bg1,vg1⟩,th1⟩⟩⟩⟩⟩⟩⟩⟩⟩⟩⟩⟩⟩,u1⟩:=x
 obtain ⟨⟨l2,⟨a2,⟨t2,⟨k2,⟨⟨bp2,vp2⟩,⟨sc2,⟨zc2,⟨⟨gp2,pb2,pu2⟩,⟨⟨gn2,nb2,nu2⟩,⟨f2,⟨es2,⟨⟨bm2,vm2⟩,⟨⟨bg2,vg2⟩,th2⟩⟩⟩⟩⟩⟩⟩⟩⟩⟩⟩⟩⟩,u2⟩:=y
 have hs1:=hr1
 obtain ⟨lo1,lc1,po1,pc1,no1,nc1,eo1,ec1,rfl,_,_,_,_⟩:=hs1
 have hs2:=hr2
 obtain ⟨lo2,lc2,po2,pc2,no2,nc2,eo2,ec2,rfl,_,_,_,_⟩:=hs2
 dsimp only[strV]
 obtain ⟨Xpu1,epu1⟩:∃ X:ByteArray,(⟨pu1.toArray⟩:ByteArray)=X:=⟨_,rfl⟩
 have HNpu1:=Lib.hid epu1
 clear epu1
 obtain ⟨Xnu1,enu1⟩:∃ X:ByteArray,(⟨nu1.toArray⟩:ByteArray)=X:=⟨_,rfl⟩
 have HNnu1:=Lib.hid enu1
 clear enu1
 obtain ⟨Xu1,eu1⟩:∃ X:ByteArray,(⟨u1.toArray⟩:ByteArray)=X:=⟨_,rfl⟩
 have HNu1:=Lib.hid eu1
 clear eu1
 obtain ⟨Xpu2,epu2⟩:∃ X:ByteArray,(⟨pu2.toArray⟩:ByteArray)=X:=⟨_,rfl⟩
 have HNpu2:=Lib.hid epu2
 clear epu2
 obtain ⟨Xnu2,enu2⟩:∃ X:ByteArray,(⟨nu2.toArray⟩:ByteArray)=X:=⟨_,rfl⟩
 have HNnu2:=Lib.hid enu2
 clear enu2
 obtain ⟨Xu2,eu2⟩:∃ X:ByteArray,(⟨u2.toArray⟩:ByteArray)=X:=⟨_,rfl⟩
 have HNu2:=Lib.hid eu2
 clear eu2
 rw[HNpu1.out,HNnu1.out,HNu1.out,HNpu2.out,HNnu2.out,HNu2.out]
 have HAL:=Lib.hid hal
 have HARG1:=Lib.hid ha1
 have HARG2:=Lib.hid ha2
 obtain ⟨W,hW⟩:∃ W,(w.alloc (.cells #[.slice lo1 l1.length lc1,.int .u64 (a1:Int),.int .u64 (t1:Int),.int .u64 (k1:Int),.bool bp1,.int .u64 (vp1:Int),.bool bm1,.int .u64 (vm1:Int),.bool bg1,.int .u64 (vg1:Int),.int .i32 sc1,.int .u64 (zc1:Int),.bool gp1,.int .i32 pb1.off,.slice po1 pb1.cs.length pc1,.string Xpu1,.bool gn1,.int .i32 nb1.off,.slice no1 nb1.cs.length nc1,.string Xnu1,.slice eo1 es1.length ec1,.int .u32 (f1:Int),.int .u64 (th1:Int),.string Xu1] 32)).alloc (.cells #[.slice lo2 l2.length lc2,.int .u64 (a2:Int),.int .u64 (t2:Int),.int .u64 (k2:Int),.bool bp2,.int .u64 (vp2:Int),.bool bm2,.int .u64 (vm2:Int),.bool bg2,.int .u64 (vg2:Int),.int .i32 sc2,.int .u64 (zc2:Int),.bool gp2,.int .i32 pb2.off,.slice po2 pb2.cs.length pc2,.string Xpu2,.bool gn2,.int .i32 nb2.off,.slice no2 nb2.cs.length nc2,.string Xnu2,.slice eo2 es2.length ec2,.int .u32 (f2:Int),.int .u64 (th2:Int),.string Xu2] 32)=W:=⟨_,rfl⟩
 obtain ⟨blr1,hb1⟩:∃ b,w.heap.size=b:=⟨_,rfl⟩
 obtain ⟨blr2,hb2⟩:∃ b,w.heap.size+1=b:=⟨_,rfl⟩
 have hbw:Below w.heap.size w W:=by rw[←hW];exact below_step (below_new _ _) (below_new _ _)
 have hra:W.heap[blr1]? = some (.cells #[.slice lo1 l1.length lc1,.int .u64 (a1:Int),.int .u64 (t1:Int),.int .u64 (k1:Int),.bool bp1,.int .u64 (vp1:Int),.bool bm1,.int .u64 (vm1:Int),.bool bg1,.int .u64 (vg1:Int),.int .i32 sc1,.int .u64 (zc1:Int),.bool gp1,.int .i32 pb1.off,.slice po1 pb1.cs.length pc1,.string Xpu1,.bool gn1,.int .i32 nb1.off,.slice no1 nb1.cs.length nc1,.string Xnu1,.slice eo1 es1.length ec1,.int .u32 (f1:Int),.int .u64 (th1:Int),.string Xu1] 32 (0,0)):=by rw[←hW,←hb1];exact (Below.heap_alloc _ _ _ (by simp)).trans (heap_alloc_new w _)
 have hrk:W.heap[blr2]? = some (.cells #[.slice lo2 l2.length lc2,.int .u64 (a2:Int),.int .u64 (t2:Int),.int .u64 (k2:Int),.bool bp2,.int .u64 (vp2:Int),.bool bm2,.int .u64 (vm2:Int),.bool bg2,.int .u64 (vg2:Int),.int .i32 sc2,.int .u64 (zc2:Int),.bool gp2,.int .i32 pb2.off,.slice po2 pb2.cs.length pc2,.string Xpu2,.bool gn2,.int .i32 nb2.off,.slice no2 nb2.cs.length nc2,.string Xnu2,.slice eo2 es2.length ec2,.int .u32 (f2:Int),.int .u64 (th2:Int),.string Xu2] 32 (0,0)):=by rw[←hW,←hb2];have:=heap_alloc_new (w.alloc (.cells #[.slice lo1 l1.length lc1,.int .u64 (a1:Int),.int .u64 (t1:Int),.int .u64 (k1:Int),.bool bp1,.int .u64 (vp1:Int),.bool bm1,.int .u64 (vm1:Int),.bool bg1,.int .u64 (vg1:Int),.int .i32 sc1,.int .u64 (zc1:Int),.bool gp1,.int .i32 pb1.off,.slice po1 pb1.cs.length pc1,.string Xpu1,.bool gn1,.int .i32 nb1.off,.slice no1 nb1.cs.length nc1,.string Xnu1,.slice eo1 es1.length ec1,.int .u32 (f1:Int),.int .u64 (th1:Int),.string Xu1] 32)) (.cells #[.slice lo2 l2.length lc2,.int .u64 (a2:Int),.int .u64 (t2:Int),.int .u64 (k2:Int),.bool bp2,.int .u64 (vp2:Int),.bool bm2,.int .u64 (vm2:Int),.bool bg2,.int .u64 (vg2:Int),.int .i32 sc2,.int .u64 (zc2:Int),.bool gp2,.int .i32 pb2.off,.slice po2 pb2.cs.length pc2,.string Xpu2,.bool gn2,.int .i32 nb2.off,.slice no2 nb2.cs.length nc2,.string Xnu2,.slice eo2 es2.length ec2,.int .u32 (f2:Int),.int .u64 (th2:Int),.string Xu2] 32);simpa using this
 have H1:=Lib.hid (Fx.nil w)
 have H2:=Lib.hid (H1.out.cel (hr1))
 clear H1
 have H3:=Lib.hid (H2.out.cel (hr2))
 clear H2
 have hb:=hbw
 have H4:=Lib.hid (H3.out.below hb)
 clear hb H3
 have H5:=Lib.hid (H4.out.base (hbw))
 clear H4
 have H6:=Lib.hid (H5.out.row (hra))
 clear H5
 have H7:=Lib.hid (H6.out.row (hrk))
 clear H6
 have HW:=Lib.hid hW
 have HBA:=Lib.hid hb1
 have HBB:=Lib.hid hb2
 clear hW hb1 hb2 hbw hra hrk hr1 hr2 hal ha1 ha2
 go_enter Tryz.func3,Tryz.ntmps3
 go_upto_region 1 with fail
 rw[HW.out,HBB.out,HBA.out]
 go_wp2_with fail
 refine (first14 W).mono ?_;rintro e w1 ⟨rfl,hb⟩
 have H8:=Lib.hid (H7.out.below hb)
 clear hb H7
 go_upto_region 3 with fail
 refine wp_region_lit ?_
 refine wpList_plain rfl (fun K hK=>?_)
 refine wp_load_mid 32 (.tmp 2) rfl blr1 0 rfl [.slice lo1 l1.length lc1,.int .u64 (a1:Int),.int .u64 (t1:Int),.int .u64 (k1:Int),.bool bp1,.int .u64 (vp1:Int),.bool bm1,.int .u64 (vm1:Int),.bool bg1,.int .u64 (vg1:Int),.int .i32 sc1,.int .u64 (zc1:Int),.bool gp1,.int .i32 pb1.off,.slice po1 pb1.cs.length pc1,.string Xpu1,.bool gn1,.int .i32 nb1.off,.slice no1 nb1.cs.length nc1,.string Xnu1,.slice eo1 es1.length ec1,.int .u32 (f1:Int),.int .u64 (th1:Int),.string Xu1] _ (range_row (H8.out.is.2.1)) Tryz.underlying32 rfl (by kernel_rfl) (hK _ _ ?_)
 clear hK K
 refine wpList_plain rfl (fun K hK=>?_);go_simp
 refine (xp_room ((l1,(a1,(t1,(k1,((bp1,vp1),(sc1,(zc1,((gp1,pb1,pu1),((gn1,nb1,nu1),(f1,(es1,((bm1,vm1),((bg1,vg1),th1))))))))))))),u1) [.slice lo1 l1.length lc1,.int .u64 (a1:Int),.int .u64 (t1:Int),.int .u64 (k1:Int),.bool bp1,.int .u64 (vp1:Int),.bool bm1,.int .u64 (vm1:Int),.bool bg1,.int .u64 (vg1:Int),.int .i32 sc1,.int .u64 (zc1:Int),.bool gp1,.int .i32 pb1.off,.slice po1 pb1.cs.length pc1,.string Xpu1,.bool gn1,.int .i32 nb1.off,.slice no1 nb1.cs.length nc1,.string Xnu1,.slice eo1 es1.length ec1,.int .u32 (f1:Int),.int .u64 (th1:Int),.string Xu1] _ w1 12000 HARG1.out (by rw[←HNpu1.out,←HNnu1.out,←HNu1.out];exact H8.out.is.2.2.2.2.1) (by omega)).mono ?_;intro e w2 hpost
 obtain ⟨hb,s1,rfl,HR1⟩:=hpost
 have H9:=Lib.hid (H8.out.below hb)
 clear hb H8
 refine hK _ _ ?_;clear hK K
 by_cases hr1:s1<0
 case pos =>
  have d1:decide (s1<0)=true:=decide_eq_true hr1
  clear hr1
  go_wp2_with fail
  refine (first14 w2).mono ?_;rintro e w9 ⟨rfl,hb⟩
  have H10:=Lib.hid (H9.out.below hb)
  clear hb H9
  go_wp2_with fail
  go_ret
  exact ⟨rfl,H10.out.is.2.2.1⟩
 have d1:decide (s1<0)=false:=decide_eq_false hr1
 have HWT1:=Lib.hid (Nat.le_trans (xp_wt_rw (x:=((l1,(a1,(t1,(k1,((bp1,vp1),(sc1,(zc1,((gp1,pb1,pu1),((gn1,nb1,nu1),(f1,(es1,((bm1,vm1),((bg1,vg1),th1))))))))))))),u1)) (by have h:=HR1.out;unfold RoomOk at h;omega)) (by omega:16000≤1000000))
 clear hr1 HR1
 iterate 2 refine wpList_plain rfl (fun K hK=>?_);go_simp;refine hK _ _ ?_;clear hK K
 refine BigFrame.wpList_want (by rfl) (fun K hK=>?_)
 refine wp_load_mid 32 (.tmp 3) rfl blr2 0 rfl [.slice lo2 l2.length lc2,.int .u64 (a2:Int),.int .u64 (t2:Int),.int .u64 (k2:Int),.bool bp2,.int .u64 (vp2:Int),.bool bm2,.int .u64 (vm2:Int),.bool bg2,.int .u64 (vg2:Int),.int .i32 sc2,.int .u64 (zc2:Int),.bool gp2,.int .i32 pb2.off,.slice po2 pb2.cs.length pc2,.string Xpu2,.bool gn2,.int .i32 nb2.off,.slice no2 nb2.cs.length nc2,.string Xnu2,.slice eo2 es2.length ec2,.int .u32 (f2:Int),.int .u64 (th2:Int),.string Xu2] _ (range_row (H9.out.is.1)) Tryz.underlying32 rfl (by kernel_rfl) (hK _ _ ?_)
 clear hK K
 refine BigFrame.wpList_want (by rfl) (fun K hK=>?_);go_simp
 refine (xp_room ((l2,(a2,(t2,(k2,((bp2,vp2),(sc2,(zc2,((gp2,pb2,pu2),((gn2,nb2,nu2),(f2,(es2,((bm2,vm2),((bg2,vg2),th2))))))))))))),u2) [.slice lo2 l2.length lc2,.int .u64 (a2:Int),.int .u64 (t2:Int),.int .u64 (k2:Int),.bool bp2,.int .u64 (vp2:Int),.bool bm2,.int .u64 (vm2:Int),.bool bg2,.int .u64 (vg2:Int),.int .i32 sc2,.int .u64 (zc2:Int),.bool gp2,.int .i32 pb2.off,.slice po2 pb2.cs.length pc2,.string Xpu2,.bool gn2,.int .i32 nb2.off,.slice no2 nb2.cs.length nc2,.string Xnu2,.slice eo2 es2.length ec2,.int .u32 (f2:Int),.int .u64 (th2:Int),.string Xu2] _ w2 12000 HARG2.out (by rw[←HNpu2.out,←HNnu2.out,←HNu2.out];exact H9.out.is.2.2.2.1) (by omega)).mono ?_;intro e w3 hpost
 obtain ⟨hb,s2,rfl,HR2⟩:=hpost
 have H10:=Lib.hid (H9.out.below hb)
 clear hb H9
 refine hK _ _ ?_;clear hK K
 by_cases hr2:s2<0
 case pos =>
  have d2:decide (s2<0)=true:=decide_eq_true hr2
  clear hr2
  go_wp2_with fail
  refine (first14 w3).mono ?_;rintro e w9 ⟨rfl,hb⟩
  have H11:=Lib.hid (H10.out.below hb)
  clear hb H10
  go_wp2_with fail
  go_ret
  exact ⟨rfl,H11.out.is.2.2.1⟩
 have d2:decide (s2<0)=false:=decide_eq_false hr2
 have HWT2:=Lib.hid (Nat.le_trans (xp_wt_rw (x:=((l2,(a2,(t2,(k2,((bp2,vp2),(sc2,(zc2,((gp2,pb2,pu2),((gn2,nb2,nu2),(f2,(es2,((bm2,vm2),((bg2,vg2),th2))))))))))))),u2)) (by have h:=HR2.out;unfold RoomOk at h;omega)) (by omega:16000≤1000000))
 clear hr2 HR2
 go_upto_region 5 with fail
 obtain ⟨D,hD⟩:∃ D,w3.drew=D:=⟨_,rfl⟩
 have hb:Below w3.heap.size w3 D:=by rw[←hD];exact (Below.refl _ _).drew
 have H11:=Lib.hid (H10.out.below hb)
 clear hb H10
 have hS:R2 blr1 #[.slice lo1 l1.length lc1,.int .u64 (a1:Int),.int .u64 (t1:Int),.int .u64 (k1:Int),.bool bp1,.int .u64 (vp1:Int),.bool bm1,.int .u64 (vm1:Int),.bool bg1,.int .u64 (vg1:Int),.int .i32 sc1,.int .u64 (zc1:Int),.bool gp1,.int .i32 pb1.off,.slice po1 pb1.cs.length pc1,.string Xpu1,.bool gn1,.int .i32 nb1.off,.slice no1 nb1.cs.length nc1,.string Xnu1,.slice eo1 es1.length ec1,.int .u32 (f1:Int),.int .u64 (th1:Int),.string Xu1] 32 blr2 #[.slice lo2 l2.length lc2,.int .u64 (a2:Int),.int .u64 (t2:Int),.int .u64 (k2:Int),.bool bp2,.int .u64 (vp2:Int),.bool bm2,.int .u64 (vm2:Int),.bool bg2,.int .u64 (vg2:Int),.int .i32 sc2,.int .u64 (zc2:Int),.bool gp2,.int .i32 pb2.off,.slice po2 pb2.cs.length pc2,.string Xpu2,.bool gn2,.int .i32 nb2.off,.slice no2 nb2.cs.length nc2,.string Xnu2,.slice eo2 es2.length ec2,.int .u32 (f2:Int),.int .u64 (th2:Int),.string Xu2] 32 D:=⟨H11.out.is.2.1,H11.out.is.1⟩
 have hne:Nonempty {w':World // R2 blr1 #[.slice lo1 l1.length lc1,.int .u64 (a1:Int),.int .u64 (t1:Int),.int .u64 (k1:Int),.bool bp1,.int .u64 (vp1:Int),.bool bm1,.int .u64 (vm1:Int),.bool bg1,.int .u64 (vg1:Int),.int .i32 sc1,.int .u64 (zc1:Int),.bool gp1,.int .i32 pb1.off,.slice po1 pb1.cs.length pc1,.string Xpu1,.bool gn1,.int .i32 nb1.off,.slice no1 nb1.cs.length nc1,.string Xnu1,.slice eo1 es1.length ec1,.int .u32 (f1:Int),.int .u64 (th1:Int),.string Xu1] 32 blr2 #[.slice lo2 l2.length lc2,.int .u64 (a2:Int),.int .u64 (t2:Int),.int .u64 (k2:Int),.bool bp2,.int .u64 (vp2:Int),.bool bm2,.int .u64 (vm2:Int),.bool bg2,.int .u64 (vg2:Int),.int .i32 sc2,.int .u64 (zc2:Int),.bool gp2,.int .i32 pb2.off,.slice po2 pb2.cs.length pc2,.string Xpu2,.bool gn2,.int .i32 nb2.off,.slice no2 nb2.cs.length nc2,.string Xnu2,.slice eo2 es2.length ec2,.int .u32 (f2:Int),.int .u64 (th2:Int),.string Xu2] 32 w'}:=⟨⟨_,hS⟩⟩
 refine wp_region_seq (S:=R2 blr1 #[.slice lo1 l1.length lc1,.int .u64 (a1:Int),.int .u64 (t1:Int),.int .u64 (k1:Int),.bool bp1,.int .u64 (vp1:Int),.bool bm1,.int .u64 (vm1:Int),.bool bg1,.int .u64 (vg1:Int),.int .i32 sc1,.int .u64 (zc1:Int),.bool gp1,.int .i32 pb1.off,.slice po1 pb1.cs.length pc1,.string Xpu1,.bool gn1,.int .i32 nb1.off,.slice no1 nb1.cs.length nc1,.string Xnu1,.slice eo1 es1.length ec1,.int .u32 (f1:Int),.int .u64 (th1:Int),.string Xu1] 32 blr2 #[.slice lo2 l2.length lc2,.int .u64 (a2:Int),.int .u64 (t2:Int),.int .u64 (k2:Int),.bool bp2,.int .u64 (vp2:Int),.bool bm2,.int .u64 (vm2:Int),.bool bg2,.int .u64 (vg2:Int),.int .i32 sc2,.int .u64 (zc2:Int),.bool gp2,.int .i32 pb2.off,.slice po2 pb2.cs.length pc2,.string Xpu2,.bool gn2,.int .i32 nb2.off,.slice no2 nb2.cs.length nc2,.string Xnu2,.slice eo2 es2.length ec2,.int .u32 (f2:Int),.int .u64 (th2:Int),.string Xu2] 32) [(0,false),(1,true),(2,true),(3,true),(5,true),(6,true),(4,false),(7,false),(8,true),(9,true),(10,true),(11,true),(12,true),(13,false),(14,true),(15,true)] (by kernel_rfl) (by kernel_rfl) (by kernel_rfl) (by kernel_rfl) (by rw[hD];exact hS) ?_
 rw[hD]
 clear hD
 refine seq_come _ rfl (fun KC hK=>?_);go_simp
 refine (first14 D).mono ?_;rintro e w4 ⟨rfl,hb⟩
 have hS4:=hS.below hb
 have H12:=Lib.hid (H11.out.below hb)
 clear hb H11
 go_simp;refine hK.out _ _ hS4 ?_;clear hK KC
 iterate 1 (refine seq_take _ rfl (fun KC hK=>?_);go_simp;(first|refine hK _ ?_|refine ⟨_,fun _ _=>rfl,hK _ ?_⟩);clear hK KC)
 refine seq_take _ rfl (fun KC hK=>?_);go_simp
 refine ⟨.agg #[.slice lo1 l1.length lc1,.int .u64 (a1:Int),.int .u64 (t1:Int),.int .u64 (k1:Int),.bool bp1,.int .u64 (vp1:Int),.bool bm1,.int .u64 (vm1:Int),.bool bg1,.int .u64 (vg1:Int),.int .i32 sc1,.int .u64 (zc1:Int),.bool gp1,.int .i32 pb1.off,.slice po1 pb1.cs.length pc1,.string Xpu1,.bool gn1,.int .i32 nb1.off,.slice no1 nb1.cs.length nc1,.string Xnu1,.slice eo1 es1.length ec1,.int .u32 (f1:Int),.int .u64 (th1:Int),.string Xu1],fun a ha=>by obtain ⟨p0,p1,p2,p3,p4,p5,p6,p7,p8,p9,p10,p11,p12,p13,p14,p15,p16,p17,p18,p19,p20,p21,p22,p23⟩:=row24 ha.1;simp only[p0,p1,p2,p3,p4,p5,p6,p7,p8,p9,p10,p11,p12,p13,p14,p15,p16,p17,p18,p19,p20,p21,p22,p23,Result.andThen],hK _ ?_⟩
 clear hK KC
 refine seq_take _ rfl (fun KC hK=>?_);go_simp
 refine ⟨.agg #[.slice lo2 l2.length lc2,.int .u64 (a2:Int),.int .u64 (t2:Int),.int .u64 (k2:Int),.bool bp2,.int .u64 (vp2:Int),.bool bm2,.int .u64 (vm2:Int),.bool bg2,.int .u64 (vg2:Int),.int .i32 sc2,.int .u64 (zc2:Int),.bool gp2,.int .i32 pb2.off,.slice po2 pb2.cs.length pc2,.string Xpu2,.bool gn2,.int .i32 nb2.off,.slice no2 nb2.cs.length nc2,.string Xnu2,.slice eo2 es2.length ec2,.int .u32 (f2:Int),.int .u64 (th2:Int),.string Xu2],fun a ha=>by obtain ⟨p0,p1,p2,p3,p4,p5,p6,p7,p8,p9,p10,p11,p12,p13,p14,p15,p16,p17,p18,p19,p20,p21,p22,p23⟩:=row24 ha.2;simp only[p0,p1,p2,p3,p4,p5,p6,p7,p8,p9,p10,p11,p12,p13,p14,p15,p16,p17,p18,p19,p20,p21,p22,p23,Result.andThen],hK _ ?_⟩
 clear hK KC
 refine seq_take _ rfl (fun KC hK=>?_);go_simp
 refine ⟨.agg #[.slice lo1 l1.length lc1,.int .u64 (a1:Int),.int .u64 (t1:Int),.int .u64 (k1:Int),.bool bp1,.int .u64 (vp1:Int),.bool bm1,.int .u64 (vm1:Int),.bool bg1,.int .u64 (vg1:Int),.int .i32 sc1,.int .u64 (zc1:Int),.bool gp1,.int .i32 pb1.off,.slice po1 pb1.cs.length pc1,.string Xpu1,.bool gn1,.int .i32 nb1.off,.slice no1 nb1.cs.length nc1,.string Xnu1,.slice eo1 es1.length ec1,.int .u32 (f1:Int),.int .u64 (th1:Int),.string Xu1],fun a ha=>by obtain ⟨p0,p1,p2,p3,p4,p5,p6,p7,p8,p9,p10,p11,p12,p13,p14,p15,p16,p17,p18,p19,p20,p21,p22,p23⟩:=row24 ha.1;simp only[p0,p1,p2,p3,p4,p5,p6,p7,p8,p9,p10,p11,p12,p13,p14,p15,p16,p17,p18,p19,p20,p21,p22,p23,Result.andThen],hK _ ?_⟩
 clear hK KC
 refine seq_take _ rfl (fun KC hK=>?_);go_simp
 refine ⟨.agg #[.slice lo2 l2.length lc2,.int .u64 (a2:Int),.int .u64 (t2:Int),.int .u64 (k2:Int),.bool bp2,.int .u64 (vp2:Int),.bool bm2,.int .u64 (vm2:Int),.bool bg2,.int .u64 (vg2:Int),.int .i32 sc2,.int .u64 (zc2:Int),.bool gp2,.int .i32 pb2.off,.slice po2 pb2.cs.length pc2,.string Xpu2,.bool gn2,.int .i32 nb2.off,.slice no2 nb2.cs.length nc2,.string Xnu2,.slice eo2 es2.length ec2,.int .u32 (f2:Int),.int .u64 (th2:Int),.string Xu2],fun a ha=>by obtain ⟨p0,p1,p2,p3,p4,p5,p6,p7,p8,p9,p10,p11,p12,p13,p14,p15,p16,p17,p18,p19,p20,p21,p22,p23⟩:=row24 ha.2;simp only[p0,p1,p2,p3,p4,p5,p6,p7,p8,p9,p10,p11,p12,p13,p14,p15,p16,p17,p18,p19,p20,p21,p22,p23,Result.andThen],hK _ ?_⟩
 clear hK KC
 refine seq_come _ rfl (fun KC hK=>?_);go_simp
 refine (xp_same ((l1,(a1,(t1,(k1,((bp1,vp1),(sc1,(zc1,((gp1,pb1,pu1),((gn1,nb1,nu1),(f1,(es1,((bm1,vm1),((bg1,vg1),th1))))))))))))),u1) ((l2,(a2,(t2,(k2,((bp2,vp2),(sc2,(zc2,((gp2,pb2,pu2),((gn2,nb2,nu2),(f2,(es2,((bm2,vm2),((bg2,vg2),th2))))))))))))),u2) [.slice lo1 l1.length lc1,.int .u64 (a1:Int),.int .u64 (t1:Int),.int .u64 (k1:Int),.bool bp1,.int .u64 (vp1:Int),.bool bm1,.int .u64 (vm1:Int),.bool bg1,.int .u64 (vg1:Int),.int .i32 sc1,.int .u64 (zc1:Int),.bool gp1,.int .i32 pb1.off,.slice po1 pb1.cs.length pc1,.string Xpu1,.bool gn1,.int .i32 nb1.off,.slice no1 nb1.cs.length nc1,.string Xnu1,.slice eo1 es1.length ec1,.int .u32 (f1:Int),.int .u64 (th1:Int),.string Xu1] [.slice lo2 l2.length lc2,.int .u64 (a2:Int),.int .u64 (t2:Int),.int .u64 (k2:Int),.bool bp2,.int .u64 (vp2:Int),.bool bm2,.int .u64 (vm2:Int),.bool bg2,.int .u64 (vg2:Int),.int .i32 sc2,.int .u64 (zc2:Int),.bool gp2,.int .i32 pb2.off,.slice po2 pb2.cs.length pc2,.string Xpu2,.bool gn2,.int .i32 nb2.off,.slice no2 nb2.cs.length nc2,.string Xnu2,.slice eo2 es2.length ec2,.int .u32 (f2:Int),.int .u64 (th2:Int),.string Xu2] _ _ w4 HARG1.out HWT1.out (by rw[←HNpu1.out,←HNnu1.out,←HNu1.out];exact H12.out.is.2.2.2.2.1) (by rw[←HNpu2.out,←HNnu2.out,←HNu2.out];exact H12.out.is.2.2.2.1)).mono ?_;rintro e w5 ⟨rfl,hb⟩
 rw[HAL.out]
 have hS5:=hS4.below hb
 have H13:=Lib.hid (H12.out.below hb)
 clear hb H12
 go_simp;refine hK.out _ _ hS5 ?_;clear hK KC
 refine seq_come _ rfl (fun KC hK=>?_);go_simp
 refine (xp_ref ((l1,(a1,(t1,(k1,((bp1,vp1),(sc1,(zc1,((gp1,pb1,pu1),((gn1,nb1,nu1),(f1,(es1,((bm1,vm1),((bg1,vg1),th1))))))))))))),u1) ((l2,(a2,(t2,(k2,((bp2,vp2),(sc2,(zc2,((gp2,pb2,pu2),((gn2,nb2,nu2),(f2,(es2,((bm2,vm2),((bg2,vg2),th2))))))))))))),u2) [.slice lo1 l1.length lc1,.int .u64 (a1:Int),.int .u64 (t1:Int),.int .u64 (k1:Int),.bool bp1,.int .u64 (vp1:Int),.bool bm1,.int .u64 (vm1:Int),.bool bg1,.int .u64 (vg1:Int),.int .i32 sc1,.int .u64 (zc1:Int),.bool gp1,.int .i32 pb1.off,.slice po1 pb1.cs.length pc1,.string Xpu1,.bool gn1,.int .i32 nb1.off,.slice no1 nb1.cs.length nc1,.string Xnu1,.slice eo1 es1.length ec1,.int .u32 (f1:Int),.int .u64 (th1:Int),.string Xu1] [.slice lo2 l2.length lc2,.int .u64 (a2:Int),.int .u64 (t2:Int),.int .u64 (k2:Int),.bool bp2,.int .u64 (vp2:Int),.bool bm2,.int .u64 (vm2:Int),.bool bg2,.int .u64 (vg2:Int),.int .i32 sc2,.int .u64 (zc2:Int),.bool gp2,.int .i32 pb2.off,.slice po2 pb2.cs.length pc2,.string Xpu2,.bool gn2,.int .i32 nb2.off,.slice no2 nb2.cs.length nc2,.string Xnu2,.slice eo2 es2.length ec2,.int .u32 (f2:Int),.int .u64 (th2:Int),.string Xu2] _ _ w5 HARG1.out HWT1.out (by rw[←HNpu1.out,←HNnu1.out,←HNu1.out];exact H13.out.is.2.2.2.2.1) (by rw[←HNpu2.out,←HNnu2.out,←HNu2.out];exact H13.out.is.2.2.2.1)).mono ?_;rintro e w6 ⟨rfl,hb⟩
 rw[HAL.out]
 have hS6:=hS5.below hb
 have H14:=Lib.hid (H13.out.below hb)
 clear hb H13
 go_simp;refine hK.out _ _ hS6 ?_;clear hK KC
 iterate 3 (refine seq_take _ rfl (fun KC hK=>?_);go_simp;(first|refine hK _ ?_|refine ⟨_,fun _ _=>rfl,hK _ ?_⟩);clear hK KC)
 refine seq_take _ rfl (fun KC hK=>?_);go_simp
 refine ⟨.agg #[.slice lo1 l1.length lc1,.int .u64 (a1:Int),.int .u64 (t1:Int),.int .u64 (k1:Int),.bool bp1,.int .u64 (vp1:Int),.bool bm1,.int .u64 (vm1:Int),.bool bg1,.int .u64 (vg1:Int),.int .i32 sc1,.int .u64 (zc1:Int),.bool gp1,.int .i32 pb1.off,.slice po1 pb1.cs.length pc1,.string Xpu1,.bool gn1,.int .i32 nb1.off,.slice no1 nb1.cs.length nc1,.string Xnu1,.slice eo1 es1.length ec1,.int .u32 (f1:Int),.int .u64 (th1:Int),.string Xu1],fun a ha=>by obtain ⟨p0,p1,p2,p3,p4,p5,p6,p7,p8,p9,p10,p11,p12,p13,p14,p15,p16,p17,p18,p19,p20,p21,p22,p23⟩:=row24 ha.1;simp only[p0,p1,p2,p3,p4,p5,p6,p7,p8,p9,p10,p11,p12,p13,p14,p15,p16,p17,p18,p19,p20,p21,p22,p23,Result.andThen],hK _ ?_⟩
 clear hK KC
 refine seq_take _ rfl (fun KC hK=>?_);go_simp
 refine ⟨.agg #[.slice lo1 l1.length lc1,.int .u64 (a1:Int),.int .u64 (t1:Int),.int .u64 (k1:Int),.bool bp1,.int .u64 (vp1:Int),.bool bm1,.int .u64 (vm1:Int),.bool bg1,.int .u64 (vg1:Int),.int .i32 sc1,.int .u64 (zc1:Int),.bool gp1,.int .i32 pb1.off,.slice po1 pb1.cs.length pc1,.string Xpu1,.bool gn1,.int .i32 nb1.off,.slice no1 nb1.cs.length nc1,.string Xnu1,.slice eo1 es1.length ec1,.int .u32 (f1:Int),.int .u64 (th1:Int),.string Xu1],fun a ha=>by obtain ⟨p0,p1,p2,p3,p4,p5,p6,p7,p8,p9,p10,p11,p12,p13,p14,p15,p16,p17,p18,p19,p20,p21,p22,p23⟩:=row24 ha.1;simp only[p0,p1,p2,p3,p4,p5,p6,p7,p8,p9,p10,p11,p12,p13,p14,p15,p16,p17,p18,p19,p20,p21,p22,p23,Result.andThen],hK _ ?_⟩
 clear hK KC
 refine seq_come _ rfl (fun KC hK=>?_);go_simp
 refine (xp_same ((l1,(a1,(t1,(k1,((bp1,vp1),(sc1,(zc1,((gp1,pb1,pu1),((gn1,nb1,nu1),(f1,(es1,((bm1,vm1),((bg1,vg1),th1))))))))))))),u1) ((l1,(a1,(t1,(k1,((bp1,vp1),(sc1,(zc1,((gp1,pb1,pu1),((gn1,nb1,nu1),(f1,(es1,((bm1,vm1),((bg1,vg1),th1))))))))))))),u1) [.slice lo1 l1.length lc1,.int .u64 (a1:Int),.int .u64 (t1:Int),.int .u64 (k1:Int),.bool bp1,.int .u64 (vp1:Int),.bool bm1,.int .u64 (vm1:Int),.bool bg1,.int .u64 (vg1:Int),.int .i32 sc1,.int .u64 (zc1:Int),.bool gp1,.int .i32 pb1.off,.slice po1 pb1.cs.length pc1,.string Xpu1,.bool gn1,.int .i32 nb1.off,.slice no1 nb1.cs.length nc1,.string Xnu1,.slice eo1 es1.length ec1,.int .u32 (f1:Int),.int .u64 (th1:Int),.string Xu1] [.slice lo1 l1.length lc1,.int .u64 (a1:Int),.int .u64 (t1:Int),.int .u64 (k1:Int),.bool bp1,.int .u64 (vp1:Int),.bool bm1,.int .u64 (vm1:Int),.bool bg1,.int .u64 (vg1:Int),.int .i32 sc1,.int .u64 (zc1:Int),.bool gp1,.int .i32 pb1.off,.slice po1 pb1.cs.length pc1,.string Xpu1,.bool gn1,.int .i32 nb1.off,.slice no1 nb1.cs.length nc1,.string Xnu1,.slice eo1 es1.length ec1,.int .u32 (f1:Int),.int .u64 (th1:Int),.string Xu1] _ _ w6 HARG1.out HWT1.out (by rw[←HNpu1.out,←HNnu1.out,←HNu1.out];exact H14.out.is.2.2.2.2.1) (by rw[←HNpu1.out,←HNnu1.out,←HNu1.out];exact H14.out.is.2.2.2.2.1)).mono ?_;rintro e w7 ⟨rfl,hb⟩
 rw[alike_yes rfl]
 have hS7:=hS6.below hb
 have H15:=Lib.hid (H14.out.below hb)
 clear hb H14
 go_simp;refine hK.out _ _ hS7 ?_;clear hK KC
 iterate 2 (refine seq_take _ rfl (fun KC hK=>?_);go_simp;(first|refine hK _ ?_|refine ⟨_,fun _ _=>rfl,hK _ ?_⟩);clear hK KC)
 refine seq_done ?_
 clear hne hS hS4 hS5 hS6 hS7
 go_wp2_with fail
 go_ret
 exact ⟨rfl,H15.out.is.2.2.1⟩
theorem xpsm_any (x:Xp) (ca:List Value) (P:Nat→Prop) (y:Xp) (cb:List Value) (Q:Nat→Prop) (w:World) (ha1:xp_arg x) (hr1:xpCel.R w P x ca) (ha2:xp_arg y) (hr2:xpCel.R w Q y cb) :
 Calls Tryz.prog 3 #[.agg ca.toArray,.agg cb.toArray] w fun e w'=>e = .returned (.bool true)∧Below w.heap.size w w':=by
 cases hal:alike x y with
 | false=>exact xpsm_false x ca P y cb Q w ha1 hr1 ha2 hr2 hal
 | true=>exact xpsm_true x ca P y cb Q w ha1 hr1 ha2 hr2 hal
end Go.Proofs.YtficgfemmijaaaaGreat
