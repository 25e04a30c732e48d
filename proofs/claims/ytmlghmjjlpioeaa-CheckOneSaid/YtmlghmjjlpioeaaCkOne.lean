/-
  hyglaw18.CheckOne.
-/
import Derived.Test.YtmlghmjjlpioeaaCkPoints
import Derived.Test.YtmlghmjjlpioeaaCkKvs
import Derived.Test.YtmlghmjjlpioeaaOrd3
set_option maxRecDepth 1000000
set_option maxHeartbeats 16000000
namespace Go.Proofs.Ytmlghmjjlpioeaa
open Go.RowKit
open Lib (hid)
theorem own_lit0 (w:World)(e:TypeId):(w.alloc (.cells #[] e)).ownsRow w.heap.size e 11 (.slice (some ⟨w.heap.size,0,none⟩) 0 0) 0 []:=by
 have:=World.ownsRow_lit (e:=e) (size:=11) w #[] 0 (Nat.le_refl _) (by unfold maxLen;omega) rfl
 simpa using this
theorem ckone_any (x2:Hi)(c2:List Value)(P2:Nat→Prop)(x3:Xp)(c3:List Value)(P3:Nat→Prop)(w:World)(ha2:hi_arg x2)(hr2:hiCel.R w P2 x2 c2)(ha3:xp_arg x3)(hr3:xpCel.R w P3 x3 c3) :
  Calls Try.prog 5 #[.agg c2.toArray,.agg c3.toArray] w fun e w'=>e = .returned (.bool true)∧Below w.heap.size w w':=by
 obtain ⟨⟨a2,⟨t2,⟨k2,⟨⟨ph2,pn2⟩,⟨nc2,⟨nb2,⟨es2,⟨l2,⟨f2,⟨⟨mh2,mn2⟩,⟨gh2,gn2⟩⟩⟩⟩⟩⟩⟩⟩⟩⟩⟩,u2⟩:=x2
 have hs:=hr2
 obtain ⟨lo2,lc2,nco2,ncc2,nbo2,nbc2,eo2,ec2,rfl,_,_,_,_⟩:=hs
 dsimp only[strV] at hr2 ⊢
 obtain ⟨XU2,h⟩:∃ X:ByteArray,(⟨u2.toArray⟩:ByteArray)=X:=⟨_,rfl⟩
 rw[h] at hr2 ⊢
 clear h
 obtain ⟨⟨l3,⟨a3,⟨t3,⟨k3,⟨⟨bp3,vp3⟩,⟨sc3,⟨zc3,⟨⟨gp3,pb3,pu3⟩,⟨⟨gn3,nb3,nu3⟩,⟨f3,⟨es3,⟨⟨bm3,vm3⟩,⟨⟨bg3,vg3⟩,th3⟩⟩⟩⟩⟩⟩⟩⟩⟩⟩⟩⟩⟩,u3⟩:=x3
 have hs:=hr3
 obtain ⟨lo3,lc3,po3,pc3,no3,nc3,eo3,ec3,rfl,_,_,_,_⟩:=hs
 dsimp only[strV] at hr3 ⊢
 obtain ⟨Xpu3,h⟩:∃ X:ByteArray,(⟨pu3.toArray⟩:ByteArray)=X:=⟨_,rfl⟩
 rw[h] at hr3 ⊢
 clear h
 obtain ⟨Xnu3,h⟩:∃ X:ByteArray,(⟨nu3.toArray⟩:ByteArray)=X:=⟨_,rfl⟩
 rw[h] at hr3 ⊢
 clear h
 obtain ⟨Xu3,h⟩:∃ X:ByteArray,(⟨u3.toArray⟩:ByteArray)=X:=⟨_,rfl⟩
 rw[h] at hr3 ⊢
 clear h
 obtain ⟨W,hW⟩:∃ W,(w.alloc (.cells #[.slice lo2 l2.length lc2,.int .u64 (a2:Int),.int .u64 (t2:Int),.int .u64 (k2:Int),.bool ph2,.int .u64 (pn2:Int),.bool mh2,.int .u64 (mn2:Int),.bool gh2,.int .u64 (gn2:Int),.slice nco2 nc2.length ncc2,.slice nbo2 nb2.length nbc2,.slice eo2 es2.length ec2,.int .u32 (f2:Int),.string XU2] 32)).alloc (.cells #[.slice lo3 l3.length lc3,.int .u64 (a3:Int),.int .u64 (t3:Int),.int .u64 (k3:Int),.bool bp3,.int .u64 (vp3:Int),.bool bm3,.int .u64 (vm3:Int),.bool bg3,.int .u64 (vg3:Int),.int .i32 sc3,.int .u64 (zc3:Int),.bool gp3,.int .i32 pb3.off,.slice po3 pb3.cs.length pc3,.string Xpu3,.bool gn3,.int .i32 nb3.off,.slice no3 nb3.cs.length nc3,.string Xnu3,.slice eo3 es3.length ec3,.int .u32 (f3:Int),.int .u64 (th3:Int),.string Xu3] 36)=W:=⟨_,rfl⟩
 obtain ⟨b2,hb2⟩:∃ b,w.heap.size=b:=⟨_,rfl⟩
 obtain ⟨b3,hb3⟩:∃ b,w.heap.size+1=b:=⟨_,rfl⟩
 have HBW:Hid (Below w.heap.size w W):=hid (by rw[←hW];exact below_step (below_new _ _) (below_new _ _))
 have HR2:Hid (W.heap[b2]? = some (.cells #[.slice lo2 l2.length lc2,.int .u64 (a2:Int),.int .u64 (t2:Int),.int .u64 (k2:Int),.bool ph2,.int .u64 (pn2:Int),.bool mh2,.int .u64 (mn2:Int),.bool gh2,.int .u64 (gn2:Int),.slice nco2 nc2.length ncc2,.slice nbo2 nb2.length nbc2,.slice eo2 es2.length ec2,.int .u32 (f2:Int),.string XU2] 32 (0,0))):=hid (by rw[←hW,←hb2];exact (Below.heap_alloc _ _ _ (by first|(simp;done)|(simp;omega))).trans (heap_alloc_new w _))
 have HR3:Hid (W.heap[b3]? = some (.cells #[.slice lo3 l3.length lc3,.int .u64 (a3:Int),.int .u64 (t3:Int),.int .u64 (k3:Int),.bool bp3,.int .u64 (vp3:Int),.bool bm3,.int .u64 (vm3:Int),.bool bg3,.int .u64 (vg3:Int),.int .i32 sc3,.int .u64 (zc3:Int),.bool gp3,.int .i32 pb3.off,.slice po3 pb3.cs.length pc3,.string Xpu3,.bool gn3,.int .i32 nb3.off,.slice no3 nb3.cs.length nc3,.string Xnu3,.slice eo3 es3.length ec3,.int .u32 (f3:Int),.int .u64 (th3:Int),.string Xu3] 36 (0,0))):=hid (by rw[←hW,←hb3];exact (by have h:=heap_alloc_new (w.alloc (.cells #[.slice lo2 l2.length lc2,.int .u64 (a2:Int),.int .u64 (t2:Int),.int .u64 (k2:Int),.bool ph2,.int .u64 (pn2:Int),.bool mh2,.int .u64 (mn2:Int),.bool gh2,.int .u64 (gn2:Int),.slice nco2 nc2.length ncc2,.slice nbo2 nb2.length nbc2,.slice eo2 es2.length ec2,.int .u32 (f2:Int),.string XU2] 32)) (.cells #[.slice lo3 l3.length lc3,.int .u64 (a3:Int),.int .u64 (t3:Int),.int .u64 (k3:Int),.bool bp3,.int .u64 (vp3:Int),.bool bm3,.int .u64 (vm3:Int),.bool bg3,.int .u64 (vg3:Int),.int .i32 sc3,.int .u64 (zc3:Int),.bool gp3,.int .i32 pb3.off,.slice po3 pb3.cs.length pc3,.string Xpu3,.bool gn3,.int .i32 nb3.off,.slice no3 nb3.cs.length nc3,.string Xnu3,.slice eo3 es3.length ec3,.int .u32 (f3:Int),.int .u64 (th3:Int),.string Xu3] 36);rw[show (w.alloc (.cells #[.slice lo2 l2.length lc2,.int .u64 (a2:Int),.int .u64 (t2:Int),.int .u64 (k2:Int),.bool ph2,.int .u64 (pn2:Int),.bool mh2,.int .u64 (mn2:Int),.bool gh2,.int .u64 (gn2:Int),.slice nco2 nc2.length ncc2,.slice nbo2 nb2.length nbc2,.slice eo2 es2.length ec2,.int .u32 (f2:Int),.string XU2] 32)).heap.size=w.heap.size+1 by simp] at h;exact h))
 have HA2:=hid ha2
 have HL2:=hid (hiCel.upd (Upd.of_new (S:=fun _=>False) HBW.out) (fun _ _ h=>h) (fun _ h=>h) hr2)
 have HB2:=hid hb2
 have HA3:=hid ha3
 have HL3:=hid (xpCel.upd (Upd.of_new (S:=fun _=>False) HBW.out) (fun _ _ h=>h) (fun _ h=>h) hr3)
 have HB3:=hid hb3
 have HW:=hid hW
 clear hW ha2 hr2 hb2 ha3 hr3 hb3
 go_enter Try.func5,Try.ntmps5
 go_upto_region 1 with fail
 rw[HW.out,HB3.out,HB2.out]
 go_wp2_with fail
 refine (first18 W).mono ?_;rintro e w1 ⟨rfl,hb⟩
 have HV1:Hid (Below W.heap.size W w1):=hid hb
 clear hb HW HB2 HB3
 go_upto_region 3 with fail
 refine wp_region_lit ?_
 refine wpList_plain rfl (fun K hK=>?_)
 refine wp_load_mid 32 (.tmp 2) rfl b2 0 rfl [.slice lo2 l2.length lc2,.int .u64 (a2:Int),.int .u64 (t2:Int),.int .u64 (k2:Int),.bool ph2,.int .u64 (pn2:Int),.bool mh2,.int .u64 (mn2:Int),.bool gh2,.int .u64 (gn2:Int),.slice nco2 nc2.length ncc2,.slice nbo2 nb2.length nbc2,.slice eo2 es2.length ec2,.int .u32 (f2:Int),.string XU2] _ (range_rowc ((HV1.out.block _ (row_lt HR2.out)).trans HR2.out)) Try.underlying32 rfl (by kernel_rfl) (hK _ _ ?_)
 clear hK K
 refine wpList_plain rfl (fun K hK=>?_);go_simp
 refine (hi_room ((a2,(t2,(k2,((ph2,pn2),(nc2,(nb2,(es2,(l2,(f2,((mh2,mn2),(gh2,gn2))))))))))),u2) [.slice lo2 l2.length lc2,.int .u64 (a2:Int),.int .u64 (t2:Int),.int .u64 (k2:Int),.bool ph2,.int .u64 (pn2:Int),.bool mh2,.int .u64 (mn2:Int),.bool gh2,.int .u64 (gn2:Int),.slice nco2 nc2.length ncc2,.slice nbo2 nb2.length nbc2,.slice eo2 es2.length ec2,.int .u32 (f2:Int),.string XU2] _ w1 12000 HA2.out (hiCel.upd (Upd.of_new (S:=fun _=>False) HV1.out) (fun _ _ h=>h) (fun _ h=>h) HL2.out) (by omega)).mono ?_;rintro e w2 hpost
 obtain ⟨hb,s2,rfl,HRM2⟩:=hpost
 have HV2:Hid (Below W.heap.size W w2):=hid (below_step HV1.out hb)
 clear hb
 refine hK _ _ ?_;clear hK K
 by_cases hneg:s2<0
 case pos =>
  have d1:decide (s2<0)=true:=decide_eq_true hneg
  clear hneg
  go_wp2_with fail
  refine (first18 w2).mono ?_;rintro e w9 ⟨rfl,hb⟩
  have HV9:Hid (Below W.heap.size W w9):=hid (below_step HV2.out hb)
  clear hb
  go_wp2_with fail
  go_ret
  exact ⟨rfl,HBW.out.trans (HV9.out.mono HBW.out.size)⟩
 have d2:decide (s2<0)=false:=decide_eq_false hneg
 have HLL2:Hid (l2.length≤300):=hid (by have h:=HRM2.out;have h2:=ksw_len l2;unfold RoomOk at h;have h3:hi_wt ((a2,(t2,(k2,((ph2,pn2),(nc2,(nb2,(es2,(l2,(f2,((mh2,mn2),(gh2,gn2))))))))))),u2)=60+(8 * nc2.length+8 * nb2.length+lwt exSb es2+ksw l2+u2.length):=rfl;omega)
 have HSM2:=hid (by have h:=HRM2.out;have h2:=ksw_len l2;unfold RoomOk at h;have h3:hi_wt ((a2,(t2,(k2,((ph2,pn2),(nc2,(nb2,(es2,(l2,(f2,((mh2,mn2),(gh2,gn2))))))))))),u2)=60+(8 * nc2.length+8 * nb2.length+lwt exSb es2+ksw l2+u2.length):=rfl;show nc2.length≤1000000∧nb2.length≤1000000∧l2.length≤1000000;omega)
 clear hneg HRM2
 refine wpList_plain rfl (fun K hK=>?_);go_simp;refine hK _ _ ?_;clear hK K
 refine wpList_plain rfl (fun K hK=>?_);go_simp;refine hK _ _ ?_;clear hK K
 refine BigFrame.wpList_want (by rfl) (fun K hK=>?_)
 refine wp_load_mid 36 (.tmp 3) rfl b3 0 rfl [.slice lo3 l3.length lc3,.int .u64 (a3:Int),.int .u64 (t3:Int),.int .u64 (k3:Int),.bool bp3,.int .u64 (vp3:Int),.bool bm3,.int .u64 (vm3:Int),.bool bg3,.int .u64 (vg3:Int),.int .i32 sc3,.int .u64 (zc3:Int),.bool gp3,.int .i32 pb3.off,.slice po3 pb3.cs.length pc3,.string Xpu3,.bool gn3,.int .i32 nb3.off,.slice no3 nb3.cs.length nc3,.string Xnu3,.slice eo3 es3.length ec3,.int .u32 (f3:Int),.int .u64 (th3:Int),.string Xu3] _ (range_rowc ((HV2.out.block _ (row_lt HR3.out)).trans HR3.out)) Try.underlying36 rfl (by kernel_rfl) (hK _ _ ?_)
 clear hK K
 refine BigFrame.wpList_want (by rfl) (fun K hK=>?_);go_simp
 refine (xp_room ((l3,(a3,(t3,(k3,((bp3,vp3),(sc3,(zc3,((gp3,pb3,pu3),((gn3,nb3,nu3),(f3,(es3,((bm3,vm3),((bg3,vg3),th3))))))))))))),u3) [.slice lo3 l3.length lc3,.int .u64 (a3:Int),.int .u64 (t3:Int),.int .u64 (k3:Int),.bool bp3,.int .u64 (vp3:Int),.bool bm3,.int .u64 (vm3:Int),.bool bg3,.int .u64 (vg3:Int),.int .i32 sc3,.int .u64 (zc3:Int),.bool gp3,.int .i32 pb3.off,.slice po3 pb3.cs.length pc3,.string Xpu3,.bool gn3,.int .i32 nb3.off,.slice no3 nb3.cs.length nc3,.string Xnu3,.slice eo3 es3.length ec3,.int .u32 (f3:Int),.int .u64 (th3:Int),.string Xu3] _ w2 12000 HA3.out (xpCel.upd (Upd.of_new (S:=fun _=>False) HV2.out) (fun _ _ h=>h) (fun _ h=>h) HL3.out) (by omega)).mono ?_;rintro e w3 hpost
 obtain ⟨hb,s3,rfl,HRM3⟩:=hpost
 have HV3:Hid (Below W.heap.size W w3):=hid (below_step HV2.out hb)
 clear hb
 refine hK _ _ ?_;clear hK K
 by_cases hneg:s3<0
 case pos =>
  have d1:decide (s3<0)=true:=decide_eq_true hneg
  clear hneg
  go_wp2_with fail
  refine (first18 w3).mono ?_;rintro e w9 ⟨rfl,hb⟩
  have HV9:Hid (Below W.heap.size W w9):=hid (below_step HV3.out hb)
  clear hb
  go_wp2_with fail
  go_ret
  exact ⟨rfl,HBW.out.trans (HV9.out.mono HBW.out.size)⟩
 have d3:decide (s3<0)=false:=decide_eq_false hneg
 have HSM3:=hid (by have h:=HRM3.out;have h2:=ksw_len l3;unfold RoomOk at h;have h3:xp_rw ((l3,(a3,(t3,(k3,((bp3,vp3),(sc3,(zc3,((gp3,pb3,pu3),((gn3,nb3,nu3),(f3,(es3,((bm3,vm3),((bg3,vg3),th3))))))))))))),u3)=100+(8 * min pb3.cs.length 100000+pu3.length+(8 * min nb3.cs.length 100000+nu3.length)+ksw l3+lwt exSb es3+u3.length):=rfl;show l3.length≤1000000∧pb3.cs.length≤1000000∧nb3.cs.length≤1000000;omega)
 clear hneg HRM3
 skip
 refine BigFrame.wpList_want (by rfl) (fun K hK=>?_);go_simp;refine hK _ _ ?_;clear hK K
 refine wpList_plain rfl (fun K hK=>?_);go_simp;refine hK _ _ ?_;clear hK K
 refine wpList_plain rfl (fun K hK=>?_);go_simp;refine hK _ _ ?_;clear hK K
 obtain ⟨r2,HG2⟩:∃ r,Hid (histR ((a2,(t2,(k2,((ph2,pn2),(nc2,(nb2,(es2,(l2,(f2,((mh2,mn2),(gh2,gn2))))))))))),u2)=r):=⟨_,hid rfl⟩
 refine BigFrame.wpList_want (by rfl) (fun K hK=>?_)
 refine wp_load_mid 32 (.tmp 2) rfl b2 0 rfl [.slice lo2 l2.length lc2,.int .u64 (a2:Int),.int .u64 (t2:Int),.int .u64 (k2:Int),.bool ph2,.int .u64 (pn2:Int),.bool mh2,.int .u64 (mn2:Int),.bool gh2,.int .u64 (gn2:Int),.slice nco2 nc2.length ncc2,.slice nbo2 nb2.length nbc2,.slice eo2 es2.length ec2,.int .u32 (f2:Int),.string XU2] _ (range_rowc ((HV3.out.block _ (row_lt HR2.out)).trans HR2.out)) Try.underlying32 rfl (by kernel_rfl) (hK _ _ ?_)
 clear hK K
 refine BigFrame.wpList_want (by rfl) (fun K hK=>?_);go_simp
 refine (hist_any ((a2,(t2,(k2,((ph2,pn2),(nc2,(nb2,(es2,(l2,(f2,((mh2,mn2),(gh2,gn2))))))))))),u2) [.slice lo2 l2.length lc2,.int .u64 (a2:Int),.int .u64 (t2:Int),.int .u64 (k2:Int),.bool ph2,.int .u64 (pn2:Int),.bool mh2,.int .u64 (mn2:Int),.bool gh2,.int .u64 (gn2:Int),.slice nco2 nc2.length ncc2,.slice nbo2 nb2.length nbc2,.slice eo2 es2.length ec2,.int .u32 (f2:Int),.string XU2] _ w3 HA2.out (hiCel.upd (Upd.of_new (S:=fun _=>False) HV3.out) (fun _ _ h=>h) (fun _ h=>h) HL2.out) HSM2.out HG2).mono ?_;rintro e w4 ⟨rfl,hb⟩
 have HV4:Hid (Below W.heap.size W w4):=hid (below_step HV3.out hb)
 clear hb
 refine hK _ _ ?_;clear hK K
 by_cases hz:r2=0
 case neg =>
  have e1:((r2:Int) != 0)=true:=by rw[bne_iff_ne];omega
  have e2:(r2 != 0)=true:=by rw[bne_iff_ne];omega
  clear hz
  go_wp2_with fail
  refine (first18 w4).mono ?_;rintro e w9 ⟨rfl,hb⟩
  have HV9:Hid (Below W.heap.size W w9):=hid (below_step HV4.out hb)
  clear hb
  go_wp2_with fail
  go_ret
  exact ⟨rfl,HBW.out.trans (HV9.out.mono HBW.out.size)⟩
 subst hz
 refine BigFrame.wpList_want (by rfl) (fun K hK=>?_);go_simp;refine hK _ _ ?_;clear hK K
 refine wpList_plain rfl (fun K hK=>?_);go_simp;refine hK _ _ ?_;clear hK K
 refine wpList_plain rfl (fun K hK=>?_);go_simp;refine hK _ _ ?_;clear hK K
 obtain ⟨r3,HG3⟩:∃ r,Hid (expR ((l3,(a3,(t3,(k3,((bp3,vp3),(sc3,(zc3,((gp3,pb3,pu3),((gn3,nb3,nu3),(f3,(es3,((bm3,vm3),((bg3,vg3),th3))))))))))))),u3)=r):=⟨_,hid rfl⟩
 refine BigFrame.wpList_want (by rfl) (fun K hK=>?_)
 refine wp_load_mid 36 (.tmp 3) rfl b3 0 rfl [.slice lo3 l3.length lc3,.int .u64 (a3:Int),.int .u64 (t3:Int),.int .u64 (k3:Int),.bool bp3,.int .u64 (vp3:Int),.bool bm3,.int .u64 (vm3:Int),.bool bg3,.int .u64 (vg3:Int),.int .i32 sc3,.int .u64 (zc3:Int),.bool gp3,.int .i32 pb3.off,.slice po3 pb3.cs.length pc3,.string Xpu3,.bool gn3,.int .i32 nb3.off,.slice no3 nb3.cs.length nc3,.string Xnu3,.slice eo3 es3.length ec3,.int .u32 (f3:Int),.int .u64 (th3:Int),.string Xu3] _ (range_rowc ((HV4.out.block _ (row_lt HR3.out)).trans HR3.out)) Try.underlying36 rfl (by kernel_rfl) (hK _ _ ?_)
 clear hK K
 refine BigFrame.wpList_want (by rfl) (fun K hK=>?_);go_simp
 refine (exp_any ((l3,(a3,(t3,(k3,((bp3,vp3),(sc3,(zc3,((gp3,pb3,pu3),((gn3,nb3,nu3),(f3,(es3,((bm3,vm3),((bg3,vg3),th3))))))))))))),u3) [.slice lo3 l3.length lc3,.int .u64 (a3:Int),.int .u64 (t3:Int),.int .u64 (k3:Int),.bool bp3,.int .u64 (vp3:Int),.bool bm3,.int .u64 (vm3:Int),.bool bg3,.int .u64 (vg3:Int),.int .i32 sc3,.int .u64 (zc3:Int),.bool gp3,.int .i32 pb3.off,.slice po3 pb3.cs.length pc3,.string Xpu3,.bool gn3,.int .i32 nb3.off,.slice no3 nb3.cs.length nc3,.string Xnu3,.slice eo3 es3.length ec3,.int .u32 (f3:Int),.int .u64 (th3:Int),.string Xu3] _ w4 HA3.out (xpCel.upd (Upd.of_new (S:=fun _=>False) HV4.out) (fun _ _ h=>h) (fun _ h=>h) HL3.out) HSM3.out HG3).mono ?_;rintro e w5 ⟨rfl,hb⟩
 have HV5:Hid (Below W.heap.size W w5):=hid (below_step HV4.out hb)
 clear hb
 refine hK _ _ ?_;clear hK K
 by_cases hz:r3=0
 case neg =>
  have e1:((r3:Int) != 0)=true:=by rw[bne_iff_ne];omega
  have e2:(r3 != 0)=true:=by rw[bne_iff_ne];omega
  clear hz
  go_wp2_with fail
  refine (first18 w5).mono ?_;rintro e w9 ⟨rfl,hb⟩
  have HV9:Hid (Below W.heap.size W w9):=hid (below_step HV5.out hb)
  clear hb
  go_wp2_with fail
  go_ret
  exact ⟨rfl,HBW.out.trans (HV9.out.mono HBW.out.size)⟩
 subst hz
 refine BigFrame.wpList_want (by rfl) (fun K hK=>?_);go_simp;refine hK _ _ ?_;clear hK K
 refine wpList_plain rfl (fun K hK=>?_);go_simp;refine hK _ _ ?_;clear hK K
 go_upto_region 5 with fail
 refine region_three (fun a b5 b6 b7=>((((((a.put (some 32) (.agg #[.slice lo2 l2.length lc2,.int .u64 (a2:Int),.int .u64 (t2:Int),.int .u64 (k2:Int),.bool ph2,.int .u64 (pn2:Int),.bool mh2,.int .u64 (mn2:Int),.bool gh2,.int .u64 (gn2:Int),.slice nco2 nc2.length ncc2,.slice nbo2 nb2.length nbc2,.slice eo2 es2.length ec2,.int .u32 (f2:Int),.string XU2])).put (some 33) (.agg #[.slice lo2 l2.length lc2,.int .u64 (a2:Int),.int .u64 (t2:Int),.int .u64 (k2:Int),.bool ph2,.int .u64 (pn2:Int),.bool mh2,.int .u64 (mn2:Int),.bool gh2,.int .u64 (gn2:Int),.slice nco2 nc2.length ncc2,.slice nbo2 nb2.length nbc2,.slice eo2 es2.length ec2,.int .u32 (f2:Int),.string XU2])).put (some 34) (.agg #[.slice lo3 l3.length lc3,.int .u64 (a3:Int),.int .u64 (t3:Int),.int .u64 (k3:Int),.bool bp3,.int .u64 (vp3:Int),.bool bm3,.int .u64 (vm3:Int),.bool bg3,.int .u64 (vg3:Int),.int .i32 sc3,.int .u64 (zc3:Int),.bool gp3,.int .i32 pb3.off,.slice po3 pb3.cs.length pc3,.string Xpu3,.bool gn3,.int .i32 nb3.off,.slice no3 nb3.cs.length nc3,.string Xnu3,.slice eo3 es3.length ec3,.int .u32 (f3:Int),.int .u64 (th3:Int),.string Xu3])).put (some 5) (.pointer (some ⟨b5,0,none⟩))).put (some 6) (.pointer (some ⟨b6,0,none⟩))).put (some 7) (.pointer (some ⟨b7,0,none⟩)))) (fun w' x y z=>Below W.heap.size W w'∧W.heap.size≤x∧W.heap.size≤y∧W.heap.size≤z∧x≠y∧x≠z∧y≠z∧w'.heap[x]? = some (.cells #[.slice lo2 l2.length lc2,.int .u64 (a2:Int),.int .u64 (t2:Int),.int .u64 (k2:Int),.bool ph2,.int .u64 (pn2:Int),.bool mh2,.int .u64 (mn2:Int),.bool gh2,.int .u64 (gn2:Int),.slice nco2 nc2.length ncc2,.slice nbo2 nb2.length nbc2,.slice eo2 es2.length ec2,.int .u32 (f2:Int),.string XU2] 32 (0,0))∧w'.heap[y]? = some (.cells #[.slice lo2 l2.length lc2,.int .u64 (a2:Int),.int .u64 (t2:Int),.int .u64 (k2:Int),.bool ph2,.int .u64 (pn2:Int),.bool mh2,.int .u64 (mn2:Int),.bool gh2,.int .u64 (gn2:Int),.slice nco2 nc2.length ncc2,.slice nbo2 nb2.length nbc2,.slice eo2 es2.length ec2,.int .u32 (f2:Int),.string XU2] 32 (0,0))∧w'.heap[z]? = some (.cells #[.slice lo3 l3.length lc3,.int .u64 (a3:Int),.int .u64 (t3:Int),.int .u64 (k3:Int),.bool bp3,.int .u64 (vp3:Int),.bool bm3,.int .u64 (vm3:Int),.bool bg3,.int .u64 (vg3:Int),.int .i32 sc3,.int .u64 (zc3:Int),.bool gp3,.int .i32 pb3.off,.slice po3 pb3.cs.length pc3,.string Xpu3,.bool gn3,.int .i32 nb3.off,.slice no3 nb3.cs.length nc3,.string Xnu3,.slice eo3 es3.length ec3,.int .u32 (f3:Int),.int .u64 (th3:Int),.string Xu3] 36 (0,0))) ?_ ?_
 ·obtain ⟨D,hD⟩:∃ D,w5.drew=D:=⟨_,rfl⟩
  have HVD:Hid (Below W.heap.size W D):=hid (by rw[←hD];exact HV5.out.trans ((Below.refl _ _).drew.mono HV5.out.size))
  have hDs:=HVD.out.size
  refine wp_region_seq3 (S:=fun w'=>Below W.heap.size W w') (.take 0 (.take 1 (.take 2 (.three 3 4 5 (.two 4 5 (.come 5 (.come 6 (.come 7 (.come 8 .done)))) (.come 4 (.come 6 (.come 7 (.come 8 .done))))) (.two 3 5 (.come 5 (.come 6 (.come 7 (.come 8 .done)))) (.come 3 (.come 6 (.come 7 (.come 8 .done))))) (.two 3 4 (.come 4 (.come 6 (.come 7 (.come 8 .done)))) (.come 3 (.come 6 (.come 7 (.come 8 .done))))))))) (by kernel_rfl) (by kernel_rfl) (by kernel_rfl) (by kernel_rfl) (by rw[hD];exact HVD.out) ?_
  rw[hD]
  clear hD
  refine seq3_load _ rfl (by rfl) 32 (.tmp 2) rfl b2 rfl [.slice lo2 l2.length lc2,.int .u64 (a2:Int),.int .u64 (t2:Int),.int .u64 (k2:Int),.bool ph2,.int .u64 (pn2:Int),.bool mh2,.int .u64 (mn2:Int),.bool gh2,.int .u64 (gn2:Int),.slice nco2 nc2.length ncc2,.slice nbo2 nb2.length nbc2,.slice eo2 es2.length ec2,.int .u32 (f2:Int),.string XU2] _ (fun t ht=>range_rowc ((ht.block _ (row_lt HR2.out)).trans HR2.out)) Try.underlying32 rfl (by kernel_rfl) ?_
  refine seq3_load _ rfl (by rfl) 32 (.tmp 2) rfl b2 rfl [.slice lo2 l2.length lc2,.int .u64 (a2:Int),.int .u64 (t2:Int),.int .u64 (k2:Int),.bool ph2,.int .u64 (pn2:Int),.bool mh2,.int .u64 (mn2:Int),.bool gh2,.int .u64 (gn2:Int),.slice nco2 nc2.length ncc2,.slice nbo2 nb2.length nbc2,.slice eo2 es2.length ec2,.int .u32 (f2:Int),.string XU2] _ (fun t ht=>range_rowc ((ht.block _ (row_lt HR2.out)).trans HR2.out)) Try.underlying32 rfl (by kernel_rfl) ?_
  refine seq3_load _ rfl (by rfl) 36 (.tmp 3) rfl b3 rfl [.slice lo3 l3.length lc3,.int .u64 (a3:Int),.int .u64 (t3:Int),.int .u64 (k3:Int),.bool bp3,.int .u64 (vp3:Int),.bool bm3,.int .u64 (vm3:Int),.bool bg3,.int .u64 (vg3:Int),.int .i32 sc3,.int .u64 (zc3:Int),.bool gp3,.int .i32 pb3.off,.slice po3 pb3.cs.length pc3,.string Xpu3,.bool gn3,.int .i32 nb3.off,.slice no3 nb3.cs.length nc3,.string Xnu3,.slice eo3 es3.length ec3,.int .u32 (f3:Int),.int .u64 (th3:Int),.string Xu3] _ (fun t ht=>range_rowc ((ht.block _ (row_lt HR3.out)).trans HR3.out)) Try.underlying36 rfl (by kernel_rfl) ?_
  refine seq3_three ?_ ?_ ?_
  ·refine seq3_come _ rfl (fun KC hK=>?_);go_simp
   refine hK.out _ _ (below_step HVD.out (below_new _ _)) ?_;clear hK KC
   refine seq3_two ?_ ?_
   ·refine seq3_come _ rfl (fun KC hK=>?_);go_simp
    refine hK.out _ _ (below_step (below_step HVD.out (below_new _ _)) (below_new _ _)) ?_;clear hK KC
    refine seq3_come _ rfl (fun KC hK=>?_);go_simp
    refine hK.out _ _ (below_step (below_step (below_step HVD.out (below_new _ _)) (below_new _ _)) (below_new _ _)) ?_;clear hK KC
    obtain ⟨q0,q1,q2,q3⟩:=alloc3 D #[.slice none 0 0,.int .u64 0,.int .u64 0,.int .u64 0,.bool false,.int .u64 0,.bool false,.int .u64 0,.bool false,.int .u64 0,.slice none 0 0,.slice none 0 0,.slice none 0 0,.int .u32 0,.string ⟨#[]⟩] #[.slice none 0 0,.int .u64 0,.int .u64 0,.int .u64 0,.bool false,.int .u64 0,.bool false,.int .u64 0,.bool false,.int .u64 0,.slice none 0 0,.slice none 0 0,.slice none 0 0,.int .u32 0,.string ⟨#[]⟩] #[.slice none 0 0,.int .u64 0,.int .u64 0,.int .u64 0,.bool false,.int .u64 0,.bool false,.int .u64 0,.bool false,.int .u64 0,.int .i32 0,.int .u64 0,.bool false,.int .i32 0,.slice none 0 0,.string ⟨#[]⟩,.bool false,.int .i32 0,.slice none 0 0,.string ⟨#[]⟩,.slice none 0 0,.int .u32 0,.int .u64 0,.string ⟨#[]⟩] 32 32 36
    obtain ⟨A,hA⟩:∃ A,((D.alloc (.cells #[.slice none 0 0,.int .u64 0,.int .u64 0,.int .u64 0,.bool false,.int .u64 0,.bool false,.int .u64 0,.bool false,.int .u64 0,.slice none 0 0,.slice none 0 0,.slice none 0 0,.int .u32 0,.string ⟨#[]⟩] 32)).alloc (.cells #[.slice none 0 0,.int .u64 0,.int .u64 0,.int .u64 0,.bool false,.int .u64 0,.bool false,.int .u64 0,.bool false,.int .u64 0,.slice none 0 0,.slice none 0 0,.slice none 0 0,.int .u32 0,.string ⟨#[]⟩] 32)).alloc (.cells #[.slice none 0 0,.int .u64 0,.int .u64 0,.int .u64 0,.bool false,.int .u64 0,.bool false,.int .u64 0,.bool false,.int .u64 0,.int .i32 0,.int .u64 0,.bool false,.int .i32 0,.slice none 0 0,.string ⟨#[]⟩,.bool false,.int .i32 0,.slice none 0 0,.string ⟨#[]⟩,.slice none 0 0,.int .u32 0,.int .u64 0,.string ⟨#[]⟩] 36)=A:=⟨_,rfl⟩
    rw[hA] at q0 q1 q2 q3 ⊢
    clear hA
    have hA3:Below W.heap.size W A:=HVD.out.trans (q3.mono hDs)
    obtain ⟨ff0,ff1,ff2,ff3⟩:=fill3 (n0:=#[.slice lo2 l2.length lc2,.int .u64 (a2:Int),.int .u64 (t2:Int),.int .u64 (k2:Int),.bool ph2,.int .u64 (pn2:Int),.bool mh2,.int .u64 (mn2:Int),.bool gh2,.int .u64 (gn2:Int),.slice nco2 nc2.length ncc2,.slice nbo2 nb2.length nbc2,.slice eo2 es2.length ec2,.int .u32 (f2:Int),.string XU2]) (n1:=#[.slice lo2 l2.length lc2,.int .u64 (a2:Int),.int .u64 (t2:Int),.int .u64 (k2:Int),.bool ph2,.int .u64 (pn2:Int),.bool mh2,.int .u64 (mn2:Int),.bool gh2,.int .u64 (gn2:Int),.slice nco2 nc2.length ncc2,.slice nbo2 nb2.length nbc2,.slice eo2 es2.length ec2,.int .u32 (f2:Int),.string XU2]) (n2:=#[.slice lo3 l3.length lc3,.int .u64 (a3:Int),.int .u64 (t3:Int),.int .u64 (k3:Int),.bool bp3,.int .u64 (vp3:Int),.bool bm3,.int .u64 (vm3:Int),.bool bg3,.int .u64 (vg3:Int),.int .i32 sc3,.int .u64 (zc3:Int),.bool gp3,.int .i32 pb3.off,.slice po3 pb3.cs.length pc3,.string Xpu3,.bool gn3,.int .i32 nb3.off,.slice no3 nb3.cs.length nc3,.string Xnu3,.slice eo3 es3.length ec3,.int .u32 (f3:Int),.int .u64 (th3:Int),.string Xu3]) hA3 (x:=D.heap.size) (y:=D.heap.size+1) (z:=D.heap.size+2) (by omega) (by omega) (by omega) (by omega) (by omega) (by omega) q0 q1 q2
    have g4:(A.setRow (D.heap.size) #[.slice lo2 l2.length lc2,.int .u64 (a2:Int),.int .u64 (t2:Int),.int .u64 (k2:Int),.bool ph2,.int .u64 (pn2:Int),.bool mh2,.int .u64 (mn2:Int),.bool gh2,.int .u64 (gn2:Int),.slice nco2 nc2.length ncc2,.slice nbo2 nb2.length nbc2,.slice eo2 es2.length ec2,.int .u32 (f2:Int),.string XU2]).heap[D.heap.size+1]? = some (.cells #[.slice none 0 0,.int .u64 0,.int .u64 0,.int .u64 0,.bool false,.int .u64 0,.bool false,.int .u64 0,.bool false,.int .u64 0,.slice none 0 0,.slice none 0 0,.slice none 0 0,.int .u32 0,.string ⟨#[]⟩] 32 (0,0)):=((upd_setRow3 A (D.heap.size) #[.slice lo2 l2.length lc2,.int .u64 (a2:Int),.int .u64 (t2:Int),.int .u64 (k2:Int),.bool ph2,.int .u64 (pn2:Int),.bool mh2,.int .u64 (mn2:Int),.bool gh2,.int .u64 (gn2:Int),.slice nco2 nc2.length ncc2,.slice nbo2 nb2.length nbc2,.slice eo2 es2.length ec2,.int .u32 (f2:Int),.string XU2]).block _ (row_lt q1) (fun e=>by have e:D.heap.size+1=D.heap.size:=e;omega)).trans q1
    have g5:((A.setRow (D.heap.size) #[.slice lo2 l2.length lc2,.int .u64 (a2:Int),.int .u64 (t2:Int),.int .u64 (k2:Int),.bool ph2,.int .u64 (pn2:Int),.bool mh2,.int .u64 (mn2:Int),.bool gh2,.int .u64 (gn2:Int),.slice nco2 nc2.length ncc2,.slice nbo2 nb2.length nbc2,.slice eo2 es2.length ec2,.int .u32 (f2:Int),.string XU2]).setRow (D.heap.size+1) #[.slice lo2 l2.length lc2,.int .u64 (a2:Int),.int .u64 (t2:Int),.int .u64 (k2:Int),.bool ph2,.int .u64 (pn2:Int),.bool mh2,.int .u64 (mn2:Int),.bool gh2,.int .u64 (gn2:Int),.slice nco2 nc2.length ncc2,.slice nbo2 nb2.length nbc2,.slice eo2 es2.length ec2,.int .u32 (f2:Int),.string XU2]).heap[D.heap.size+2]? = some (.cells #[.slice none 0 0,.int .u64 0,.int .u64 0,.int .u64 0,.bool false,.int .u64 0,.bool false,.int .u64 0,.bool false,.int .u64 0,.int .i32 0,.int .u64 0,.bool false,.int .i32 0,.slice none 0 0,.string ⟨#[]⟩,.bool false,.int .i32 0,.slice none 0 0,.string ⟨#[]⟩,.slice none 0 0,.int .u32 0,.int .u64 0,.string ⟨#[]⟩] 36 (0,0)):=((upd_setRow3 (A.setRow (D.heap.size) #[.slice lo2 l2.length lc2,.int .u64 (a2:Int),.int .u64 (t2:Int),.int .u64 (k2:Int),.bool ph2,.int .u64 (pn2:Int),.bool mh2,.int .u64 (mn2:Int),.bool gh2,.int .u64 (gn2:Int),.slice nco2 nc2.length ncc2,.slice nbo2 nb2.length nbc2,.slice eo2 es2.length ec2,.int .u32 (f2:Int),.string XU2]) (D.heap.size+1) #[.slice lo2 l2.length lc2,.int .u64 (a2:Int),.int .u64 (t2:Int),.int .u64 (k2:Int),.bool ph2,.int .u64 (pn2:Int),.bool mh2,.int .u64 (mn2:Int),.bool gh2,.int .u64 (gn2:Int),.slice nco2 nc2.length ncc2,.slice nbo2 nb2.length nbc2,.slice eo2 es2.length ec2,.int .u32 (f2:Int),.string XU2]).block _ (row_lt (((upd_setRow3 A (D.heap.size) #[.slice lo2 l2.length lc2,.int .u64 (a2:Int),.int .u64 (t2:Int),.int .u64 (k2:Int),.bool ph2,.int .u64 (pn2:Int),.bool mh2,.int .u64 (mn2:Int),.bool gh2,.int .u64 (gn2:Int),.slice nco2 nc2.length ncc2,.slice nbo2 nb2.length nbc2,.slice eo2 es2.length ec2,.int .u32 (f2:Int),.string XU2]).block _ (row_lt q2) (fun e=>by have e:D.heap.size+2=D.heap.size:=e;omega)).trans q2)) (fun e=>by have e:D.heap.size+2=D.heap.size+1:=e;omega)).trans (((upd_setRow3 A (D.heap.size) #[.slice lo2 l2.length lc2,.int .u64 (a2:Int),.int .u64 (t2:Int),.int .u64 (k2:Int),.bool ph2,.int .u64 (pn2:Int),.bool mh2,.int .u64 (mn2:Int),.bool gh2,.int .u64 (gn2:Int),.slice nco2 nc2.length ncc2,.slice nbo2 nb2.length nbc2,.slice eo2 es2.length ec2,.int .u32 (f2:Int),.string XU2]).block _ (row_lt q2) (fun e=>by have e:D.heap.size+2=D.heap.size:=e;omega)).trans q2)
    refine seq3_wp _ rfl rfl (fun KC hK=>?_)
    refine wp_store_row 32 _ _ rfl (D.heap.size) #[.slice lo2 l2.length lc2,.int .u64 (a2:Int),.int .u64 (t2:Int),.int .u64 (k2:Int),.bool ph2,.int .u64 (pn2:Int),.bool mh2,.int .u64 (mn2:Int),.bool gh2,.int .u64 (gn2:Int),.slice nco2 nc2.length ncc2,.slice nbo2 nb2.length nbc2,.slice eo2 es2.length ec2,.int .u32 (f2:Int),.string XU2] (by go_simp) (by go_simp) 32 _ q0 (by kernel_rfl) rfl (by simp[Value.oneCell']) ?_
    refine hK.out _ _ (below_setRow hA3 (by omega) _) ?_;clear hK KC
    refine seq3_wp _ rfl rfl (fun KC hK=>?_)
    refine wp_store_row 32 _ _ rfl (D.heap.size+1) #[.slice lo2 l2.length lc2,.int .u64 (a2:Int),.int .u64 (t2:Int),.int .u64 (k2:Int),.bool ph2,.int .u64 (pn2:Int),.bool mh2,.int .u64 (mn2:Int),.bool gh2,.int .u64 (gn2:Int),.slice nco2 nc2.length ncc2,.slice nbo2 nb2.length nbc2,.slice eo2 es2.length ec2,.int .u32 (f2:Int),.string XU2] (by go_simp) (by go_simp) 32 _ g4 (by kernel_rfl) rfl (by simp[Value.oneCell']) ?_
    refine hK.out _ _ (below_setRow (below_setRow hA3 (by omega) _) (by omega) _) ?_;clear hK KC
    refine seq3_wp _ rfl rfl (fun KC hK=>?_)
    refine wp_store_row 36 _ _ rfl (D.heap.size+2) #[.slice lo3 l3.length lc3,.int .u64 (a3:Int),.int .u64 (t3:Int),.int .u64 (k3:Int),.bool bp3,.int .u64 (vp3:Int),.bool bm3,.int .u64 (vm3:Int),.bool bg3,.int .u64 (vg3:Int),.int .i32 sc3,.int .u64 (zc3:Int),.bool gp3,.int .i32 pb3.off,.slice po3 pb3.cs.length pc3,.string Xpu3,.bool gn3,.int .i32 nb3.off,.slice no3 nb3.cs.length nc3,.string Xnu3,.slice eo3 es3.length ec3,.int .u32 (f3:Int),.int .u64 (th3:Int),.string Xu3] (by go_simp) (by go_simp) 36 _ g5 (by kernel_rfl) rfl (by simp[Value.oneCell']) ?_
    refine hK.out _ _ (ff0) ?_;clear hK KC
    refine seq3_done ?_
    exact ⟨rfl,D.heap.size,D.heap.size+1,D.heap.size+2,⟨ff0,by omega,by omega,by omega,by omega,by omega,by omega,ff1,ff2,ff3⟩,by first|rfl|simp[Act.put]⟩
   ·refine seq3_come _ rfl (fun KC hK=>?_);go_simp
    refine hK.out _ _ (below_step (below_step HVD.out (below_new _ _)) (below_new _ _)) ?_;clear hK KC
    refine seq3_come _ rfl (fun KC hK=>?_);go_simp
    refine hK.out _ _ (below_step (below_step (below_step HVD.out (below_new _ _)) (below_new _ _)) (below_new _ _)) ?_;clear hK KC
    obtain ⟨q0,q1,q2,q3⟩:=alloc3 D #[.slice none 0 0,.int .u64 0,.int .u64 0,.int .u64 0,.bool false,.int .u64 0,.bool false,.int .u64 0,.bool false,.int .u64 0,.slice none 0 0,.slice none 0 0,.slice none 0 0,.int .u32 0,.string ⟨#[]⟩] #[.slice none 0 0,.int .u64 0,.int .u64 0,.int .u64 0,.bool false,.int .u64 0,.bool false,.int .u64 0,.bool false,.int .u64 0,.int .i32 0,.int .u64 0,.bool false,.int .i32 0,.slice none 0 0,.string ⟨#[]⟩,.bool false,.int .i32 0,.slice none 0 0,.string ⟨#[]⟩,.slice none 0 0,.int .u32 0,.int .u64 0,.string ⟨#[]⟩] #[.slice none 0 0,.int .u64 0,.int .u64 0,.int .u64 0,.bool false,.int .u64 0,.bool false,.int .u64 0,.bool false,.int .u64 0,.slice none 0 0,.slice none 0 0,.slice none 0 0,.int .u32 0,.string ⟨#[]⟩] 32 36 32
    obtain ⟨A,hA⟩:∃ A,((D.alloc (.cells #[.slice none 0 0,.int .u64 0,.int .u64 0,.int .u64 0,.bool false,.int .u64 0,.bool false,.int .u64 0,.bool false,.int .u64 0,.slice none 0 0,.slice none 0 0,.slice none 0 0,.int .u32 0,.string ⟨#[]⟩] 32)).alloc (.cells #[.slice none 0 0,.int .u64 0,.int .u64 0,.int .u64 0,.bool false,.int .u64 0,.bool false,.int .u64 0,.bool false,.int .u64 0,.int .i32 0,.int .u64 0,.bool false,.int .i32 0,.slice none 0 0,.string ⟨#[]⟩,.bool false,.int .i32 0,.slice none 0 0,.string ⟨#[]⟩,.slice none 0 0,.int .u32 0,.int .u64 0,.string ⟨#[]⟩] 36)).alloc (.cells #[.slice none 0 0,.int .u64 0,.int .u64 0,.int .u64 0,.bool false,.int .u64 0,.bool false,.int .u64 0,.bool false,.int .u64 0,.slice none 0 0,.slice none 0 0,.slice none 0 0,.int .u32 0,.string ⟨#[]⟩] 32)=A:=⟨_,rfl⟩
    rw[hA] at q0 q1 q2 q3 ⊢
    clear hA
    have hA3:Below W.heap.size W A:=HVD.out.trans (q3.mono hDs)
    obtain ⟨ff0,ff1,ff2,ff3⟩:=fill3 (n0:=#[.slice lo2 l2.length lc2,.int .u64 (a2:Int),.int .u64 (t2:Int),.int .u64 (k2:Int),.bool ph2,.int .u64 (pn2:Int),.bool mh2,.int .u64 (mn2:Int),.bool gh2,.int .u64 (gn2:Int),.slice nco2 nc2.length ncc2,.slice nbo2 nb2.length nbc2,.slice eo2 es2.length ec2,.int .u32 (f2:Int),.string XU2]) (n1:=#[.slice lo2 l2.length lc2,.int .u64 (a2:Int),.int .u64 (t2:Int),.int .u64 (k2:Int),.bool ph2,.int .u64 (pn2:Int),.bool mh2,.int .u64 (mn2:Int),.bool gh2,.int .u64 (gn2:Int),.slice nco2 nc2.length ncc2,.slice nbo2 nb2.length nbc2,.slice eo2 es2.length ec2,.int .u32 (f2:Int),.string XU2]) (n2:=#[.slice lo3 l3.length lc3,.int .u64 (a3:Int),.int .u64 (t3:Int),.int .u64 (k3:Int),.bool bp3,.int .u64 (vp3:Int),.bool bm3,.int .u64 (vm3:Int),.bool bg3,.int .u64 (vg3:Int),.int .i32 sc3,.int .u64 (zc3:Int),.bool gp3,.int .i32 pb3.off,.slice po3 pb3.cs.length pc3,.string Xpu3,.bool gn3,.int .i32 nb3.off,.slice no3 nb3.cs.length nc3,.string Xnu3,.slice eo3 es3.length ec3,.int .u32 (f3:Int),.int .u64 (th3:Int),.string Xu3]) hA3 (x:=D.heap.size) (y:=D.heap.size+2) (z:=D.heap.size+1) (by omega) (by omega) (by omega) (by omega) (by omega) (by omega) q0 q2 q1
    have g4:(A.setRow (D.heap.size) #[.slice lo2 l2.length lc2,.int .u64 (a2:Int),.int .u64 (t2:Int),.int .u64 (k2:Int),.bool ph2,.int .u64 (pn2:Int),.bool mh2,.int .u64 (mn2:Int),.bool gh2,.int .u64 (gn2:Int),.slice nco2 nc2.length ncc2,.slice nbo2 nb2.length nbc2,.slice eo2 es2.length ec2,.int .u32 (f2:Int),.string XU2]).heap[D.heap.size+2]? = some (.cells #[.slice none 0 0,.int .u64 0,.int .u64 0,.int .u64 0,.bool false,.int .u64 0,.bool false,.int .u64 0,.bool false,.int .u64 0,.slice none 0 0,.slice none 0 0,.slice none 0 0,.int .u32 0,.string ⟨#[]⟩] 32 (0,0)):=((upd_setRow3 A (D.heap.size) #[.slice lo2 l2.length lc2,.int .u64 (a2:Int),.int .u64 (t2:Int),.int .u64 (k2:Int),.bool ph2,.int .u64 (pn2:Int),.bool mh2,.int .u64 (mn2:Int),.bool gh2,.int .u64 (gn2:Int),.slice nco2 nc2.length ncc2,.slice nbo2 nb2.length nbc2,.slice eo2 es2.length ec2,.int .u32 (f2:Int),.string XU2]).block _ (row_lt q2) (fun e=>by have e:D.heap.size+2=D.heap.size:=e;omega)).trans q2
    have g5:((A.setRow (D.heap.size) #[.slice lo2 l2.length lc2,.int .u64 (a2:Int),.int .u64 (t2:Int),.int .u64 (k2:Int),.bool ph2,.int .u64 (pn2:Int),.bool mh2,.int .u64 (mn2:Int),.bool gh2,.int .u64 (gn2:Int),.slice nco2 nc2.length ncc2,.slice nbo2 nb2.length nbc2,.slice eo2 es2.length ec2,.int .u32 (f2:Int),.string XU2]).setRow (D.heap.size+2) #[.slice lo2 l2.length lc2,.int .u64 (a2:Int),.int .u64 (t2:Int),.int .u64 (k2:Int),.bool ph2,.int .u64 (pn2:Int),.bool mh2,.int .u64 (mn2:Int),.bool gh2,.int .u64 (gn2:Int),.slice nco2 nc2.length ncc2,.slice nbo2 nb2.length nbc2,.slice eo2 es2.length ec2,.int .u32 (f2:Int),.string XU2]).heap[D.heap.size+1]? = some (.cells #[.slice none 0 0,.int .u64 0,.int .u64 0,.int .u64 0,.bool false,.int .u64 0,.bool false,.int .u64 0,.bool false,.int .u64 0,.int .i32 0,.int .u64 0,.bool false,.int .i32 0,.slice none 0 0,.string ⟨#[]⟩,.bool false,.int .i32 0,.slice none 0 0,.string ⟨#[]⟩,.slice none 0 0,.int .u32 0,.int .u64 0,.string ⟨#[]⟩] 36 (0,0)):=((upd_setRow3 (A.setRow (D.heap.size) #[.slice lo2 l2.length lc2,.int .u64 (a2:Int),.int .u64 (t2:Int),.int .u64 (k2:Int),.bool ph2,.int .u64 (pn2:Int),.bool mh2,.int .u64 (mn2:Int),.bool gh2,.int .u64 (gn2:Int),.slice nco2 nc2.length ncc2,.slice nbo2 nb2.length nbc2,.slice eo2 es2.length ec2,.int .u32 (f2:Int),.string XU2]) (D.heap.size+2) #[.slice lo2 l2.length lc2,.int .u64 (a2:Int),.int .u64 (t2:Int),.int .u64 (k2:Int),.bool ph2,.int .u64 (pn2:Int),.bool mh2,.int .u64 (mn2:Int),.bool gh2,.int .u64 (gn2:Int),.slice nco2 nc2.length ncc2,.slice nbo2 nb2.length nbc2,.slice eo2 es2.length ec2,.int .u32 (f2:Int),.string XU2]).block _ (row_lt (((upd_setRow3 A (D.heap.size) #[.slice lo2 l2.length lc2,.int .u64 (a2:Int),.int .u64 (t2:Int),.int .u64 (k2:Int),.bool ph2,.int .u64 (pn2:Int),.bool mh2,.int .u64 (mn2:Int),.bool gh2,.int .u64 (gn2:Int),.slice nco2 nc2.length ncc2,.slice nbo2 nb2.length nbc2,.slice eo2 es2.length ec2,.int .u32 (f2:Int),.string XU2]).block _ (row_lt q1) (fun e=>by have e:D.heap.size+1=D.heap.size:=e;omega)).trans q1)) (fun e=>by have e:D.heap.size+1=D.heap.size+2:=e;omega)).trans (((upd_setRow3 A (D.heap.size) #[.slice lo2 l2.length lc2,.int .u64 (a2:Int),.int .u64 (t2:Int),.int .u64 (k2:Int),.bool ph2,.int .u64 (pn2:Int),.bool mh2,.int .u64 (mn2:Int),.bool gh2,.int .u64 (gn2:Int),.slice nco2 nc2.length ncc2,.slice nbo2 nb2.length nbc2,.slice eo2 es2.length ec2,.int .u32 (f2:Int),.string XU2]).block _ (row_lt q1) (fun e=>by have e:D.heap.size+1=D.heap.size:=e;omega)).trans q1)
    refine seq3_wp _ rfl rfl (fun KC hK=>?_)
    refine wp_store_row 32 _ _ rfl (D.heap.size) #[.slice lo2 l2.length lc2,.int .u64 (a2:Int),.int .u64 (t2:Int),.int .u64 (k2:Int),.bool ph2,.int .u64 (pn2:Int),.bool mh2,.int .u64 (mn2:Int),.bool gh2,.int .u64 (gn2:Int),.slice nco2 nc2.length ncc2,.slice nbo2 nb2.length nbc2,.slice eo2 es2.length ec2,.int .u32 (f2:Int),.string XU2] (by go_simp) (by go_simp) 32 _ q0 (by kernel_rfl) rfl (by simp[Value.oneCell']) ?_
    refine hK.out _ _ (below_setRow hA3 (by omega) _) ?_;clear hK KC
    refine seq3_wp _ rfl rfl (fun KC hK=>?_)
    refine wp_store_row 32 _ _ rfl (D.heap.size+2) #[.slice lo2 l2.length lc2,.int .u64 (a2:Int),.int .u64 (t2:Int),.int .u64 (k2:Int),.bool ph2,.int .u64 (pn2:Int),.bool mh2,.int .u64 (mn2:Int),.bool gh2,.int .u64 (gn2:Int),.slice nco2 nc2.length ncc2,.slice nbo2 nb2.length nbc2,.slice eo2 es2.length ec2,.int .u32 (f2:Int),.string XU2] (by go_simp) (by go_simp) 32 _ g4 (by kernel_rfl) rfl (by simp[Value.oneCell']) ?_
    refine hK.out _ _ (below_setRow (below_setRow hA3 (by omega) _) (by omega) _) ?_;clear hK KC
    refine seq3_wp _ rfl rfl (fun KC hK=>?_)
    refine wp_store_row 36 _ _ rfl (D.heap.size+1) #[.slice lo3 l3.length lc3,.int .u64 (a3:Int),.int .u64 (t3:Int),.int .u64 (k3:Int),.bool bp3,.int .u64 (vp3:Int),.bool bm3,.int .u64 (vm3:Int),.bool bg3,.int .u64 (vg3:Int),.int .i32 sc3,.int .u64 (zc3:Int),.bool gp3,.int .i32 pb3.off,.slice po3 pb3.cs.length pc3,.string Xpu3,.bool gn3,.int .i32 nb3.off,.slice no3 nb3.cs.length nc3,.string Xnu3,.slice eo3 es3.length ec3,.int .u32 (f3:Int),.int .u64 (th3:Int),.string Xu3] (by go_simp) (by go_simp) 36 _ g5 (by kernel_rfl) rfl (by simp[Value.oneCell']) ?_
    refine hK.out _ _ (ff0) ?_;clear hK KC
    refine seq3_done ?_
    exact ⟨rfl,D.heap.size,D.heap.size+2,D.heap.size+1,⟨ff0,by omega,by omega,by omega,by omega,by omega,by omega,ff1,ff2,ff3⟩,by first|rfl|simp[Act.put]⟩
  ·refine seq3_come _ rfl (fun KC hK=>?_);go_simp
   refine hK.out _ _ (below_step HVD.out (below_new _ _)) ?_;clear hK KC
   refine seq3_two ?_ ?_
   ·refine seq3_come _ rfl (fun KC hK=>?_);go_simp
    refine hK.out _ _ (below_step (below_step HVD.out (below_new _ _)) (below_new _ _)) ?_;clear hK KC
    refine seq3_come _ rfl (fun KC hK=>?_);go_simp
    refine hK.out _ _ (below_step (below_step (below_step HVD.out (below_new _ _)) (below_new _ _)) (below_new _ _)) ?_;clear hK KC
    obtain ⟨q0,q1,q2,q3⟩:=alloc3 D #[.slice none 0 0,.int .u64 0,.int .u64 0,.int .u64 0,.bool false,.int .u64 0,.bool false,.int .u64 0,.bool false,.int .u64 0,.slice none 0 0,.slice none 0 0,.slice none 0 0,.int .u32 0,.string ⟨#[]⟩] #[.slice none 0 0,.int .u64 0,.int .u64 0,.int .u64 0,.bool false,.int .u64 0,.bool false,.int .u64 0,.bool false,.int .u64 0,.slice none 0 0,.slice none 0 0,.slice none 0 0,.int .u32 0,.string ⟨#[]⟩] #[.slice none 0 0,.int .u64 0,.int .u64 0,.int .u64 0,.bool false,.int .u64 0,.bool false,.int .u64 0,.bool false,.int .u64 0,.int .i32 0,.int .u64 0,.bool false,.int .i32 0,.slice none 0 0,.string ⟨#[]⟩,.bool false,.int .i32 0,.slice none 0 0,.string ⟨#[]⟩,.slice none 0 0,.int .u32 0,.int .u64 0,.string ⟨#[]⟩] 32 32 36
    obtain ⟨A,hA⟩:∃ A,((D.alloc (.cells #[.slice none 0 0,.int .u64 0,.int .u64 0,.int .u64 0,.bool false,.int .u64 0,.bool false,.int .u64 0,.bool false,.int .u64 0,.slice none 0 0,.slice none 0 0,.slice none 0 0,.int .u32 0,.string ⟨#[]⟩] 32)).alloc (.cells #[.slice none 0 0,.int .u64 0,.int .u64 0,.int .u64 0,.bool false,.int .u64 0,.bool false,.int .u64 0,.bool false,.int .u64 0,.slice none 0 0,.slice none 0 0,.slice none 0 0,.int .u32 0,.string ⟨#[]⟩] 32)).alloc (.cells #[.slice none 0 0,.int .u64 0,.int .u64 0,.int .u64 0,.bool false,.int .u64 0,.bool false,.int .u64 0,.bool false,.int .u64 0,.int .i32 0,.int .u64 0,.bool false,.int .i32 0,.slice none 0 0,.string ⟨#[]⟩,.bool false,.int .i32 0,.slice none 0 0,.string ⟨#[]⟩,.slice none 0 0,.int .u32 0,.int .u64 0,.string ⟨#[]⟩] 36)=A:=⟨_,rfl⟩
    rw[hA] at q0 q1 q2 q3 ⊢
    clear hA
    have hA3:Below W.heap.size W A:=HVD.out.trans (q3.mono hDs)
    obtain ⟨ff0,ff1,ff2,ff3⟩:=fill3 (n0:=#[.slice lo2 l2.length lc2,.int .u64 (a2:Int),.int .u64 (t2:Int),.int .u64 (k2:Int),.bool ph2,.int .u64 (pn2:Int),.bool mh2,.int .u64 (mn2:Int),.bool gh2,.int .u64 (gn2:Int),.slice nco2 nc2.length ncc2,.slice nbo2 nb2.length nbc2,.slice eo2 es2.length ec2,.int .u32 (f2:Int),.string XU2]) (n1:=#[.slice lo2 l2.length lc2,.int .u64 (a2:Int),.int .u64 (t2:Int),.int .u64 (k2:Int),.bool ph2,.int .u64 (pn2:Int),.bool mh2,.int .u64 (mn2:Int),.bool gh2,.int .u64 (gn2:Int),.slice nco2 nc2.length ncc2,.slice nbo2 nb2.length nbc2,.slice eo2 es2.length ec2,.int .u32 (f2:Int),.string XU2]) (n2:=#[.slice lo3 l3.length lc3,.int .u64 (a3:Int),.int .u64 (t3:Int),.int .u64 (k3:Int),.bool bp3,.int .u64 (vp3:Int),.bool bm3,.int .u64 (vm3:Int),.bool bg3,.int .u64 (vg3:Int),.int .i32 sc3,.int .u64 (zc3:Int),.bool gp3,.int .i32 pb3.off,.slice po3 pb3.cs.length pc3,.string Xpu3,.bool gn3,.int .i32 nb3.off,.slice no3 nb3.cs.length nc3,.string Xnu3,.slice eo3 es3.length ec3,.int .u32 (f3:Int),.int .u64 (th3:Int),.string Xu3]) hA3 (x:=D.heap.size+1) (y:=D.heap.size) (z:=D.heap.size+2) (by omega) (by omega) (by omega) (by omega) (by omega) (by omega) q1 q0 q2
    have g4:(A.setRow (D.heap.size+1) #[.slice lo2 l2.length lc2,.int .u64 (a2:Int),.int .u64 (t2:Int),.int .u64 (k2:Int),.bool ph2,.int .u64 (pn2:Int),.bool mh2,.int .u64 (mn2:Int),.bool gh2,.int .u64 (gn2:Int),.slice nco2 nc2.length ncc2,.slice nbo2 nb2.length nbc2,.slice eo2 es2.length ec2,.int .u32 (f2:Int),.string XU2]).heap[D.heap.size]? = some (.cells #[.slice none 0 0,.int .u64 0,.int .u64 0,.int .u64 0,.bool false,.int .u64 0,.bool false,.int .u64 0,.bool false,.int .u64 0,.slice none 0 0,.slice none 0 0,.slice none 0 0,.int .u32 0,.string ⟨#[]⟩] 32 (0,0)):=((upd_setRow3 A (D.heap.size+1) #[.slice lo2 l2.length lc2,.int .u64 (a2:Int),.int .u64 (t2:Int),.int .u64 (k2:Int),.bool ph2,.int .u64 (pn2:Int),.bool mh2,.int .u64 (mn2:Int),.bool gh2,.int .u64 (gn2:Int),.slice nco2 nc2.length ncc2,.slice nbo2 nb2.length nbc2,.slice eo2 es2.length ec2,.int .u32 (f2:Int),.string XU2]).block _ (row_lt q0) (fun e=>by have e:D.heap.size=D.heap.size+1:=e;omega)).trans q0
    have g5:((A.setRow (D.heap.size+1) #[.slice lo2 l2.length lc2,.int .u64 (a2:Int),.int .u64 (t2:Int),.int .u64 (k2:Int),.bool ph2,.int .u64 (pn2:Int),.bool mh2,.int .u64 (mn2:Int),.bool gh2,.int .u64 (gn2:Int),.slice nco2 nc2.length ncc2,.slice nbo2 nb2.length nbc2,.slice eo2 es2.length ec2,.int .u32 (f2:Int),.string XU2]).setRow (D.heap.size) #[.slice lo2 l2.length lc2,.int .u64 (a2:Int),.int .u64 (t2:Int),.int .u64 (k2:Int),.bool ph2,.int .u64 (pn2:Int),.bool mh2,.int .u64 (mn2:Int),.bool gh2,.int .u64 (gn2:Int),.slice nco2 nc2.length ncc2,.slice nbo2 nb2.length nbc2,.slice eo2 es2.length ec2,.int .u32 (f2:Int),.string XU2]).heap[D.heap.size+2]? = some (.cells #[.slice none 0 0,.int .u64 0,.int .u64 0,.int .u64 0,.bool false,.int .u64 0,.bool false,.int .u64 0,.bool false,.int .u64 0,.int .i32 0,.int .u64 0,.bool false,.int .i32 0,.slice none 0 0,.string ⟨#[]⟩,.bool false,.int .i32 0,.slice none 0 0,.string ⟨#[]⟩,.slice none 0 0,.int .u32 0,.int .u64 0,.string ⟨#[]⟩] 36 (0,0)):=((upd_setRow3 (A.setRow (D.heap.size+1) #[.slice lo2 l2.length lc2,.int .u64 (a2:Int),.int .u64 (t2:Int),.int .u64 (k2:Int),.bool ph2,.int .u64 (pn2:Int),.bool mh2,.int .u64 (mn2:Int),.bool gh2,.int .u64 (gn2:Int),.slice nco2 nc2.length ncc2,.slice nbo2 nb2.length nbc2,.slice eo2 es2.length ec2,.int .u32 (f2:Int),.string XU2]) (D.heap.size) #[.slice lo2 l2.length lc2,.int .u64 (a2:Int),.int .u64 (t2:Int),.int .u64 (k2:Int),.bool ph2,.int .u64 (pn2:Int),.bool mh2,.int .u64 (mn2:Int),.bool gh2,.int .u64 (gn2:Int),.slice nco2 nc2.length ncc2,.slice nbo2 nb2.length nbc2,.slice eo2 es2.length ec2,.int .u32 (f2:Int),.string XU2]).block _ (row_lt (((upd_setRow3 A (D.heap.size+1) #[.slice lo2 l2.length lc2,.int .u64 (a2:Int),.int .u64 (t2:Int),.int .u64 (k2:Int),.bool ph2,.int .u64 (pn2:Int),.bool mh2,.int .u64 (mn2:Int),.bool gh2,.int .u64 (gn2:Int),.slice nco2 nc2.length ncc2,.slice nbo2 nb2.length nbc2,.slice eo2 es2.length ec2,.int .u32 (f2:Int),.string XU2]).block _ (row_lt q2) (fun e=>by have e:D.heap.size+2=D.heap.size+1:=e;omega)).trans q2)) (fun e=>by have e:D.heap.size+2=D.heap.size:=e;omega)).trans (((upd_setRow3 A (D.heap.size+1) #[.slice lo2 l2.length lc2,.int .u64 (a2:Int),.int .u64 (t2:Int),.int .u64 (k2:Int),.bool ph2,.int .u64 (pn2:Int),.bool mh2,.int .u64 (mn2:Int),.bool gh2,.int .u64 (gn2:Int),.slice nco2 nc2.length ncc2,.slice nbo2 nb2.length nbc2,.slice eo2 es2.length ec2,.int .u32 (f2:Int),.string XU2]).block _ (row_lt q2) (fun e=>by have e:D.heap.size+2=D.heap.size+1:=e;omega)).trans q2)
    refine seq3_wp _ rfl rfl (fun KC hK=>?_)
    refine wp_store_row 32 _ _ rfl (D.heap.size+1) #[.slice lo2 l2.length lc2,.int .u64 (a2:Int),.int .u64 (t2:Int),.int .u64 (k2:Int),.bool ph2,.int .u64 (pn2:Int),.bool mh2,.int .u64 (mn2:Int),.bool gh2,.int .u64 (gn2:Int),.slice nco2 nc2.length ncc2,.slice nbo2 nb2.length nbc2,.slice eo2 es2.length ec2,.int .u32 (f2:Int),.string XU2] (by go_simp) (by go_simp) 32 _ q1 (by kernel_rfl) rfl (by simp[Value.oneCell']) ?_
    refine hK.out _ _ (below_setRow hA3 (by omega) _) ?_;clear hK KC
    refine seq3_wp _ rfl rfl (fun KC hK=>?_)
    refine wp_store_row 32 _ _ rfl (D.heap.size) #[.slice lo2 l2.length lc2,.int .u64 (a2:Int),.int .u64 (t2:Int),.int .u64 (k2:Int),.bool ph2,.int .u64 (pn2:Int),.bool mh2,.int .u64 (mn2:Int),.bool gh2,.int .u64 (gn2:Int),.slice nco2 nc2.length ncc2,.slice nbo2 nb2.length nbc2,.slice eo2 es2.length ec2,.int .u32 (f2:Int),.string XU2] (by go_simp) (by go_simp) 32 _ g4 (by kernel_rfl) rfl (by simp[Value.oneCell']) ?_
    refine hK.out _ _ (below_setRow (below_setRow hA3 (by omega) _) (by omega) _) ?_;clear hK KC
    refine seq3_wp _ rfl rfl (fun KC hK=>?_)
    refine wp_store_row 36 _ _ rfl (D.heap.size+2) #[.slice lo3 l3.length lc3,.int .u64 (a3:Int),.int .u64 (t3:Int),.int .u64 (k3:Int),.bool bp3,.int .u64 (vp3:Int),.bool bm3,.int .u64 (vm3:Int),.bool bg3,.int .u64 (vg3:Int),.int .i32 sc3,.int .u64 (zc3:Int),.bool gp3,.int .i32 pb3.off,.slice po3 pb3.cs.length pc3,.string Xpu3,.bool gn3,.int .i32 nb3.off,.slice no3 nb3.cs.length nc3,.string Xnu3,.slice eo3 es3.length ec3,.int .u32 (f3:Int),.int .u64 (th3:Int),.string Xu3] (by go_simp) (by go_simp) 36 _ g5 (by kernel_rfl) rfl (by simp[Value.oneCell']) ?_
    refine hK.out _ _ (ff0) ?_;clear hK KC
    refine seq3_done ?_
    exact ⟨rfl,D.heap.size+1,D.heap.size,D.heap.size+2,⟨ff0,by omega,by omega,by omega,by omega,by omega,by omega,ff1,ff2,ff3⟩,by first|rfl|simp[Act.put]⟩
   ·refine seq3_come _ rfl (fun KC hK=>?_);go_simp
    refine hK.out _ _ (below_step (below_step HVD.out (below_new _ _)) (below_new _ _)) ?_;clear hK KC
    refine seq3_come _ rfl (fun KC hK=>?_);go_simp
    refine hK.out _ _ (below_step (below_step (below_step HVD.out (below_new _ _)) (below_new _ _)) (below_new _ _)) ?_;clear hK KC
    obtain ⟨q0,q1,q2,q3⟩:=alloc3 D #[.slice none 0 0,.int .u64 0,.int .u64 0,.int .u64 0,.bool false,.int .u64 0,.bool false,.int .u64 0,.bool false,.int .u64 0,.slice none 0 0,.slice none 0 0,.slice none 0 0,.int .u32 0,.string ⟨#[]⟩] #[.slice none 0 0,.int .u64 0,.int .u64 0,.int .u64 0,.bool false,.int .u64 0,.bool false,.int .u64 0,.bool false,.int .u64 0,.int .i32 0,.int .u64 0,.bool false,.int .i32 0,.slice none 0 0,.string ⟨#[]⟩,.bool false,.int .i32 0,.slice none 0 0,.string ⟨#[]⟩,.slice none 0 0,.int .u32 0,.int .u64 0,.string ⟨#[]⟩] #[.slice none 0 0,.int .u64 0,.int .u64 0,.int .u64 0,.bool false,.int .u64 0,.bool false,.int .u64 0,.bool false,.int .u64 0,.slice none 0 0,.slice none 0 0,.slice none 0 0,.int .u32 0,.string ⟨#[]⟩] 32 36 32
    obtain ⟨A,hA⟩:∃ A,((D.alloc (.cells #[.slice none 0 0,.int .u64 0,.int .u64 0,.int .u64 0,.bool false,.int .u64 0,.bool false,.int .u64 0,.bool false,.int .u64 0,.slice none 0 0,.slice none 0 0,.slice none 0 0,.int .u32 0,.string ⟨#[]⟩] 32)).alloc (.cells #[.slice none 0 0,.int .u64 0,.int .u64 0,.int .u64 0,.bool false,.int .u64 0,.bool false,.int .u64 0,.bool false,.int .u64 0,.int .i32 0,.int .u64 0,.bool false,.int .i32 0,.slice none 0 0,.string ⟨#[]⟩,.bool false,.int .i32 0,.slice none 0 0,.string ⟨#[]⟩,.slice none 0 0,.int .u32 0,.int .u64 0,.string ⟨#[]⟩] 36)).alloc (.cells #[.slice none 0 0,.int .u64 0,.int .u64 0,.int .u64 0,.bool false,.int .u64 0,.bool false,.int .u64 0,.bool false,.int .u64 0,.slice none 0 0,.slice none 0 0,.slice none 0 0,.int .u32 0,.string ⟨#[]⟩] 32)=A:=⟨_,rfl⟩
    rw[hA] at q0 q1 q2 q3 ⊢
    clear hA
    have hA3:Below W.heap.size W A:=HVD.out.trans (q3.mono hDs)
    obtain ⟨ff0,ff1,ff2,ff3⟩:=fill3 (n0:=#[.slice lo2 l2.length lc2,.int .u64 (a2:Int),.int .u64 (t2:Int),.int .u64 (k2:Int),.bool ph2,.int .u64 (pn2:Int),.bool mh2,.int .u64 (mn2:Int),.bool gh2,.int .u64 (gn2:Int),.slice nco2 nc2.length ncc2,.slice nbo2 nb2.length nbc2,.slice eo2 es2.length ec2,.int .u32 (f2:Int),.string XU2]) (n1:=#[.slice lo2 l2.length lc2,.int .u64 (a2:Int),.int .u64 (t2:Int),.int .u64 (k2:Int),.bool ph2,.int .u64 (pn2:Int),.bool mh2,.int .u64 (mn2:Int),.bool gh2,.int .u64 (gn2:Int),.slice nco2 nc2.length ncc2,.slice nbo2 nb2.length nbc2,.slice eo2 es2.length ec2,.int .u32 (f2:Int),.string XU2]) (n2:=#[.slice lo3 l3.length lc3,.int .u64 (a3:Int),.int .u64 (t3:Int),.int .u64 (k3:Int),.bool bp3,.int .u64 (vp3:Int),.bool bm3,.int .u64 (vm3:Int),.bool bg3,.int .u64 (vg3:Int),.int .i32 sc3,.int .u64 (zc3:Int),.bool gp3,.int .i32 pb3.off,.slice po3 pb3.cs.length pc3,.string Xpu3,.bool gn3,.int .i32 nb3.off,.slice no3 nb3.cs.length nc3,.string Xnu3,.slice eo3 es3.length ec3,.int .u32 (f3:Int),.int .u64 (th3:Int),.string Xu3]) hA3 (x:=D.heap.size+2) (y:=D.heap.size) (z:=D.heap.size+1) (by omega) (by omega) (by omega) (by omega) (by omega) (by omega) q2 q0 q1
    have g4:(A.setRow (D.heap.size+2) #[.slice lo2 l2.length lc2,.int .u64 (a2:Int),.int .u64 (t2:Int),.int .u64 (k2:Int),.bool ph2,.int .u64 (pn2:Int),.bool mh2,.int .u64 (mn2:Int),.bool gh2,.int .u64 (gn2:Int),.slice nco2 nc2.length ncc2,.slice nbo2 nb2.length nbc2,.slice eo2 es2.length ec2,.int .u32 (f2:Int),.string XU2]).heap[D.heap.size]? = some (.cells #[.slice none 0 0,.int .u64 0,.int .u64 0,.int .u64 0,.bool false,.int .u64 0,.bool false,.int .u64 0,.bool false,.int .u64 0,.slice none 0 0,.slice none 0 0,.slice none 0 0,.int .u32 0,.string ⟨#[]⟩] 32 (0,0)):=((upd_setRow3 A (D.heap.size+2) #[.slice lo2 l2.length lc2,.int .u64 (a2:Int),.int .u64 (t2:Int),.int .u64 (k2:Int),.bool ph2,.int .u64 (pn2:Int),.bool mh2,.int .u64 (mn2:Int),.bool gh2,.int .u64 (gn2:Int),.slice nco2 nc2.length ncc2,.slice nbo2 nb2.length nbc2,.slice eo2 es2.length ec2,.int .u32 (f2:Int),.string XU2]).block _ (row_lt q0) (fun e=>by have e:D.heap.size=D.heap.size+2:=e;omega)).trans q0
    have g5:((A.setRow (D.heap.size+2) #[.slice lo2 l2.length lc2,.int .u64 (a2:Int),.int .u64 (t2:Int),.int .u64 (k2:Int),.bool ph2,.int .u64 (pn2:Int),.bool mh2,.int .u64 (mn2:Int),.bool gh2,.int .u64 (gn2:Int),.slice nco2 nc2.length ncc2,.slice nbo2 nb2.length nbc2,.slice eo2 es2.length ec2,.int .u32 (f2:Int),.string XU2]).setRow (D.heap.size) #[.slice lo2 l2.length lc2,.int .u64 (a2:Int),.int .u64 (t2:Int),.int .u64 (k2:Int),.bool ph2,.int .u64 (pn2:Int),.bool mh2,.int .u64 (mn2:Int),.bool gh2,.int .u64 (gn2:Int),.slice nco2 nc2.length ncc2,.slice nbo2 nb2.length nbc2,.slice eo2 es2.length ec2,.int .u32 (f2:Int),.string XU2]).heap[D.heap.size+1]? = some (.cells #[.slice none 0 0,.int .u64 0,.int .u64 0,.int .u64 0,.bool false,.int .u64 0,.bool false,.int .u64 0,.bool false,.int .u64 0,.int .i32 0,.int .u64 0,.bool false,.int .i32 0,.slice none 0 0,.string ⟨#[]⟩,.bool false,.int .i32 0,.slice none 0 0,.string ⟨#[]⟩,.slice none 0 0,.int .u32 0,.int .u64 0,.string ⟨#[]⟩] 36 (0,0)):=((upd_setRow3 (A.setRow (D.heap.size+2) #[.slice lo2 l2.length lc2,.int .u64 (a2:Int),.int .u64 (t2:Int),.int .u64 (k2:Int),.bool ph2,.int .u64 (pn2:Int),.bool mh2,.int .u64 (mn2:Int),.bool gh2,.int .u64 (gn2:Int),.slice nco2 nc2.length ncc2,.slice nbo2 nb2.length nbc2,.slice eo2 es2.length ec2,.int .u32 (f2:Int),.string XU2]) (D.heap.size) #[.slice lo2 l2.length lc2,.int .u64 (a2:Int),.int .u64 (t2:Int),.int .u64 (k2:Int),.bool ph2,.int .u64 (pn2:Int),.bool mh2,.int .u64 (mn2:Int),.bool gh2,.int .u64 (gn2:Int),.slice nco2 nc2.length ncc2,.slice nbo2 nb2.length nbc2,.slice eo2 es2.length ec2,.int .u32 (f2:Int),.string XU2]).block _ (row_lt (((upd_setRow3 A (D.heap.size+2) #[.slice lo2 l2.length lc2,.int .u64 (a2:Int),.int .u64 (t2:Int),.int .u64 (k2:Int),.bool ph2,.int .u64 (pn2:Int),.bool mh2,.int .u64 (mn2:Int),.bool gh2,.int .u64 (gn2:Int),.slice nco2 nc2.length ncc2,.slice nbo2 nb2.length nbc2,.slice eo2 es2.length ec2,.int .u32 (f2:Int),.string XU2]).block _ (row_lt q1) (fun e=>by have e:D.heap.size+1=D.heap.size+2:=e;omega)).trans q1)) (fun e=>by have e:D.heap.size+1=D.heap.size:=e;omega)).trans (((upd_setRow3 A (D.heap.size+2) #[.slice lo2 l2.length lc2,.int .u64 (a2:Int),.int .u64 (t2:Int),.int .u64 (k2:Int),.bool ph2,.int .u64 (pn2:Int),.bool mh2,.int .u64 (mn2:Int),.bool gh2,.int .u64 (gn2:Int),.slice nco2 nc2.length ncc2,.slice nbo2 nb2.length nbc2,.slice eo2 es2.length ec2,.int .u32 (f2:Int),.string XU2]).block _ (row_lt q1) (fun e=>by have e:D.heap.size+1=D.heap.size+2:=e;omega)).trans q1)
    refine seq3_wp _ rfl rfl (fun KC hK=>?_)
    refine wp_store_row 32 _ _ rfl (D.heap.size+2) #[.slice lo2 l2.length lc2,.int .u64 (a2:Int),.int .u64 (t2:Int),.int .u64 (k2:Int),.bool ph2,.int .u64 (pn2:Int),.bool mh2,.int .u64 (mn2:Int),.bool gh2,.int .u64 (gn2:Int),.slice nco2 nc2.length ncc2,.slice nbo2 nb2.length nbc2,.slice eo2 es2.length ec2,.int .u32 (f2:Int),.string XU2] (by go_simp) (by go_simp) 32 _ q2 (by kernel_rfl) rfl (by simp[Value.oneCell']) ?_
    refine hK.out _ _ (below_setRow hA3 (by omega) _) ?_;clear hK KC
    refine seq3_wp _ rfl rfl (fun KC hK=>?_)
    refine wp_store_row 32 _ _ rfl (D.heap.size) #[.slice lo2 l2.length lc2,.int .u64 (a2:Int),.int .u64 (t2:Int),.int .u64 (k2:Int),.bool ph2,.int .u64 (pn2:Int),.bool mh2,.int .u64 (mn2:Int),.bool gh2,.int .u64 (gn2:Int),.slice nco2 nc2.length ncc2,.slice nbo2 nb2.length nbc2,.slice eo2 es2.length ec2,.int .u32 (f2:Int),.string XU2] (by go_simp) (by go_simp) 32 _ g4 (by kernel_rfl) rfl (by simp[Value.oneCell']) ?_
    refine hK.out _ _ (below_setRow (below_setRow hA3 (by omega) _) (by omega) _) ?_;clear hK KC
    refine seq3_wp _ rfl rfl (fun KC hK=>?_)
    refine wp_store_row 36 _ _ rfl (D.heap.size+1) #[.slice lo3 l3.length lc3,.int .u64 (a3:Int),.int .u64 (t3:Int),.int .u64 (k3:Int),.bool bp3,.int .u64 (vp3:Int),.bool bm3,.int .u64 (vm3:Int),.bool bg3,.int .u64 (vg3:Int),.int .i32 sc3,.int .u64 (zc3:Int),.bool gp3,.int .i32 pb3.off,.slice po3 pb3.cs.length pc3,.string Xpu3,.bool gn3,.int .i32 nb3.off,.slice no3 nb3.cs.length nc3,.string Xnu3,.slice eo3 es3.length ec3,.int .u32 (f3:Int),.int .u64 (th3:Int),.string Xu3] (by go_simp) (by go_simp) 36 _ g5 (by kernel_rfl) rfl (by simp[Value.oneCell']) ?_
    refine hK.out _ _ (ff0) ?_;clear hK KC
    refine seq3_done ?_
    exact ⟨rfl,D.heap.size+2,D.heap.size,D.heap.size+1,⟨ff0,by omega,by omega,by omega,by omega,by omega,by omega,ff1,ff2,ff3⟩,by first|rfl|simp[Act.put]⟩
  ·refine seq3_come _ rfl (fun KC hK=>?_);go_simp
   refine hK.out _ _ (below_step HVD.out (below_new _ _)) ?_;clear hK KC
   refine seq3_two ?_ ?_
   ·refine seq3_come _ rfl (fun KC hK=>?_);go_simp
    refine hK.out _ _ (below_step (below_step HVD.out (below_new _ _)) (below_new _ _)) ?_;clear hK KC
    refine seq3_come _ rfl (fun KC hK=>?_);go_simp
    refine hK.out _ _ (below_step (below_step (below_step HVD.out (below_new _ _)) (below_new _ _)) (below_new _ _)) ?_;clear hK KC
    obtain ⟨q0,q1,q2,q3⟩:=alloc3 D #[.slice none 0 0,.int .u64 0,.int .u64 0,.int .u64 0,.bool false,.int .u64 0,.bool false,.int .u64 0,.bool false,.int .u64 0,.int .i32 0,.int .u64 0,.bool false,.int .i32 0,.slice none 0 0,.string ⟨#[]⟩,.bool false,.int .i32 0,.slice none 0 0,.string ⟨#[]⟩,.slice none 0 0,.int .u32 0,.int .u64 0,.string ⟨#[]⟩] #[.slice none 0 0,.int .u64 0,.int .u64 0,.int .u64 0,.bool false,.int .u64 0,.bool false,.int .u64 0,.bool false,.int .u64 0,.slice none 0 0,.slice none 0 0,.slice none 0 0,.int .u32 0,.string ⟨#[]⟩] #[.slice none 0 0,.int .u64 0,.int .u64 0,.int .u64 0,.bool false,.int .u64 0,.bool false,.int .u64 0,.bool false,.int .u64 0,.slice none 0 0,.slice none 0 0,.slice none 0 0,.int .u32 0,.string ⟨#[]⟩] 36 32 32
    obtain ⟨A,hA⟩:∃ A,((D.alloc (.cells #[.slice none 0 0,.int .u64 0,.int .u64 0,.int .u64 0,.bool false,.int .u64 0,.bool false,.int .u64 0,.bool false,.int .u64 0,.int .i32 0,.int .u64 0,.bool false,.int .i32 0,.slice none 0 0,.string ⟨#[]⟩,.bool false,.int .i32 0,.slice none 0 0,.string ⟨#[]⟩,.slice none 0 0,.int .u32 0,.int .u64 0,.string ⟨#[]⟩] 36)).alloc (.cells #[.slice none 0 0,.int .u64 0,.int .u64 0,.int .u64 0,.bool false,.int .u64 0,.bool false,.int .u64 0,.bool false,.int .u64 0,.slice none 0 0,.slice none 0 0,.slice none 0 0,.int .u32 0,.string ⟨#[]⟩] 32)).alloc (.cells #[.slice none 0 0,.int .u64 0,.int .u64 0,.int .u64 0,.bool false,.int .u64 0,.bool false,.int .u64 0,.bool false,.int .u64 0,.slice none 0 0,.slice none 0 0,.slice none 0 0,.int .u32 0,.string ⟨#[]⟩] 32)=A:=⟨_,rfl⟩
    rw[hA] at q0 q1 q2 q3 ⊢
    clear hA
    have hA3:Below W.heap.size W A:=HVD.out.trans (q3.mono hDs)
    obtain ⟨ff0,ff1,ff2,ff3⟩:=fill3 (n0:=#[.slice lo2 l2.length lc2,.int .u64 (a2:Int),.int .u64 (t2:Int),.int .u64 (k2:Int),.bool ph2,.int .u64 (pn2:Int),.bool mh2,.int .u64 (mn2:Int),.bool gh2,.int .u64 (gn2:Int),.slice nco2 nc2.length ncc2,.slice nbo2 nb2.length nbc2,.slice eo2 es2.length ec2,.int .u32 (f2:Int),.string XU2]) (n1:=#[.slice lo2 l2.length lc2,.int .u64 (a2:Int),.int .u64 (t2:Int),.int .u64 (k2:Int),.bool ph2,.int .u64 (pn2:Int),.bool mh2,.int .u64 (mn2:Int),.bool gh2,.int .u64 (gn2:Int),.slice nco2 nc2.length ncc2,.slice nbo2 nb2.length nbc2,.slice eo2 es2.length ec2,.int .u32 (f2:Int),.string XU2]) (n2:=#[.slice lo3 l3.length lc3,.int .u64 (a3:Int),.int .u64 (t3:Int),.int .u64 (k3:Int),.bool bp3,.int .u64 (vp3:Int),.bool bm3,.int .u64 (vm3:Int),.bool bg3,.int .u64 (vg3:Int),.int .i32 sc3,.int .u64 (zc3:Int),.bool gp3,.int .i32 pb3.off,.slice po3 pb3.cs.length pc3,.string Xpu3,.bool gn3,.int .i32 nb3.off,.slice no3 nb3.cs.length nc3,.string Xnu3,.slice eo3 es3.length ec3,.int .u32 (f3:Int),.int .u64 (th3:Int),.string Xu3]) hA3 (x:=D.heap.size+1) (y:=D.heap.size+2) (z:=D.heap.size) (by omega) (by omega) (by omega) (by omega) (by omega) (by omega) q1 q2 q0
    have g4:(A.setRow (D.heap.size+1) #[.slice lo2 l2.length lc2,.int .u64 (a2:Int),.int .u64 (t2:Int),.int .u64 (k2:Int),.bool ph2,.int .u64 (pn2:Int),.bool mh2,.int .u64 (mn2:Int),.bool gh2,.int .u64 (gn2:Int),.slice nco2 nc2.length ncc2,.slice nbo2 nb2.length nbc2,.slice eo2 es2.length ec2,.int .u32 (f2:Int),.string XU2]).heap[D.heap.size+2]? = some (.cells #[.slice none 0 0,.int .u64 0,.int .u64 0,.int .u64 0,.bool false,.int .u64 0,.bool false,.int .u64 0,.bool false,.int .u64 0,.slice none 0 0,.slice none 0 0,.slice none 0 0,.int .u32 0,.string ⟨#[]⟩] 32 (0,0)):=((upd_setRow3 A (D.heap.size+1) #[.slice lo2 l2.length lc2,.int .u64 (a2:Int),.int .u64 (t2:Int),.int .u64 (k2:Int),.bool ph2,.int .u64 (pn2:Int),.bool mh2,.int .u64 (mn2:Int),.bool gh2,.int .u64 (gn2:Int),.slice nco2 nc2.length ncc2,.slice nbo2 nb2.length nbc2,.slice eo2 es2.length ec2,.int .u32 (f2:Int),.string XU2]).block _ (row_lt q2) (fun e=>by have e:D.heap.size+2=D.heap.size+1:=e;omega)).trans q2
    have g5:((A.setRow (D.heap.size+1) #[.slice lo2 l2.length lc2,.int .u64 (a2:Int),.int .u64 (t2:Int),.int .u64 (k2:Int),.bool ph2,.int .u64 (pn2:Int),.bool mh2,.int .u64 (mn2:Int),.bool gh2,.int .u64 (gn2:Int),.slice nco2 nc2.length ncc2,.slice nbo2 nb2.length nbc2,.slice eo2 es2.length ec2,.int .u32 (f2:Int),.string XU2]).setRow (D.heap.size+2) #[.slice lo2 l2.length lc2,.int .u64 (a2:Int),.int .u64 (t2:Int),.int .u64 (k2:Int),.bool ph2,.int .u64 (pn2:Int),.bool mh2,.int .u64 (mn2:Int),.bool gh2,.int .u64 (gn2:Int),.slice nco2 nc2.length ncc2,.slice nbo2 nb2.length nbc2,.slice eo2 es2.length ec2,.int .u32 (f2:Int),.string XU2]).heap[D.heap.size]? = some (.cells #[.slice none 0 0,.int .u64 0,.int .u64 0,.int .u64 0,.bool false,.int .u64 0,.bool false,.int .u64 0,.bool false,.int .u64 0,.int .i32 0,.int .u64 0,.bool false,.int .i32 0,.slice none 0 0,.string ⟨#[]⟩,.bool false,.int .i32 0,.slice none 0 0,.string ⟨#[]⟩,.slice none 0 0,.int .u32 0,.int .u64 0,.string ⟨#[]⟩] 36 (0,0)):=((upd_setRow3 (A.setRow (D.heap.size+1) #[.slice lo2 l2.length lc2,.int .u64 (a2:Int),.int .u64 (t2:Int),.int .u64 (k2:Int),.bool ph2,.int .u64 (pn2:Int),.bool mh2,.int .u64 (mn2:Int),.bool gh2,.int .u64 (gn2:Int),.slice nco2 nc2.length ncc2,.slice nbo2 nb2.length nbc2,.slice eo2 es2.length ec2,.int .u32 (f2:Int),.string XU2]) (D.heap.size+2) #[.slice lo2 l2.length lc2,.int .u64 (a2:Int),.int .u64 (t2:Int),.int .u64 (k2:Int),.bool ph2,.int .u64 (pn2:Int),.bool mh2,.int .u64 (mn2:Int),.bool gh2,.int .u64 (gn2:Int),.slice nco2 nc2.length ncc2,.slice nbo2 nb2.length nbc2,.slice eo2 es2.length ec2,.int .u32 (f2:Int),.string XU2]).block _ (row_lt (((upd_setRow3 A (D.heap.size+1) #[.slice lo2 l2.length lc2,.int .u64 (a2:Int),.int .u64 (t2:Int),.int .u64 (k2:Int),.bool ph2,.int .u64 (pn2:Int),.bool mh2,.int .u64 (mn2:Int),.bool gh2,.int .u64 (gn2:Int),.slice nco2 nc2.length ncc2,.slice nbo2 nb2.length nbc2,.slice eo2 es2.length ec2,.int .u32 (f2:Int),.string XU2]).block _ (row_lt q0) (fun e=>by have e:D.heap.size=D.heap.size+1:=e;omega)).trans q0)) (fun e=>by have e:D.heap.size=D.heap.size+2:=e;omega)).trans (((upd_setRow3 A (D.heap.size+1) #[.slice lo2 l2.length lc2,.int .u64 (a2:Int),.int .u64 (t2:Int),.int .u64 (k2:Int),.bool ph2,.int .u64 (pn2:Int),.bool mh2,.int .u64 (mn2:Int),.bool gh2,.int .u64 (gn2:Int),.slice nco2 nc2.length ncc2,.slice nbo2 nb2.length nbc2,.slice eo2 es2.length ec2,.int .u32 (f2:Int),.string XU2]).block _ (row_lt q0) (fun e=>by have e:D.heap.size=D.heap.size+1:=e;omega)).trans q0)
    refine seq3_wp _ rfl rfl (fun KC hK=>?_)
    refine wp_store_row 32 _ _ rfl (D.heap.size+1) #[.slice lo2 l2.length lc2,.int .u64 (a2:Int),.int .u64 (t2:Int),.int .u64 (k2:Int),.bool ph2,.int .u64 (pn2:Int),.bool mh2,.int .u64 (mn2:Int),.bool gh2,.int .u64 (gn2:Int),.slice nco2 nc2.length ncc2,.slice nbo2 nb2.length nbc2,.slice eo2 es2.length ec2,.int .u32 (f2:Int),.string XU2] (by go_simp) (by go_simp) 32 _ q1 (by kernel_rfl) rfl (by simp[Value.oneCell']) ?_
    refine hK.out _ _ (below_setRow hA3 (by omega) _) ?_;clear hK KC
    refine seq3_wp _ rfl rfl (fun KC hK=>?_)
    refine wp_store_row 32 _ _ rfl (D.heap.size+2) #[.slice lo2 l2.length lc2,.int .u64 (a2:Int),.int .u64 (t2:Int),.int .u64 (k2:Int),.bool ph2,.int .u64 (pn2:Int),.bool mh2,.int .u64 (mn2:Int),.bool gh2,.int .u64 (gn2:Int),.slice nco2 nc2.length ncc2,.slice nbo2 nb2.length nbc2,.slice eo2 es2.length ec2,.int .u32 (f2:Int),.string XU2] (by go_simp) (by go_simp) 32 _ g4 (by kernel_rfl) rfl (by simp[Value.oneCell']) ?_
    refine hK.out _ _ (below_setRow (below_setRow hA3 (by omega) _) (by omega) _) ?_;clear hK KC
    refine seq3_wp _ rfl rfl (fun KC hK=>?_)
    refine wp_store_row 36 _ _ rfl (D.heap.size) #[.slice lo3 l3.length lc3,.int .u64 (a3:Int),.int .u64 (t3:Int),.int .u64 (k3:Int),.bool bp3,.int .u64 (vp3:Int),.bool bm3,.int .u64 (vm3:Int),.bool bg3,.int .u64 (vg3:Int),.int .i32 sc3,.int .u64 (zc3:Int),.bool gp3,.int .i32 pb3.off,.slice po3 pb3.cs.length pc3,.string Xpu3,.bool gn3,.int .i32 nb3.off,.slice no3 nb3.cs.length nc3,.string Xnu3,.slice eo3 es3.length ec3,.int .u32 (f3:Int),.int .u64 (th3:Int),.string Xu3] (by go_simp) (by go_simp) 36 _ g5 (by kernel_rfl) rfl (by simp[Value.oneCell']) ?_
    refine hK.out _ _ (ff0) ?_;clear hK KC
    refine seq3_done ?_
    exact ⟨rfl,D.heap.size+1,D.heap.size+2,D.heap.size,⟨ff0,by omega,by omega,by omega,by omega,by omega,by omega,ff1,ff2,ff3⟩,by first|rfl|simp[Act.put]⟩
   ·refine seq3_come _ rfl (fun KC hK=>?_);go_simp
    refine hK.out _ _ (below_step (below_step HVD.out (below_new _ _)) (below_new _ _)) ?_;clear hK KC
    refine seq3_come _ rfl (fun KC hK=>?_);go_simp
    refine hK.out _ _ (below_step (below_step (below_step HVD.out (below_new _ _)) (below_new _ _)) (below_new _ _)) ?_;clear hK KC
    obtain ⟨q0,q1,q2,q3⟩:=alloc3 D #[.slice none 0 0,.int .u64 0,.int .u64 0,.int .u64 0,.bool false,.int .u64 0,.bool false,.int .u64 0,.bool false,.int .u64 0,.int .i32 0,.int .u64 0,.bool false,.int .i32 0,.slice none 0 0,.string ⟨#[]⟩,.bool false,.int .i32 0,.slice none 0 0,.string ⟨#[]⟩,.slice none 0 0,.int .u32 0,.int .u64 0,.string ⟨#[]⟩] #[.slice none 0 0,.int .u64 0,.int .u64 0,.int .u64 0,.bool false,.int .u64 0,.bool false,.int .u64 0,.bool false,.int .u64 0,.slice none 0 0,.slice none 0 0,.slice none 0 0,.int .u32 0,.string ⟨#[]⟩] #[.slice none 0 0,.int .u64 0,.int .u64 0,.int .u64 0,.bool false,.int .u64 0,.bool false,.int .u64 0,.bool false,.int .u64 0,.slice none 0 0,.slice none 0 0,.slice none 0 0,.int .u32 0,.string ⟨#[]⟩] 36 32 32
    obtain ⟨A,hA⟩:∃ A,((D.alloc (.cells #[.slice none 0 0,.int .u64 0,.int .u64 0,.int .u64 0,.bool false,.int .u64 0,.bool false,.int .u64 0,.bool false,.int .u64 0,.int .i32 0,.int .u64 0,.bool false,.int .i32 0,.slice none 0 0,.string ⟨#[]⟩,.bool false,.int .i32 0,.slice none 0 0,.string ⟨#[]⟩,.slice none 0 0,.int .u32 0,.int .u64 0,.string ⟨#[]⟩] 36)).alloc (.cells #[.slice none 0 0,.int .u64 0,.int .u64 0,.int .u64 0,.bool false,.int .u64 0,.bool false,.int .u64 0,.bool false,.int .u64 0,.slice none 0 0,.slice none 0 0,.slice none 0 0,.int .u32 0,.string ⟨#[]⟩] 32)).alloc (.cells #[.slice none 0 0,.int .u64 0,.int .u64 0,.int .u64 0,.bool false,.int .u64 0,.bool false,.int .u64 0,.bool false,.int .u64 0,.slice none 0 0,.slice none 0 0,.slice none 0 0,.int .u32 0,.string ⟨#[]⟩] 32)=A:=⟨_,rfl⟩
    rw[hA] at q0 q1 q2 q3 ⊢
    clear hA
    have hA3:Below W.heap.size W A:=HVD.out.trans (q3.mono hDs)
    obtain ⟨ff0,ff1,ff2,ff3⟩:=fill3 (n0:=#[.slice lo2 l2.length lc2,.int .u64 (a2:Int),.int .u64 (t2:Int),.int .u64 (k2:Int),.bool ph2,.int .u64 (pn2:Int),.bool mh2,.int .u64 (mn2:Int),.bool gh2,.int .u64 (gn2:Int),.slice nco2 nc2.length ncc2,.slice nbo2 nb2.length nbc2,.slice eo2 es2.length ec2,.int .u32 (f2:Int),.string XU2]) (n1:=#[.slice lo2 l2.length lc2,.int .u64 (a2:Int),.int .u64 (t2:Int),.int .u64 (k2:Int),.bool ph2,.int .u64 (pn2:Int),.bool mh2,.int .u64 (mn2:Int),.bool gh2,.int .u64 (gn2:Int),.slice nco2 nc2.length ncc2,.slice nbo2 nb2.length nbc2,.slice eo2 es2.length ec2,.int .u32 (f2:Int),.string XU2]) (n2:=#[.slice lo3 l3.length lc3,.int .u64 (a3:Int),.int .u64 (t3:Int),.int .u64 (k3:Int),.bool bp3,.int .u64 (vp3:Int),.bool bm3,.int .u64 (vm3:Int),.bool bg3,.int .u64 (vg3:Int),.int .i32 sc3,.int .u64 (zc3:Int),.bool gp3,.int .i32 pb3.off,.slice po3 pb3.cs.length pc3,.string Xpu3,.bool gn3,.int .i32 nb3.off,.slice no3 nb3.cs.length nc3,.string Xnu3,.slice eo3 es3.length ec3,.int .u32 (f3:Int),.int .u64 (th3:Int),.string Xu3]) hA3 (x:=D.heap.size+2) (y:=D.heap.size+1) (z:=D.heap.size) (by omega) (by omega) (by omega) (by omega) (by omega) (by omega) q2 q1 q0
    have g4:(A.setRow (D.heap.size+2) #[.slice lo2 l2.length lc2,.int .u64 (a2:Int),.int .u64 (t2:Int),.int .u64 (k2:Int),.bool ph2,.int .u64 (pn2:Int),.bool mh2,.int .u64 (mn2:Int),.bool gh2,.int .u64 (gn2:Int),.slice nco2 nc2.length ncc2,.slice nbo2 nb2.length nbc2,.slice eo2 es2.length ec2,.int .u32 (f2:Int),.string XU2]).heap[D.heap.size+1]? = some (.cells #[.slice none 0 0,.int .u64 0,.int .u64 0,.int .u64 0,.bool false,.int .u64 0,.bool false,.int .u64 0,.bool false,.int .u64 0,.slice none 0 0,.slice none 0 0,.slice none 0 0,.int .u32 0,.string ⟨#[]⟩] 32 (0,0)):=((upd_setRow3 A (D.heap.size+2) #[.slice lo2 l2.length lc2,.int .u64 (a2:Int),.int .u64 (t2:Int),.int .u64 (k2:Int),.bool ph2,.int .u64 (pn2:Int),.bool mh2,.int .u64 (mn2:Int),.bool gh2,.int .u64 (gn2:Int),.slice nco2 nc2.length ncc2,.slice nbo2 nb2.length nbc2,.slice eo2 es2.length ec2,.int .u32 (f2:Int),.string XU2]).block _ (row_lt q1) (fun e=>by have e:D.heap.size+1=D.heap.size+2:=e;omega)).trans q1
    have g5:((A.setRow (D.heap.size+2) #[.slice lo2 l2.length lc2,.int .u64 (a2:Int),.int .u64 (t2:Int),.int .u64 (k2:Int),.bool ph2,.int .u64 (pn2:Int),.bool mh2,.int .u64 (mn2:Int),.bool gh2,.int .u64 (gn2:Int),.slice nco2 nc2.length ncc2,.slice nbo2 nb2.length nbc2,.slice eo2 es2.length ec2,.int .u32 (f2:Int),.string XU2]).setRow (D.heap.size+1) #[.slice lo2 l2.length lc2,.int .u64 (a2:Int),.int .u64 (t2:Int),.int .u64 (k2:Int),.bool ph2,.int .u64 (pn2:Int),.bool mh2,.int .u64 (mn2:Int),.bool gh2,.int .u64 (gn2:Int),.slice nco2 nc2.length ncc2,.slice nbo2 nb2.length nbc2,.slice eo2 es2.length ec2,.int .u32 (f2:Int),.string XU2]).heap[D.heap.size]? = some (.cells #[.slice none 0 0,.int .u64 0,.int .u64 0,.int .u64 0,.bool false,.int .u64 0,.bool false,.int .u64 0,.bool false,.int .u64 0,.int .i32 0,.int .u64 0,.bool false,.int .i32 0,.slice none 0 0,.string ⟨#[]⟩,.bool false,.int .i32 0,.slice none 0 0,.string ⟨#[]⟩,.slice none 0 0,.int .u32 0,.int .u64 0,.string ⟨#[]⟩] 36 (0,0)):=((upd_setRow3 (A.setRow (D.heap.size+2) #[.slice lo2 l2.length lc2,.int .u64 (a2:Int),.int .u64 (t2:Int),.int .u64 (k2:Int),.bool ph2,.int .u64 (pn2:Int),.bool mh2,.int .u64 (mn2:Int),.bool gh2,.int .u64 (gn2:Int),.slice nco2 nc2.length ncc2,.slice nbo2 nb2.length nbc2,.slice eo2 es2.length ec2,.int .u32 (f2:Int),.string XU2]) (D.heap.size+1) #[.slice lo2 l2.length lc2,.int .u64 (a2:Int),.int .u64 (t2:Int),.int .u64 (k2:Int),.bool ph2,.int .u64 (pn2:Int),.bool mh2,.int .u64 (mn2:Int),.bool gh2,.int .u64 (gn2:Int),.slice nco2 nc2.length ncc2,.slice nbo2 nb2.length nbc2,.slice eo2 es2.length ec2,.int .u32 (f2:Int),.string XU2]).block _ (row_lt (((upd_setRow3 A (D.heap.size+2) #[.slice lo2 l2.length lc2,.int .u64 (a2:Int),.int .u64 (t2:Int),.int .u64 (k2:Int),.bool ph2,.int .u64 (pn2:Int),.bool mh2,.int .u64 (mn2:Int),.bool gh2,.int .u64 (gn2:Int),.slice nco2 nc2.length ncc2,.slice nbo2 nb2.length nbc2,.slice eo2 es2.length ec2,.int .u32 (f2:Int),.string XU2]).block _ (row_lt q0) (fun e=>by have e:D.heap.size=D.heap.size+2:=e;omega)).trans q0)) (fun e=>by have e:D.heap.size=D.heap.size+1:=e;omega)).trans (((upd_setRow3 A (D.heap.size+2) #[.slice lo2 l2.length lc2,.int .u64 (a2:Int),.int .u64 (t2:Int),.int .u64 (k2:Int),.bool ph2,.int .u64 (pn2:Int),.bool mh2,.int .u64 (mn2:Int),.bool gh2,.int .u64 (gn2:Int),.slice nco2 nc2.length ncc2,.slice nbo2 nb2.length nbc2,.slice eo2 es2.length ec2,.int .u32 (f2:Int),.string XU2]).block _ (row_lt q0) (fun e=>by have e:D.heap.size=D.heap.size+2:=e;omega)).trans q0)
    refine seq3_wp _ rfl rfl (fun KC hK=>?_)
    refine wp_store_row 32 _ _ rfl (D.heap.size+2) #[.slice lo2 l2.length lc2,.int .u64 (a2:Int),.int .u64 (t2:Int),.int .u64 (k2:Int),.bool ph2,.int .u64 (pn2:Int),.bool mh2,.int .u64 (mn2:Int),.bool gh2,.int .u64 (gn2:Int),.slice nco2 nc2.length ncc2,.slice nbo2 nb2.length nbc2,.slice eo2 es2.length ec2,.int .u32 (f2:Int),.string XU2] (by go_simp) (by go_simp) 32 _ q2 (by kernel_rfl) rfl (by simp[Value.oneCell']) ?_
    refine hK.out _ _ (below_setRow hA3 (by omega) _) ?_;clear hK KC
    refine seq3_wp _ rfl rfl (fun KC hK=>?_)
    refine wp_store_row 32 _ _ rfl (D.heap.size+1) #[.slice lo2 l2.length lc2,.int .u64 (a2:Int),.int .u64 (t2:Int),.int .u64 (k2:Int),.bool ph2,.int .u64 (pn2:Int),.bool mh2,.int .u64 (mn2:Int),.bool gh2,.int .u64 (gn2:Int),.slice nco2 nc2.length ncc2,.slice nbo2 nb2.length nbc2,.slice eo2 es2.length ec2,.int .u32 (f2:Int),.string XU2] (by go_simp) (by go_simp) 32 _ g4 (by kernel_rfl) rfl (by simp[Value.oneCell']) ?_
    refine hK.out _ _ (below_setRow (below_setRow hA3 (by omega) _) (by omega) _) ?_;clear hK KC
    refine seq3_wp _ rfl rfl (fun KC hK=>?_)
    refine wp_store_row 36 _ _ rfl (D.heap.size) #[.slice lo3 l3.length lc3,.int .u64 (a3:Int),.int .u64 (t3:Int),.int .u64 (k3:Int),.bool bp3,.int .u64 (vp3:Int),.bool bm3,.int .u64 (vm3:Int),.bool bg3,.int .u64 (vg3:Int),.int .i32 sc3,.int .u64 (zc3:Int),.bool gp3,.int .i32 pb3.off,.slice po3 pb3.cs.length pc3,.string Xpu3,.bool gn3,.int .i32 nb3.off,.slice no3 nb3.cs.length nc3,.string Xnu3,.slice eo3 es3.length ec3,.int .u32 (f3:Int),.int .u64 (th3:Int),.string Xu3] (by go_simp) (by go_simp) 36 _ g5 (by kernel_rfl) rfl (by simp[Value.oneCell']) ?_
    refine hK.out _ _ (ff0) ?_;clear hK KC
    refine seq3_done ?_
    exact ⟨rfl,D.heap.size+2,D.heap.size+1,D.heap.size,⟨ff0,by omega,by omega,by omega,by omega,by omega,by omega,ff1,ff2,ff3⟩,by first|rfl|simp[Act.put]⟩
 ·intro b5 b6 b7 w6 HF
  obtain ⟨hv,g5,g6,g7,n56,n57,n67,h5,h6,h7⟩:=HF
  have HVw6:=hid hv
  have R50:Hid (w6.heap[b5]? = some (.cells #[.slice lo2 l2.length lc2,.int .u64 (a2:Int),.int .u64 (t2:Int),.int .u64 (k2:Int),.bool ph2,.int .u64 (pn2:Int),.bool mh2,.int .u64 (mn2:Int),.bool gh2,.int .u64 (gn2:Int),.slice nco2 nc2.length ncc2,.slice nbo2 nb2.length nbc2,.slice eo2 es2.length ec2,.int .u32 (f2:Int),.string XU2] 32 (0,0))):=hid h5
  have R60:Hid (w6.heap[b6]? = some (.cells #[.slice lo2 l2.length lc2,.int .u64 (a2:Int),.int .u64 (t2:Int),.int .u64 (k2:Int),.bool ph2,.int .u64 (pn2:Int),.bool mh2,.int .u64 (mn2:Int),.bool gh2,.int .u64 (gn2:Int),.slice nco2 nc2.length ncc2,.slice nbo2 nb2.length nbc2,.slice eo2 es2.length ec2,.int .u32 (f2:Int),.string XU2] 32 (0,0))):=hid h6
  have R70:Hid (w6.heap[b7]? = some (.cells #[.slice lo3 l3.length lc3,.int .u64 (a3:Int),.int .u64 (t3:Int),.int .u64 (k3:Int),.bool bp3,.int .u64 (vp3:Int),.bool bm3,.int .u64 (vm3:Int),.bool bg3,.int .u64 (vg3:Int),.int .i32 sc3,.int .u64 (zc3:Int),.bool gp3,.int .i32 pb3.off,.slice po3 pb3.cs.length pc3,.string Xpu3,.bool gn3,.int .i32 nb3.off,.slice no3 nb3.cs.length nc3,.string Xnu3,.slice eo3 es3.length ec3,.int .u32 (f3:Int),.int .u64 (th3:Int),.string Xu3] 36 (0,0))):=hid h7
  clear hv h5 h6 h7
  obtain ⟨v2,hv2⟩:∃ v:Nat,(t2+1) % 18446744073709551616=v:=⟨_,rfl⟩
  obtain ⟨kz,hkz⟩:∃ v:Nat,(k3+1) % 18446744073709551616=v:=⟨_,rfl⟩
  obtain ⟨kc,hkc⟩:∃ v:Nat,(k2+1) % 18446744073709551616=v:=⟨_,rfl⟩
  have qv:IntKind.u64.wrap ((t2:Int)+1)=(v2:Int):=by rw[IntKind.wrap_u64];omega
  have qz:IntKind.u64.wrap ((k3:Int)+1)=(kz:Int):=by rw[IntKind.wrap_u64];omega
  have qc:IntKind.u64.wrap ((k2:Int)+1)=(kc:Int):=by rw[IntKind.wrap_u64];omega
  have HV2_:=hid hv2
  have HKZ:=hid hkz
  have HKC:=hid hkc
  clear hv2 hkz hkc
  have hc51:w6.cell? ⟨b5,1,none⟩=some (.int .u64 (a2:Int)):=row_cell R50.out (j:=1) rfl
  have hc52:w6.cell? ⟨b5,2,none⟩=some (.int .u64 (t2:Int)):=row_cell R50.out (j:=2) rfl
  have hf51:w6.frozen? ⟨b5,1,none⟩=false:=row_thaw R50.out 1
  have hf52:w6.frozen? ⟨b5,2,none⟩=false:=row_thaw R50.out 2
  go_upto_region 7 with fail
  clear hc51 hc52 hf51 hf52
  obtain ⟨w7,hw⟩:∃ X,((w6.setCell ⟨b5,2,none⟩ (.int .u64 0)).setCell ⟨b5,1,none⟩ (.int .u64 0))=X:=⟨_,rfl⟩
  have hu:Upd (fun k=>k=b5) w6 w7:=by rw[←hw];exact ((Upd.set w6 ⟨b5,2,none⟩ (.int .u64 0))).trans (Upd.set _ ⟨b5,1,none⟩ (.int .u64 0))
  have HVw7:Hid (Below W.heap.size W w7):=hid (HVw6.out.trans (hu.below HVw6.out.size (fun k _ h=>by have h:k=b5:=h;omega)))
  have R51:Hid (w7.heap[b5]? = some (.cells #[.slice lo2 l2.length lc2,.int .u64 0,.int .u64 0,.int .u64 (k2:Int),.bool ph2,.int .u64 (pn2:Int),.bool mh2,.int .u64 (mn2:Int),.bool gh2,.int .u64 (gn2:Int),.slice nco2 nc2.length ncc2,.slice nbo2 nb2.length nbc2,.slice eo2 es2.length ec2,.int .u32 (f2:Int),.string XU2] 32 (0,0))):=hid (by rw[←hw];exact row_set (row_set (R50.out) 2 _) 1 _)
  have R61:Hid (w7.heap[b6]? = some (.cells #[.slice lo2 l2.length lc2,.int .u64 (a2:Int),.int .u64 (t2:Int),.int .u64 (k2:Int),.bool ph2,.int .u64 (pn2:Int),.bool mh2,.int .u64 (mn2:Int),.bool gh2,.int .u64 (gn2:Int),.slice nco2 nc2.length ncc2,.slice nbo2 nb2.length nbc2,.slice eo2 es2.length ec2,.int .u32 (f2:Int),.string XU2] 32 (0,0))):=hid ((hu.block _ (row_lt R60.out) (fun e=>by have e:b6=b5:=e;omega)).trans R60.out)
  have R71:Hid (w7.heap[b7]? = some (.cells #[.slice lo3 l3.length lc3,.int .u64 (a3:Int),.int .u64 (t3:Int),.int .u64 (k3:Int),.bool bp3,.int .u64 (vp3:Int),.bool bm3,.int .u64 (vm3:Int),.bool bg3,.int .u64 (vg3:Int),.int .i32 sc3,.int .u64 (zc3:Int),.bool gp3,.int .i32 pb3.off,.slice po3 pb3.cs.length pc3,.string Xpu3,.bool gn3,.int .i32 nb3.off,.slice no3 nb3.cs.length nc3,.string Xnu3,.slice eo3 es3.length ec3,.int .u32 (f3:Int),.int .u64 (th3:Int),.string Xu3] 36 (0,0))):=hid ((hu.block _ (row_lt R70.out) (fun e=>by have e:b7=b5:=e;omega)).trans R70.out)
  rw[hw]
  clear hw hu
  have hc61:w7.cell? ⟨b6,1,none⟩=some (.int .u64 (a2:Int)):=row_cell R61.out (j:=1) rfl
  have hc62:w7.cell? ⟨b6,2,none⟩=some (.int .u64 (t2:Int)):=row_cell R61.out (j:=2) rfl
  have hf61:w7.frozen? ⟨b6,1,none⟩=false:=row_thaw R61.out 1
  go_upto_region 8 with fail
  clear hc61 hc62 hf61
  obtain ⟨w8,hw⟩:∃ X,(w7.setCell ⟨b6,1,none⟩ (.int .u64 (v2:Int)))=X:=⟨_,rfl⟩
  have hu:Upd (fun k=>k=b6) w7 w8:=by rw[←hw];exact (Upd.set w7 ⟨b6,1,none⟩ (.int .u64 (v2:Int)))
  have HVw8:Hid (Below W.heap.size W w8):=hid (HVw7.out.trans (hu.below HVw7.out.size (fun k _ h=>by have h:k=b6:=h;omega)))
  have R52:Hid (w8.heap[b5]? = some (.cells #[.slice lo2 l2.length lc2,.int .u64 0,.int .u64 0,.int .u64 (k2:Int),.bool ph2,.int .u64 (pn2:Int),.bool mh2,.int .u64 (mn2:Int),.bool gh2,.int .u64 (gn2:Int),.slice nco2 nc2.length ncc2,.slice nbo2 nb2.length nbc2,.slice eo2 es2.length ec2,.int .u32 (f2:Int),.string XU2] 32 (0,0))):=hid ((hu.block _ (row_lt R51.out) (fun e=>by have e:b5=b6:=e;omega)).trans R51.out)
  have R62:Hid (w8.heap[b6]? = some (.cells #[.slice lo2 l2.length lc2,.int .u64 (v2:Int),.int .u64 (t2:Int),.int .u64 (k2:Int),.bool ph2,.int .u64 (pn2:Int),.bool mh2,.int .u64 (mn2:Int),.bool gh2,.int .u64 (gn2:Int),.slice nco2 nc2.length ncc2,.slice nbo2 nb2.length nbc2,.slice eo2 es2.length ec2,.int .u32 (f2:Int),.string XU2] 32 (0,0))):=hid (by rw[←hw];exact row_set (R61.out) 1 _)
  have R72:Hid (w8.heap[b7]? = some (.cells #[.slice lo3 l3.length lc3,.int .u64 (a3:Int),.int .u64 (t3:Int),.int .u64 (k3:Int),.bool bp3,.int .u64 (vp3:Int),.bool bm3,.int .u64 (vm3:Int),.bool bg3,.int .u64 (vg3:Int),.int .i32 sc3,.int .u64 (zc3:Int),.bool gp3,.int .i32 pb3.off,.slice po3 pb3.cs.length pc3,.string Xpu3,.bool gn3,.int .i32 nb3.off,.slice no3 nb3.cs.length nc3,.string Xnu3,.slice eo3 es3.length ec3,.int .u32 (f3:Int),.int .u64 (th3:Int),.string Xu3] 36 (0,0))):=hid ((hu.block _ (row_lt R71.out) (fun e=>by have e:b7=b6:=e;omega)).trans R71.out)
  rw[hw]
  clear hw hu
  have hc73:w8.cell? ⟨b7,3,none⟩=some (.int .u64 (k3:Int)):=row_cell R72.out (j:=3) rfl
  have hf73:w8.frozen? ⟨b7,3,none⟩=false:=row_thaw R72.out 3
  go_upto_region 9 with fail
  clear hc73 hf73
  obtain ⟨w9,hw⟩:∃ X,(w8.setCell ⟨b7,3,none⟩ (.int .u64 (kz:Int)))=X:=⟨_,rfl⟩
  have hu:Upd (fun k=>k=b7) w8 w9:=by rw[←hw];exact (Upd.set w8 ⟨b7,3,none⟩ (.int .u64 (kz:Int)))
  have HVw9:Hid (Below W.heap.size W w9):=hid (HVw8.out.trans (hu.below HVw8.out.size (fun k _ h=>by have h:k=b7:=h;omega)))
  have R53:Hid (w9.heap[b5]? = some (.cells #[.slice lo2 l2.length lc2,.int .u64 0,.int .u64 0,.int .u64 (k2:Int),.bool ph2,.int .u64 (pn2:Int),.bool mh2,.int .u64 (mn2:Int),.bool gh2,.int .u64 (gn2:Int),.slice nco2 nc2.length ncc2,.slice nbo2 nb2.length nbc2,.slice eo2 es2.length ec2,.int .u32 (f2:Int),.string XU2] 32 (0,0))):=hid ((hu.block _ (row_lt R52.out) (fun e=>by have e:b5=b7:=e;omega)).trans R52.out)
  have R63:Hid (w9.heap[b6]? = some (.cells #[.slice lo2 l2.length lc2,.int .u64 (v2:Int),.int .u64 (t2:Int),.int .u64 (k2:Int),.bool ph2,.int .u64 (pn2:Int),.bool mh2,.int .u64 (mn2:Int),.bool gh2,.int .u64 (gn2:Int),.slice nco2 nc2.length ncc2,.slice nbo2 nb2.length nbc2,.slice eo2 es2.length ec2,.int .u32 (f2:Int),.string XU2] 32 (0,0))):=hid ((hu.block _ (row_lt R62.out) (fun e=>by have e:b6=b7:=e;omega)).trans R62.out)
  have R73:Hid (w9.heap[b7]? = some (.cells #[.slice lo3 l3.length lc3,.int .u64 (a3:Int),.int .u64 (t3:Int),.int .u64 (kz:Int),.bool bp3,.int .u64 (vp3:Int),.bool bm3,.int .u64 (vm3:Int),.bool bg3,.int .u64 (vg3:Int),.int .i32 sc3,.int .u64 (zc3:Int),.bool gp3,.int .i32 pb3.off,.slice po3 pb3.cs.length pc3,.string Xpu3,.bool gn3,.int .i32 nb3.off,.slice no3 nb3.cs.length nc3,.string Xnu3,.slice eo3 es3.length ec3,.int .u32 (f3:Int),.int .u64 (th3:Int),.string Xu3] 36 (0,0))):=hid (by rw[←hw];exact row_set (R72.out) 3 _)
  rw[hw]
  clear hw hu
  refine wp_region_lit ?_
  refine wpList_plain rfl (fun K hK=>?_)
  refine wp_load_mid 36 (.tmp 3) rfl b3 0 rfl [.slice lo3 l3.length lc3,.int .u64 (a3:Int),.int .u64 (t3:Int),.int .u64 (k3:Int),.bool bp3,.int .u64 (vp3:Int),.bool bm3,.int .u64 (vm3:Int),.bool bg3,.int .u64 (vg3:Int),.int .i32 sc3,.int .u64 (zc3:Int),.bool gp3,.int .i32 pb3.off,.slice po3 pb3.cs.length pc3,.string Xpu3,.bool gn3,.int .i32 nb3.off,.slice no3 nb3.cs.length nc3,.string Xnu3,.slice eo3 es3.length ec3,.int .u32 (f3:Int),.int .u64 (th3:Int),.string Xu3] _ (range_rowc ((HVw9.out.block _ (row_lt HR3.out)).trans HR3.out)) Try.underlying36 rfl (by kernel_rfl) (hK _ _ ?_)
  clear hK K
  refine wpList_plain rfl (fun K hK=>?_);go_simp;refine hK _ _ ?_;clear hK K
  have HZ:=heap_alloc_new w9 (.cells #[.slice none 0 0,.int .u64 0,.int .u64 0,.int .u64 0,.bool false,.int .u64 0,.bool false,.int .u64 0,.bool false,.int .u64 0,.int .i32 0,.int .u64 0,.bool false,.int .i32 0,.slice none 0 0,.string ⟨#[]⟩,.bool false,.int .i32 0,.slice none 0 0,.string ⟨#[]⟩,.slice none 0 0,.int .u32 0,.int .u64 0,.string ⟨#[]⟩] 36)
  refine wpList_store_row rfl 36 (.tmp 8) (.tmp 45) rfl w9.heap.size #[.slice lo3 l3.length lc3,.int .u64 (a3:Int),.int .u64 (t3:Int),.int .u64 (k3:Int),.bool bp3,.int .u64 (vp3:Int),.bool bm3,.int .u64 (vm3:Int),.bool bg3,.int .u64 (vg3:Int),.int .i32 sc3,.int .u64 (zc3:Int),.bool gp3,.int .i32 pb3.off,.slice po3 pb3.cs.length pc3,.string Xpu3,.bool gn3,.int .i32 nb3.off,.slice no3 nb3.cs.length nc3,.string Xnu3,.slice eo3 es3.length ec3,.int .u32 (f3:Int),.int .u64 (th3:Int),.string Xu3] rfl rfl 36 _ HZ (by kernel_rfl) rfl (by simp[Value.oneCell']) ?_
  obtain ⟨b8,hnb⟩:∃ x,w9.heap.size=x:=⟨_,rfl⟩
  obtain ⟨w10,hw⟩:∃ X,(w9.alloc (.cells #[.slice none 0 0,.int .u64 0,.int .u64 0,.int .u64 0,.bool false,.int .u64 0,.bool false,.int .u64 0,.bool false,.int .u64 0,.int .i32 0,.int .u64 0,.bool false,.int .i32 0,.slice none 0 0,.string ⟨#[]⟩,.bool false,.int .i32 0,.slice none 0 0,.string ⟨#[]⟩,.slice none 0 0,.int .u32 0,.int .u64 0,.string ⟨#[]⟩] 36)).setRow w9.heap.size #[.slice lo3 l3.length lc3,.int .u64 (a3:Int),.int .u64 (t3:Int),.int .u64 (k3:Int),.bool bp3,.int .u64 (vp3:Int),.bool bm3,.int .u64 (vm3:Int),.bool bg3,.int .u64 (vg3:Int),.int .i32 sc3,.int .u64 (zc3:Int),.bool gp3,.int .i32 pb3.off,.slice po3 pb3.cs.length pc3,.string Xpu3,.bool gn3,.int .i32 nb3.off,.slice no3 nb3.cs.length nc3,.string Xnu3,.slice eo3 es3.length ec3,.int .u32 (f3:Int),.int .u64 (th3:Int),.string Xu3]=X:=⟨_,rfl⟩
  have hr:w10.heap[b8]? = some (.cells #[.slice lo3 l3.length lc3,.int .u64 (a3:Int),.int .u64 (t3:Int),.int .u64 (k3:Int),.bool bp3,.int .u64 (vp3:Int),.bool bm3,.int .u64 (vm3:Int),.bool bg3,.int .u64 (vg3:Int),.int .i32 sc3,.int .u64 (zc3:Int),.bool gp3,.int .i32 pb3.off,.slice po3 pb3.cs.length pc3,.string Xpu3,.bool gn3,.int .i32 nb3.off,.slice no3 nb3.cs.length nc3,.string Xnu3,.slice eo3 es3.length ec3,.int .u32 (f3:Int),.int .u64 (th3:Int),.string Xu3] 36 (0,0)):=by rw[←hw,←hnb];exact setRow_heap _ _ _ _ _ _ HZ
  have hb:Below w9.heap.size w9 w10:=by rw[←hw];exact below_setRow (below_new _ _) (Nat.le_refl _) _
  have hns:W.heap.size≤b8:=by rw[←hnb];exact HVw9.out.size
  have hnx:w9.heap.size≤b8:=by rw[←hnb];exact Nat.le_refl _
  have n58:b5≠b8:=fun e=>by have h:=row_lt R53.out;omega
  have n68:b6≠b8:=fun e=>by have h:=row_lt R63.out;omega
  have n78:b7≠b8:=fun e=>by have h:=row_lt R73.out;omega
  rw[hw,hnb]
  clear hw hnb HZ
  have HVw10:Hid (Below W.heap.size W w10):=hid (below_step HVw9.out hb)
  have R54:Hid (w10.heap[b5]? = some (.cells #[.slice lo2 l2.length lc2,.int .u64 0,.int .u64 0,.int .u64 (k2:Int),.bool ph2,.int .u64 (pn2:Int),.bool mh2,.int .u64 (mn2:Int),.bool gh2,.int .u64 (gn2:Int),.slice nco2 nc2.length ncc2,.slice nbo2 nb2.length nbc2,.slice eo2 es2.length ec2,.int .u32 (f2:Int),.string XU2] 32 (0,0))):=hid ((hb.block _ (row_lt R53.out)).trans R53.out)
  have R64:Hid (w10.heap[b6]? = some (.cells #[.slice lo2 l2.length lc2,.int .u64 (v2:Int),.int .u64 (t2:Int),.int .u64 (k2:Int),.bool ph2,.int .u64 (pn2:Int),.bool mh2,.int .u64 (mn2:Int),.bool gh2,.int .u64 (gn2:Int),.slice nco2 nc2.length ncc2,.slice nbo2 nb2.length nbc2,.slice eo2 es2.length ec2,.int .u32 (f2:Int),.string XU2] 32 (0,0))):=hid ((hb.block _ (row_lt R63.out)).trans R63.out)
  have R74:Hid (w10.heap[b7]? = some (.cells #[.slice lo3 l3.length lc3,.int .u64 (a3:Int),.int .u64 (t3:Int),.int .u64 (kz:Int),.bool bp3,.int .u64 (vp3:Int),.bool bm3,.int .u64 (vm3:Int),.bool bg3,.int .u64 (vg3:Int),.int .i32 sc3,.int .u64 (zc3:Int),.bool gp3,.int .i32 pb3.off,.slice po3 pb3.cs.length pc3,.string Xpu3,.bool gn3,.int .i32 nb3.off,.slice no3 nb3.cs.length nc3,.string Xnu3,.slice eo3 es3.length ec3,.int .u32 (f3:Int),.int .u64 (th3:Int),.string Xu3] 36 (0,0))):=hid ((hb.block _ (row_lt R73.out)).trans R73.out)
  have R8n:Hid (w10.heap[b8]? = some (.cells #[.slice lo3 l3.length lc3,.int .u64 (a3:Int),.int .u64 (t3:Int),.int .u64 (k3:Int),.bool bp3,.int .u64 (vp3:Int),.bool bm3,.int .u64 (vm3:Int),.bool bg3,.int .u64 (vg3:Int),.int .i32 sc3,.int .u64 (zc3:Int),.bool gp3,.int .i32 pb3.off,.slice po3 pb3.cs.length pc3,.string Xpu3,.bool gn3,.int .i32 nb3.off,.slice no3 nb3.cs.length nc3,.string Xnu3,.slice eo3 es3.length ec3,.int .u32 (f3:Int),.int .u64 (th3:Int),.string Xu3] 36 (0,0))):=hid hr
  clear hb hr
  have hc810:w10.cell? ⟨b8,10,none⟩=some (.int .i32 sc3):=row_cell R8n.out (j:=10) rfl
  have hf810:w10.frozen? ⟨b8,10,none⟩=false:=row_thaw R8n.out 10
  go_upto_region 11 with fail
  clear hc810 hf810
  obtain ⟨w11,hw⟩:∃ X,(w10.setCell ⟨b8,10,none⟩ (.int .i32 21))=X:=⟨_,rfl⟩
  have hu:Upd (fun k=>k=b8) w10 w11:=by rw[←hw];exact (Upd.set w10 ⟨b8,10,none⟩ (.int .i32 21))
  have HVw11:Hid (Below W.heap.size W w11):=hid (HVw10.out.trans (hu.below HVw10.out.size (fun k _ h=>by have h:k=b8:=h;omega)))
  have R55:Hid (w11.heap[b5]? = some (.cells #[.slice lo2 l2.length lc2,.int .u64 0,.int .u64 0,.int .u64 (k2:Int),.bool ph2,.int .u64 (pn2:Int),.bool mh2,.int .u64 (mn2:Int),.bool gh2,.int .u64 (gn2:Int),.slice nco2 nc2.length ncc2,.slice nbo2 nb2.length nbc2,.slice eo2 es2.length ec2,.int .u32 (f2:Int),.string XU2] 32 (0,0))):=hid ((hu.block _ (row_lt R54.out) (fun e=>by have e:b5=b8:=e;omega)).trans R54.out)
  have R65:Hid (w11.heap[b6]? = some (.cells #[.slice lo2 l2.length lc2,.int .u64 (v2:Int),.int .u64 (t2:Int),.int .u64 (k2:Int),.bool ph2,.int .u64 (pn2:Int),.bool mh2,.int .u64 (mn2:Int),.bool gh2,.int .u64 (gn2:Int),.slice nco2 nc2.length ncc2,.slice nbo2 nb2.length nbc2,.slice eo2 es2.length ec2,.int .u32 (f2:Int),.string XU2] 32 (0,0))):=hid ((hu.block _ (row_lt R64.out) (fun e=>by have e:b6=b8:=e;omega)).trans R64.out)
  have R75:Hid (w11.heap[b7]? = some (.cells #[.slice lo3 l3.length lc3,.int .u64 (a3:Int),.int .u64 (t3:Int),.int .u64 (kz:Int),.bool bp3,.int .u64 (vp3:Int),.bool bm3,.int .u64 (vm3:Int),.bool bg3,.int .u64 (vg3:Int),.int .i32 sc3,.int .u64 (zc3:Int),.bool gp3,.int .i32 pb3.off,.slice po3 pb3.cs.length pc3,.string Xpu3,.bool gn3,.int .i32 nb3.off,.slice no3 nb3.cs.length nc3,.string Xnu3,.slice eo3 es3.length ec3,.int .u32 (f3:Int),.int .u64 (th3:Int),.string Xu3] 36 (0,0))):=hid ((hu.block _ (row_lt R74.out) (fun e=>by have e:b7=b8:=e;omega)).trans R74.out)
  have R85:Hid (w11.heap[b8]? = some (.cells #[.slice lo3 l3.length lc3,.int .u64 (a3:Int),.int .u64 (t3:Int),.int .u64 (k3:Int),.bool bp3,.int .u64 (vp3:Int),.bool bm3,.int .u64 (vm3:Int),.bool bg3,.int .u64 (vg3:Int),.int .i32 21,.int .u64 (zc3:Int),.bool gp3,.int .i32 pb3.off,.slice po3 pb3.cs.length pc3,.string Xpu3,.bool gn3,.int .i32 nb3.off,.slice no3 nb3.cs.length nc3,.string Xnu3,.slice eo3 es3.length ec3,.int .u32 (f3:Int),.int .u64 (th3:Int),.string Xu3] 36 (0,0))):=hid (by rw[←hw];exact row_set (R8n.out) 10 _)
  rw[hw]
  clear hw hu
  refine wp_region_lit ?_
  refine wpList_plain rfl (fun K hK=>?_)
  refine wp_load_mid 32 (.tmp 2) rfl b2 0 rfl [.slice lo2 l2.length lc2,.int .u64 (a2:Int),.int .u64 (t2:Int),.int .u64 (k2:Int),.bool ph2,.int .u64 (pn2:Int),.bool mh2,.int .u64 (mn2:Int),.bool gh2,.int .u64 (gn2:Int),.slice nco2 nc2.length ncc2,.slice nbo2 nb2.length nbc2,.slice eo2 es2.length ec2,.int .u32 (f2:Int),.string XU2] _ (range_rowc ((HVw11.out.block _ (row_lt HR2.out)).trans HR2.out)) Try.underlying32 rfl (by kernel_rfl) (hK _ _ ?_)
  clear hK K
  refine wpList_plain rfl (fun K hK=>?_);go_simp;refine hK _ _ ?_;clear hK K
  have HZ:=heap_alloc_new w11 (.cells #[.slice none 0 0,.int .u64 0,.int .u64 0,.int .u64 0,.bool false,.int .u64 0,.bool false,.int .u64 0,.bool false,.int .u64 0,.slice none 0 0,.slice none 0 0,.slice none 0 0,.int .u32 0,.string ⟨#[]⟩] 32)
  refine wpList_store_row rfl 32 (.tmp 9) (.tmp 47) rfl w11.heap.size #[.slice lo2 l2.length lc2,.int .u64 (a2:Int),.int .u64 (t2:Int),.int .u64 (k2:Int),.bool ph2,.int .u64 (pn2:Int),.bool mh2,.int .u64 (mn2:Int),.bool gh2,.int .u64 (gn2:Int),.slice nco2 nc2.length ncc2,.slice nbo2 nb2.length nbc2,.slice eo2 es2.length ec2,.int .u32 (f2:Int),.string XU2] rfl rfl 32 _ HZ (by kernel_rfl) rfl (by simp[Value.oneCell']) ?_
  obtain ⟨b9,hnb⟩:∃ x,w11.heap.size=x:=⟨_,rfl⟩
  obtain ⟨w12,hw⟩:∃ X,(w11.alloc (.cells #[.slice none 0 0,.int .u64 0,.int .u64 0,.int .u64 0,.bool false,.int .u64 0,.bool false,.int .u64 0,.bool false,.int .u64 0,.slice none 0 0,.slice none 0 0,.slice none 0 0,.int .u32 0,.string ⟨#[]⟩] 32)).setRow w11.heap.size #[.slice lo2 l2.length lc2,.int .u64 (a2:Int),.int .u64 (t2:Int),.int .u64 (k2:Int),.bool ph2,.int .u64 (pn2:Int),.bool mh2,.int .u64 (mn2:Int),.bool gh2,.int .u64 (gn2:Int),.slice nco2 nc2.length ncc2,.slice nbo2 nb2.length nbc2,.slice eo2 es2.length ec2,.int .u32 (f2:Int),.string XU2]=X:=⟨_,rfl⟩
  have hr:w12.heap[b9]? = some (.cells #[.slice lo2 l2.length lc2,.int .u64 (a2:Int),.int .u64 (t2:Int),.int .u64 (k2:Int),.bool ph2,.int .u64 (pn2:Int),.bool mh2,.int .u64 (mn2:Int),.bool gh2,.int .u64 (gn2:Int),.slice nco2 nc2.length ncc2,.slice nbo2 nb2.length nbc2,.slice eo2 es2.length ec2,.int .u32 (f2:Int),.string XU2] 32 (0,0)):=by rw[←hw,←hnb];exact setRow_heap _ _ _ _ _ _ HZ
  have hb:Below w11.heap.size w11 w12:=by rw[←hw];exact below_setRow (below_new _ _) (Nat.le_refl _) _
  have hns:W.heap.size≤b9:=by rw[←hnb];exact HVw11.out.size
  have hnx:w11.heap.size≤b9:=by rw[←hnb];exact Nat.le_refl _
  have n59:b5≠b9:=fun e=>by have h:=row_lt R55.out;omega
  have n69:b6≠b9:=fun e=>by have h:=row_lt R65.out;omega
  have n79:b7≠b9:=fun e=>by have h:=row_lt R75.out;omega
  have n89:b8≠b9:=fun e=>by have h:=row_lt R85.out;omega
  rw[hw,hnb]
  clear hw hnb HZ
  have HVw12:Hid (Below W.heap.size W w12):=hid (below_step HVw11.out hb)
  have R56:Hid (w12.heap[b5]? = some (.cells #[.slice lo2 l2.length lc2,.int .u64 0,.int .u64 0,.int .u64 (k2:Int),.bool ph2,.int .u64 (pn2:Int),.bool mh2,.int .u64 (mn2:Int),.bool gh2,.int .u64 (gn2:Int),.slice nco2 nc2.length ncc2,.slice nbo2 nb2.length nbc2,.slice eo2 es2.length ec2,.int .u32 (f2:Int),.string XU2] 32 (0,0))):=hid ((hb.block _ (row_lt R55.out)).trans R55.out)
  have R66:Hid (w12.heap[b6]? = some (.cells #[.slice lo2 l2.length lc2,.int .u64 (v2:Int),.int .u64 (t2:Int),.int .u64 (k2:Int),.bool ph2,.int .u64 (pn2:Int),.bool mh2,.int .u64 (mn2:Int),.bool gh2,.int .u64 (gn2:Int),.slice nco2 nc2.length ncc2,.slice nbo2 nb2.length nbc2,.slice eo2 es2.length ec2,.int .u32 (f2:Int),.string XU2] 32 (0,0))):=hid ((hb.block _ (row_lt R65.out)).trans R65.out)
  have R76:Hid (w12.heap[b7]? = some (.cells #[.slice lo3 l3.length lc3,.int .u64 (a3:Int),.int .u64 (t3:Int),.int .u64 (kz:Int),.bool bp3,.int .u64 (vp3:Int),.bool bm3,.int .u64 (vm3:Int),.bool bg3,.int .u64 (vg3:Int),.int .i32 sc3,.int .u64 (zc3:Int),.bool gp3,.int .i32 pb3.off,.slice po3 pb3.cs.length pc3,.string Xpu3,.bool gn3,.int .i32 nb3.off,.slice no3 nb3.cs.length nc3,.string Xnu3,.slice eo3 es3.length ec3,.int .u32 (f3:Int),.int .u64 (th3:Int),.string Xu3] 36 (0,0))):=hid ((hb.block _ (row_lt R75.out)).trans R75.out)
  have R86:Hid (w12.heap[b8]? = some (.cells #[.slice lo3 l3.length lc3,.int .u64 (a3:Int),.int .u64 (t3:Int),.int .u64 (k3:Int),.bool bp3,.int .u64 (vp3:Int),.bool bm3,.int .u64 (vm3:Int),.bool bg3,.int .u64 (vg3:Int),.int .i32 21,.int .u64 (zc3:Int),.bool gp3,.int .i32 pb3.off,.slice po3 pb3.cs.length pc3,.string Xpu3,.bool gn3,.int .i32 nb3.off,.slice no3 nb3.cs.length nc3,.string Xnu3,.slice eo3 es3.length ec3,.int .u32 (f3:Int),.int .u64 (th3:Int),.string Xu3] 36 (0,0))):=hid ((hb.block _ (row_lt R85.out)).trans R85.out)
  have R9n:Hid (w12.heap[b9]? = some (.cells #[.slice lo2 l2.length lc2,.int .u64 (a2:Int),.int .u64 (t2:Int),.int .u64 (k2:Int),.bool ph2,.int .u64 (pn2:Int),.bool mh2,.int .u64 (mn2:Int),.bool gh2,.int .u64 (gn2:Int),.slice nco2 nc2.length ncc2,.slice nbo2 nb2.length nbc2,.slice eo2 es2.length ec2,.int .u32 (f2:Int),.string XU2] 32 (0,0))):=hid hr
  clear hb hr
  go_upto_region 12 with fail
  refine wp_region_lit ?_
  refine wpList_plain rfl (fun K hK=>?_);go_simp;refine hK _ _ ?_;clear hK K
  have hc0:(w12.alloc (.cells #[] 80)).cell? ⟨b2,0,none⟩=some (.slice lo2 l2.length lc2):=row_cell (((HVw12.out.trans ((below_new w12 _).mono HVw12.out.size)).block _ (row_lt HR2.out)).trans HR2.out) (j:=0) rfl
  refine wpList_plain rfl (fun K hK=>?_);go_simp;refine hK _ _ ?_;clear hK K
  refine wpList_plain rfl (fun K hK=>?_);go_simp;refine hK _ _ ?_;clear hK K
  clear hc0
  have HE0:Hid (Below W.heap.size W (w12.alloc (.cells #[] 80))):=hid (below_step HVw12.out (below_new _ _))
  have HKR:Hid (KRels W (fun k=>P2 k∧k<W.heap.size) l2 lo2 0):=hid (KRels.lt _ _ _ (hi_kr HL2.out))
  have hlen:l2.length≤1000000:=HSM2.out.2.2
  refine wpList_app_kvs _ _ 22 rfl rfl Try.elKL (base:=w12.heap.size) (v := .slice (some ⟨w12.heap.size,0,none⟩) 0 0) (n:=0) (xs:=[]) (own_lit0 w12 _) rfl (KRels.upd (Upd.of_new (S:=fun _=>False) HE0.out) (fun _ _ h=>h) (fun _ h=>h) _ _ _ HKR.out) rfl (by unfold maxLen;omega) (by omega) (by simp) ?_
  intro v12 w13 css hcl hcr hown hgrow hg2
  have HCL:=hid hcl
  have HCR:=hid hcr
  have HO13:=hid hown
  have hb:Below w12.heap.size w12 w13:=(below_new w12 (.cells #[] 80)).trans ((Upd.of_grown hgrow).below (by simp) (fun k _ hk=>by have:w12.heap.size=k:=(by simpa [Value.ownBlock] using hk);omega))
  have HB1213:Hid (Below W.heap.size (w12.alloc (.cells #[] 80)) w13):=hid ((Upd.of_grown hgrow).below HE0.out.size (fun k _ hk=>by have:w12.heap.size=k:=(by simpa [Value.ownBlock] using hk);have:=HVw12.out.size;omega))
  clear hcl hcr hown hgrow hg2
  have HVw13:Hid (Below W.heap.size W w13):=hid (below_step HVw12.out hb)
  have R57:Hid (w13.heap[b5]? = some (.cells #[.slice lo2 l2.length lc2,.int .u64 0,.int .u64 0,.int .u64 (k2:Int),.bool ph2,.int .u64 (pn2:Int),.bool mh2,.int .u64 (mn2:Int),.bool gh2,.int .u64 (gn2:Int),.slice nco2 nc2.length ncc2,.slice nbo2 nb2.length nbc2,.slice eo2 es2.length ec2,.int .u32 (f2:Int),.string XU2] 32 (0,0))):=hid ((hb.block _ (row_lt R56.out)).trans R56.out)
  have R67:Hid (w13.heap[b6]? = some (.cells #[.slice lo2 l2.length lc2,.int .u64 (v2:Int),.int .u64 (t2:Int),.int .u64 (k2:Int),.bool ph2,.int .u64 (pn2:Int),.bool mh2,.int .u64 (mn2:Int),.bool gh2,.int .u64 (gn2:Int),.slice nco2 nc2.length ncc2,.slice nbo2 nb2.length nbc2,.slice eo2 es2.length ec2,.int .u32 (f2:Int),.string XU2] 32 (0,0))):=hid ((hb.block _ (row_lt R66.out)).trans R66.out)
  have R77:Hid (w13.heap[b7]? = some (.cells #[.slice lo3 l3.length lc3,.int .u64 (a3:Int),.int .u64 (t3:Int),.int .u64 (kz:Int),.bool bp3,.int .u64 (vp3:Int),.bool bm3,.int .u64 (vm3:Int),.bool bg3,.int .u64 (vg3:Int),.int .i32 sc3,.int .u64 (zc3:Int),.bool gp3,.int .i32 pb3.off,.slice po3 pb3.cs.length pc3,.string Xpu3,.bool gn3,.int .i32 nb3.off,.slice no3 nb3.cs.length nc3,.string Xnu3,.slice eo3 es3.length ec3,.int .u32 (f3:Int),.int .u64 (th3:Int),.string Xu3] 36 (0,0))):=hid ((hb.block _ (row_lt R76.out)).trans R76.out)
  have R87:Hid (w13.heap[b8]? = some (.cells #[.slice lo3 l3.length lc3,.int .u64 (a3:Int),.int .u64 (t3:Int),.int .u64 (k3:Int),.bool bp3,.int .u64 (vp3:Int),.bool bm3,.int .u64 (vm3:Int),.bool bg3,.int .u64 (vg3:Int),.int .i32 21,.int .u64 (zc3:Int),.bool gp3,.int .i32 pb3.off,.slice po3 pb3.cs.length pc3,.string Xpu3,.bool gn3,.int .i32 nb3.off,.slice no3 nb3.cs.length nc3,.string Xnu3,.slice eo3 es3.length ec3,.int .u32 (f3:Int),.int .u64 (th3:Int),.string Xu3] 36 (0,0))):=hid ((hb.block _ (row_lt R86.out)).trans R86.out)
  have R97:Hid (w13.heap[b9]? = some (.cells #[.slice lo2 l2.length lc2,.int .u64 (a2:Int),.int .u64 (t2:Int),.int .u64 (k2:Int),.bool ph2,.int .u64 (pn2:Int),.bool mh2,.int .u64 (mn2:Int),.bool gh2,.int .u64 (gn2:Int),.slice nco2 nc2.length ncc2,.slice nbo2 nb2.length nbc2,.slice eo2 es2.length ec2,.int .u32 (f2:Int),.string XU2] 32 (0,0))):=hid ((hb.block _ (row_lt R9n.out)).trans R9n.out)
  have HS1213:Hid (w12.heap.size≤w13.heap.size):=hid hb.size
  clear hb
  refine wpList_plain rfl (fun K hK=>?_);go_simp;refine hK _ _ ?_;clear hK K
  refine wpList_plain rfl (fun K hK=>?_);go_simp;refine hK _ _ ?_;clear hK K
  refine wpList_plain rfl (fun K hK=>?_);go_simp;refine hK _ _ ?_;clear hK K
  have HNB2:Hid (∀ k,v12.ownBlock=some k→w12.heap.size≤k):=hid (fun k hk=>(HO13.out.lt k hk).1)
  refine wpList_app_lit (m:=2) (c:=2) (cs:=qcell++qcell) rfl _ _ 22 rfl Try.elKL (by decide) HO13.out rfl (by omega) rfl rfl (by decide) (by unfold maxLen;omega) (by omega) HS1213.out ?_
  intro g14 cap14 w14 hown hgrow hg
  have hg14:w12.heap.size≤g14:=by rcases hg with h|h;exact HNB2.out _ h;exact Nat.le_trans HS1213.out h
  have hb:Below w12.heap.size w13 w14:=((below_new w13 (.cells (qcell++qcell).toArray 80)).mono HS1213.out).trans ((Upd.of_grown hgrow).below (by simp;have:=HS1213.out;omega) (fun k _ hk=>HNB2.out k hk))
  have HO14:=hid hown
  have HG14:=hid hg14
  have HBB:=hid hb
  clear hown hgrow hg hg14 hb
  have HV14:Hid (Below W.heap.size W w14):=hid (HVw13.out.trans (HBB.out.mono HVw12.out.size))
  have R58:Hid (w14.heap[b5]? = some (.cells #[.slice lo2 l2.length lc2,.int .u64 0,.int .u64 0,.int .u64 (k2:Int),.bool ph2,.int .u64 (pn2:Int),.bool mh2,.int .u64 (mn2:Int),.bool gh2,.int .u64 (gn2:Int),.slice nco2 nc2.length ncc2,.slice nbo2 nb2.length nbc2,.slice eo2 es2.length ec2,.int .u32 (f2:Int),.string XU2] 32 (0,0))):=hid ((HBB.out.block _ (by have h:=row_lt R56.out;omega)).trans R57.out)
  have R68:Hid (w14.heap[b6]? = some (.cells #[.slice lo2 l2.length lc2,.int .u64 (v2:Int),.int .u64 (t2:Int),.int .u64 (k2:Int),.bool ph2,.int .u64 (pn2:Int),.bool mh2,.int .u64 (mn2:Int),.bool gh2,.int .u64 (gn2:Int),.slice nco2 nc2.length ncc2,.slice nbo2 nb2.length nbc2,.slice eo2 es2.length ec2,.int .u32 (f2:Int),.string XU2] 32 (0,0))):=hid ((HBB.out.block _ (by have h:=row_lt R66.out;omega)).trans R67.out)
  have R78:Hid (w14.heap[b7]? = some (.cells #[.slice lo3 l3.length lc3,.int .u64 (a3:Int),.int .u64 (t3:Int),.int .u64 (kz:Int),.bool bp3,.int .u64 (vp3:Int),.bool bm3,.int .u64 (vm3:Int),.bool bg3,.int .u64 (vg3:Int),.int .i32 sc3,.int .u64 (zc3:Int),.bool gp3,.int .i32 pb3.off,.slice po3 pb3.cs.length pc3,.string Xpu3,.bool gn3,.int .i32 nb3.off,.slice no3 nb3.cs.length nc3,.string Xnu3,.slice eo3 es3.length ec3,.int .u32 (f3:Int),.int .u64 (th3:Int),.string Xu3] 36 (0,0))):=hid ((HBB.out.block _ (by have h:=row_lt R76.out;omega)).trans R77.out)
  have R88:Hid (w14.heap[b8]? = some (.cells #[.slice lo3 l3.length lc3,.int .u64 (a3:Int),.int .u64 (t3:Int),.int .u64 (k3:Int),.bool bp3,.int .u64 (vp3:Int),.bool bm3,.int .u64 (vm3:Int),.bool bg3,.int .u64 (vg3:Int),.int .i32 21,.int .u64 (zc3:Int),.bool gp3,.int .i32 pb3.off,.slice po3 pb3.cs.length pc3,.string Xpu3,.bool gn3,.int .i32 nb3.off,.slice no3 nb3.cs.length nc3,.string Xnu3,.slice eo3 es3.length ec3,.int .u32 (f3:Int),.int .u64 (th3:Int),.string Xu3] 36 (0,0))):=hid ((HBB.out.block _ (by have h:=row_lt R86.out;omega)).trans R87.out)
  have R98:Hid (w14.heap[b9]? = some (.cells #[.slice lo2 l2.length lc2,.int .u64 (a2:Int),.int .u64 (t2:Int),.int .u64 (k2:Int),.bool ph2,.int .u64 (pn2:Int),.bool mh2,.int .u64 (mn2:Int),.bool gh2,.int .u64 (gn2:Int),.slice nco2 nc2.length ncc2,.slice nbo2 nb2.length nbc2,.slice eo2 es2.length ec2,.int .u32 (f2:Int),.string XU2] 32 (0,0))):=hid ((HBB.out.block _ (by have h:=row_lt R9n.out;omega)).trans R97.out)
  have HVw14:=HV14
  have hc90:w14.cell? ⟨b9,0,none⟩=some (.slice lo2 l2.length lc2):=row_cell R98.out (j:=0) rfl
  have hf90:w14.frozen? ⟨b9,0,none⟩=false:=row_thaw R98.out 0
  refine wpList_plain rfl (fun K hK=>?_);go_simp;refine hK _ _ ?_;clear hK K
  refine wpList_plain rfl (fun K hK=>?_);go_simp;refine hK _ _ ?_;clear hK K
  clear hc90 hf90
  obtain ⟨m,hm⟩:∃ m,l2.length+2=m:=⟨_,rfl⟩
  rw[hm]
  have HM:=hid hm
  clear hm
  have HO14b:Hid (w14.ownsRow w12.heap.size 80 11 (.slice (some ⟨g14,0,none⟩) (l2.length+2) cap14) (l2.length+2) (css.flatten++(qcell++qcell))):=hid (by have h:=HO14.out;simp only[Nat.zero_add,List.nil_append] at h;exact h)
  have hb9:b9<w12.heap.size:=row_lt R9n.out
  obtain ⟨w15,hw⟩:∃ X,(w14.setCell ⟨b9,0,none⟩ (.slice (some ⟨g14,0,none⟩) m cap14))=X:=⟨_,rfl⟩
  have hu:Upd (fun k=>k=b9) w14 w15:=by rw[←hw];exact (Upd.set w14 ⟨b9,0,none⟩ (.slice (some ⟨g14,0,none⟩) m cap14))
  have HVw15:Hid (Below W.heap.size W w15):=hid (HVw14.out.trans (hu.below HVw14.out.size (fun k _ h=>by have h:k=b9:=h;omega)))
  have R59:Hid (w15.heap[b5]? = some (.cells #[.slice lo2 l2.length lc2,.int .u64 0,.int .u64 0,.int .u64 (k2:Int),.bool ph2,.int .u64 (pn2:Int),.bool mh2,.int .u64 (mn2:Int),.bool gh2,.int .u64 (gn2:Int),.slice nco2 nc2.length ncc2,.slice nbo2 nb2.length nbc2,.slice eo2 es2.length ec2,.int .u32 (f2:Int),.string XU2] 32 (0,0))):=hid ((hu.block _ (row_lt R58.out) (fun e=>by have e:b5=b9:=e;omega)).trans R58.out)
  have R69:Hid (w15.heap[b6]? = some (.cells #[.slice lo2 l2.length lc2,.int .u64 (v2:Int),.int .u64 (t2:Int),.int .u64 (k2:Int),.bool ph2,.int .u64 (pn2:Int),.bool mh2,.int .u64 (mn2:Int),.bool gh2,.int .u64 (gn2:Int),.slice nco2 nc2.length ncc2,.slice nbo2 nb2.length nbc2,.slice eo2 es2.length ec2,.int .u32 (f2:Int),.string XU2] 32 (0,0))):=hid ((hu.block _ (row_lt R68.out) (fun e=>by have e:b6=b9:=e;omega)).trans R68.out)
  have R79:Hid (w15.heap[b7]? = some (.cells #[.slice lo3 l3.length lc3,.int .u64 (a3:Int),.int .u64 (t3:Int),.int .u64 (kz:Int),.bool bp3,.int .u64 (vp3:Int),.bool bm3,.int .u64 (vm3:Int),.bool bg3,.int .u64 (vg3:Int),.int .i32 sc3,.int .u64 (zc3:Int),.bool gp3,.int .i32 pb3.off,.slice po3 pb3.cs.length pc3,.string Xpu3,.bool gn3,.int .i32 nb3.off,.slice no3 nb3.cs.length nc3,.string Xnu3,.slice eo3 es3.length ec3,.int .u32 (f3:Int),.int .u64 (th3:Int),.string Xu3] 36 (0,0))):=hid ((hu.block _ (row_lt R78.out) (fun e=>by have e:b7=b9:=e;omega)).trans R78.out)
  have R89:Hid (w15.heap[b8]? = some (.cells #[.slice lo3 l3.length lc3,.int .u64 (a3:Int),.int .u64 (t3:Int),.int .u64 (k3:Int),.bool bp3,.int .u64 (vp3:Int),.bool bm3,.int .u64 (vm3:Int),.bool bg3,.int .u64 (vg3:Int),.int .i32 21,.int .u64 (zc3:Int),.bool gp3,.int .i32 pb3.off,.slice po3 pb3.cs.length pc3,.string Xpu3,.bool gn3,.int .i32 nb3.off,.slice no3 nb3.cs.length nc3,.string Xnu3,.slice eo3 es3.length ec3,.int .u32 (f3:Int),.int .u64 (th3:Int),.string Xu3] 36 (0,0))):=hid ((hu.block _ (row_lt R88.out) (fun e=>by have e:b8=b9:=e;omega)).trans R88.out)
  have R99:Hid (w15.heap[b9]? = some (.cells #[.slice (some ⟨g14,0,none⟩) m cap14,.int .u64 (a2:Int),.int .u64 (t2:Int),.int .u64 (k2:Int),.bool ph2,.int .u64 (pn2:Int),.bool mh2,.int .u64 (mn2:Int),.bool gh2,.int .u64 (gn2:Int),.slice nco2 nc2.length ncc2,.slice nbo2 nb2.length nbc2,.slice eo2 es2.length ec2,.int .u32 (f2:Int),.string XU2] 32 (0,0))):=hid (by rw[←hw];exact row_set (R98.out) 0 _)
  have HO15:Hid (w15.ownsRow w12.heap.size 80 11 (.slice (some ⟨g14,0,none⟩) (l2.length+2) cap14) (l2.length+2) (css.flatten++(qcell++qcell))):=hid (hu.own HO14b.out (fun k hk e=>by have e:k=b9:=e;have:=(HO14b.out.lt k hk).1;omega))
  have HB1415:Hid (Below W.heap.size w14 w15):=hid (hu.below HVw14.out.size (fun k _ h=>by have h:k=b9:=h;omega))
  rw[hw]
  clear hw hu
  have HKQ:Hid (KRels w15 (fun _=>True) (l2++[qq,qq]) (some ⟨g14,0,none⟩) 0):=hid (krels_qq ((HB1213.out.trans (HBB.out.mono HVw12.out.size)).trans HB1415.out) (fun k hk=>hk.2) HCL.out HCR.out HO15.out)
  clear HO14 HO14b HO15 HO13 HCL HCR HKR HB1213 HB1415 HBB hlen hb9
  have HXw15:Hid (Below w15.heap.size w15 w15):=hid (Below.refl _ _)
  go_upto_region 13 with fail
  refine wp_region_lit ?_
  refine wpList_plain rfl (fun K hK=>?_)
  refine wp_load_mid 32 (.tmp 2) rfl b2 0 rfl [.slice lo2 l2.length lc2,.int .u64 (a2:Int),.int .u64 (t2:Int),.int .u64 (k2:Int),.bool ph2,.int .u64 (pn2:Int),.bool mh2,.int .u64 (mn2:Int),.bool gh2,.int .u64 (gn2:Int),.slice nco2 nc2.length ncc2,.slice nbo2 nb2.length nbc2,.slice eo2 es2.length ec2,.int .u32 (f2:Int),.string XU2] _ (range_rowc ((HVw15.out.block _ (row_lt HR2.out)).trans HR2.out)) Try.underlying32 rfl (by kernel_rfl) (hK _ _ ?_)
  clear hK K
  refine wpList_plain rfl (fun K hK=>?_);go_simp;refine hK _ _ ?_;clear hK K
  have HZ:=heap_alloc_new w15 (.cells #[.slice none 0 0,.int .u64 0,.int .u64 0,.int .u64 0,.bool false,.int .u64 0,.bool false,.int .u64 0,.bool false,.int .u64 0,.slice none 0 0,.slice none 0 0,.slice none 0 0,.int .u32 0,.string ⟨#[]⟩] 32)
  refine wpList_store_row rfl 32 (.tmp 10) (.tmp 57) rfl w15.heap.size #[.slice lo2 l2.length lc2,.int .u64 (a2:Int),.int .u64 (t2:Int),.int .u64 (k2:Int),.bool ph2,.int .u64 (pn2:Int),.bool mh2,.int .u64 (mn2:Int),.bool gh2,.int .u64 (gn2:Int),.slice nco2 nc2.length ncc2,.slice nbo2 nb2.length nbc2,.slice eo2 es2.length ec2,.int .u32 (f2:Int),.string XU2] rfl rfl 32 _ HZ (by kernel_rfl) rfl (by simp[Value.oneCell']) ?_
  obtain ⟨b10,hnb⟩:∃ x,w15.heap.size=x:=⟨_,rfl⟩
  obtain ⟨w16,hw⟩:∃ X,(w15.alloc (.cells #[.slice none 0 0,.int .u64 0,.int .u64 0,.int .u64 0,.bool false,.int .u64 0,.bool false,.int .u64 0,.bool false,.int .u64 0,.slice none 0 0,.slice none 0 0,.slice none 0 0,.int .u32 0,.string ⟨#[]⟩] 32)).setRow w15.heap.size #[.slice lo2 l2.length lc2,.int .u64 (a2:Int),.int .u64 (t2:Int),.int .u64 (k2:Int),.bool ph2,.int .u64 (pn2:Int),.bool mh2,.int .u64 (mn2:Int),.bool gh2,.int .u64 (gn2:Int),.slice nco2 nc2.length ncc2,.slice nbo2 nb2.length nbc2,.slice eo2 es2.length ec2,.int .u32 (f2:Int),.string XU2]=X:=⟨_,rfl⟩
  have hr:w16.heap[b10]? = some (.cells #[.slice lo2 l2.length lc2,.int .u64 (a2:Int),.int .u64 (t2:Int),.int .u64 (k2:Int),.bool ph2,.int .u64 (pn2:Int),.bool mh2,.int .u64 (mn2:Int),.bool gh2,.int .u64 (gn2:Int),.slice nco2 nc2.length ncc2,.slice nbo2 nb2.length nbc2,.slice eo2 es2.length ec2,.int .u32 (f2:Int),.string XU2] 32 (0,0)):=by rw[←hw,←hnb];exact setRow_heap _ _ _ _ _ _ HZ
  have hb:Below w15.heap.size w15 w16:=by rw[←hw];exact below_setRow (below_new _ _) (Nat.le_refl _) _
  have hns:W.heap.size≤b10:=by rw[←hnb];exact HVw15.out.size
  have hnx:w15.heap.size≤b10:=by rw[←hnb];exact Nat.le_refl _
  have n510:b5≠b10:=fun e=>by have h:=row_lt R59.out;omega
  have n610:b6≠b10:=fun e=>by have h:=row_lt R69.out;omega
  have n710:b7≠b10:=fun e=>by have h:=row_lt R79.out;omega
  have n810:b8≠b10:=fun e=>by have h:=row_lt R89.out;omega
  have n910:b9≠b10:=fun e=>by have h:=row_lt R99.out;omega
  rw[hw,hnb]
  clear hw hnb HZ
  have HVw16:Hid (Below W.heap.size W w16):=hid (below_step HVw15.out hb)
  have R510:Hid (w16.heap[b5]? = some (.cells #[.slice lo2 l2.length lc2,.int .u64 0,.int .u64 0,.int .u64 (k2:Int),.bool ph2,.int .u64 (pn2:Int),.bool mh2,.int .u64 (mn2:Int),.bool gh2,.int .u64 (gn2:Int),.slice nco2 nc2.length ncc2,.slice nbo2 nb2.length nbc2,.slice eo2 es2.length ec2,.int .u32 (f2:Int),.string XU2] 32 (0,0))):=hid ((hb.block _ (row_lt R59.out)).trans R59.out)
  have R610:Hid (w16.heap[b6]? = some (.cells #[.slice lo2 l2.length lc2,.int .u64 (v2:Int),.int .u64 (t2:Int),.int .u64 (k2:Int),.bool ph2,.int .u64 (pn2:Int),.bool mh2,.int .u64 (mn2:Int),.bool gh2,.int .u64 (gn2:Int),.slice nco2 nc2.length ncc2,.slice nbo2 nb2.length nbc2,.slice eo2 es2.length ec2,.int .u32 (f2:Int),.string XU2] 32 (0,0))):=hid ((hb.block _ (row_lt R69.out)).trans R69.out)
  have R710:Hid (w16.heap[b7]? = some (.cells #[.slice lo3 l3.length lc3,.int .u64 (a3:Int),.int .u64 (t3:Int),.int .u64 (kz:Int),.bool bp3,.int .u64 (vp3:Int),.bool bm3,.int .u64 (vm3:Int),.bool bg3,.int .u64 (vg3:Int),.int .i32 sc3,.int .u64 (zc3:Int),.bool gp3,.int .i32 pb3.off,.slice po3 pb3.cs.length pc3,.string Xpu3,.bool gn3,.int .i32 nb3.off,.slice no3 nb3.cs.length nc3,.string Xnu3,.slice eo3 es3.length ec3,.int .u32 (f3:Int),.int .u64 (th3:Int),.string Xu3] 36 (0,0))):=hid ((hb.block _ (row_lt R79.out)).trans R79.out)
  have R810:Hid (w16.heap[b8]? = some (.cells #[.slice lo3 l3.length lc3,.int .u64 (a3:Int),.int .u64 (t3:Int),.int .u64 (k3:Int),.bool bp3,.int .u64 (vp3:Int),.bool bm3,.int .u64 (vm3:Int),.bool bg3,.int .u64 (vg3:Int),.int .i32 21,.int .u64 (zc3:Int),.bool gp3,.int .i32 pb3.off,.slice po3 pb3.cs.length pc3,.string Xpu3,.bool gn3,.int .i32 nb3.off,.slice no3 nb3.cs.length nc3,.string Xnu3,.slice eo3 es3.length ec3,.int .u32 (f3:Int),.int .u64 (th3:Int),.string Xu3] 36 (0,0))):=hid ((hb.block _ (row_lt R89.out)).trans R89.out)
  have R910:Hid (w16.heap[b9]? = some (.cells #[.slice (some ⟨g14,0,none⟩) m cap14,.int .u64 (a2:Int),.int .u64 (t2:Int),.int .u64 (k2:Int),.bool ph2,.int .u64 (pn2:Int),.bool mh2,.int .u64 (mn2:Int),.bool gh2,.int .u64 (gn2:Int),.slice nco2 nc2.length ncc2,.slice nbo2 nb2.length nbc2,.slice eo2 es2.length ec2,.int .u32 (f2:Int),.string XU2] 32 (0,0))):=hid ((hb.block _ (row_lt R99.out)).trans R99.out)
  have HXw16:Hid (Below w15.heap.size w15 w16):=hid (below_step HXw15.out hb)
  have R10n:Hid (w16.heap[b10]? = some (.cells #[.slice lo2 l2.length lc2,.int .u64 (a2:Int),.int .u64 (t2:Int),.int .u64 (k2:Int),.bool ph2,.int .u64 (pn2:Int),.bool mh2,.int .u64 (mn2:Int),.bool gh2,.int .u64 (gn2:Int),.slice nco2 nc2.length ncc2,.slice nbo2 nb2.length nbc2,.slice eo2 es2.length ec2,.int .u32 (f2:Int),.string XU2] 32 (0,0))):=hid hr
  clear hb hr
  have hc103:w16.cell? ⟨b10,3,none⟩=some (.int .u64 (k2:Int)):=row_cell R10n.out (j:=3) rfl
  have hf103:w16.frozen? ⟨b10,3,none⟩=false:=row_thaw R10n.out 3
  go_upto_region 15 with fail
  clear hc103 hf103
  obtain ⟨w17,hw⟩:∃ X,(w16.setCell ⟨b10,3,none⟩ (.int .u64 (kc:Int)))=X:=⟨_,rfl⟩
  have hu:Upd (fun k=>k=b10) w16 w17:=by rw[←hw];exact (Upd.set w16 ⟨b10,3,none⟩ (.int .u64 (kc:Int)))
  have HVw17:Hid (Below W.heap.size W w17):=hid (HVw16.out.trans (hu.below HVw16.out.size (fun k _ h=>by have h:k=b10:=h;omega)))
  have R511:Hid (w17.heap[b5]? = some (.cells #[.slice lo2 l2.length lc2,.int .u64 0,.int .u64 0,.int .u64 (k2:Int),.bool ph2,.int .u64 (pn2:Int),.bool mh2,.int .u64 (mn2:Int),.bool gh2,.int .u64 (gn2:Int),.slice nco2 nc2.length ncc2,.slice nbo2 nb2.length nbc2,.slice eo2 es2.length ec2,.int .u32 (f2:Int),.string XU2] 32 (0,0))):=hid ((hu.block _ (row_lt R510.out) (fun e=>by have e:b5=b10:=e;omega)).trans R510.out)
  have R611:Hid (w17.heap[b6]? = some (.cells #[.slice lo2 l2.length lc2,.int .u64 (v2:Int),.int .u64 (t2:Int),.int .u64 (k2:Int),.bool ph2,.int .u64 (pn2:Int),.bool mh2,.int .u64 (mn2:Int),.bool gh2,.int .u64 (gn2:Int),.slice nco2 nc2.length ncc2,.slice nbo2 nb2.length nbc2,.slice eo2 es2.length ec2,.int .u32 (f2:Int),.string XU2] 32 (0,0))):=hid ((hu.block _ (row_lt R610.out) (fun e=>by have e:b6=b10:=e;omega)).trans R610.out)
  have R711:Hid (w17.heap[b7]? = some (.cells #[.slice lo3 l3.length lc3,.int .u64 (a3:Int),.int .u64 (t3:Int),.int .u64 (kz:Int),.bool bp3,.int .u64 (vp3:Int),.bool bm3,.int .u64 (vm3:Int),.bool bg3,.int .u64 (vg3:Int),.int .i32 sc3,.int .u64 (zc3:Int),.bool gp3,.int .i32 pb3.off,.slice po3 pb3.cs.length pc3,.string Xpu3,.bool gn3,.int .i32 nb3.off,.slice no3 nb3.cs.length nc3,.string Xnu3,.slice eo3 es3.length ec3,.int .u32 (f3:Int),.int .u64 (th3:Int),.string Xu3] 36 (0,0))):=hid ((hu.block _ (row_lt R710.out) (fun e=>by have e:b7=b10:=e;omega)).trans R710.out)
  have R811:Hid (w17.heap[b8]? = some (.cells #[.slice lo3 l3.length lc3,.int .u64 (a3:Int),.int .u64 (t3:Int),.int .u64 (k3:Int),.bool bp3,.int .u64 (vp3:Int),.bool bm3,.int .u64 (vm3:Int),.bool bg3,.int .u64 (vg3:Int),.int .i32 21,.int .u64 (zc3:Int),.bool gp3,.int .i32 pb3.off,.slice po3 pb3.cs.length pc3,.string Xpu3,.bool gn3,.int .i32 nb3.off,.slice no3 nb3.cs.length nc3,.string Xnu3,.slice eo3 es3.length ec3,.int .u32 (f3:Int),.int .u64 (th3:Int),.string Xu3] 36 (0,0))):=hid ((hu.block _ (row_lt R810.out) (fun e=>by have e:b8=b10:=e;omega)).trans R810.out)
  have R911:Hid (w17.heap[b9]? = some (.cells #[.slice (some ⟨g14,0,none⟩) m cap14,.int .u64 (a2:Int),.int .u64 (t2:Int),.int .u64 (k2:Int),.bool ph2,.int .u64 (pn2:Int),.bool mh2,.int .u64 (mn2:Int),.bool gh2,.int .u64 (gn2:Int),.slice nco2 nc2.length ncc2,.slice nbo2 nb2.length nbc2,.slice eo2 es2.length ec2,.int .u32 (f2:Int),.string XU2] 32 (0,0))):=hid ((hu.block _ (row_lt R910.out) (fun e=>by have e:b9=b10:=e;omega)).trans R910.out)
  have R1011:Hid (w17.heap[b10]? = some (.cells #[.slice lo2 l2.length lc2,.int .u64 (a2:Int),.int .u64 (t2:Int),.int .u64 (kc:Int),.bool ph2,.int .u64 (pn2:Int),.bool mh2,.int .u64 (mn2:Int),.bool gh2,.int .u64 (gn2:Int),.slice nco2 nc2.length ncc2,.slice nbo2 nb2.length nbc2,.slice eo2 es2.length ec2,.int .u32 (f2:Int),.string XU2] 32 (0,0))):=hid (by rw[←hw];exact row_set (R10n.out) 3 _)
  have HXw17:Hid (Below w15.heap.size w15 w17):=hid (HXw16.out.trans (hu.below HXw16.out.size (fun k _ h=>by have h:k=b10:=h;omega)))
  rw[hw]
  clear hw hu
  have HF2:=hid (hist_fine HG2.out)
  have HF3:=hid (exp_fine HG3.out)
  have HPF:=hid (pointR_fine HF2.out.1)
  have hka:k2<18446744073709551616:=HA2.out.2.2.1
  have hta:t2<18446744073709551616:=HA2.out.2.1
  have haa:a2<18446744073709551616:=HA2.out.1
  have hkb:k3<18446744073709551616:=HA3.out.2.2.2.2.2.1
  have HKF:Hid (ksfit l2∧kslim l2):=hid ⟨HA2.out.2.2.2.2.2.2.2.2.2.2.1,HA2.out.2.2.2.2.2.2.2.2.2.2.2.1⟩
  have HVB:Hid (v2<18446744073709551616∧kz<18446744073709551616∧kc<18446744073709551616∧kz≠k3∧kc≠k2):=hid (by have h1:=HV2_.out;have h2:=HKZ.out;have h3:=HKC.out;omega)
  have HSC3:Hid (-2147483648≤sc3∧sc3≤2147483647):=hid HA3.out.2.2.2.2.2.2.2.1
  refine wp_region_lit ?_
  refine wpList_plain rfl (fun K hK=>?_);go_simp
  refine (first18 w17).mono ?_;rintro e w18 ⟨rfl,hb⟩
  have HVw18:Hid (Below W.heap.size W w18):=hid (below_step HVw17.out hb)
  have R512:Hid (w18.heap[b5]? = some (.cells #[.slice lo2 l2.length lc2,.int .u64 0,.int .u64 0,.int .u64 (k2:Int),.bool ph2,.int .u64 (pn2:Int),.bool mh2,.int .u64 (mn2:Int),.bool gh2,.int .u64 (gn2:Int),.slice nco2 nc2.length ncc2,.slice nbo2 nb2.length nbc2,.slice eo2 es2.length ec2,.int .u32 (f2:Int),.string XU2] 32 (0,0))):=hid ((hb.block _ (row_lt R511.out)).trans R511.out)
  have R612:Hid (w18.heap[b6]? = some (.cells #[.slice lo2 l2.length lc2,.int .u64 (v2:Int),.int .u64 (t2:Int),.int .u64 (k2:Int),.bool ph2,.int .u64 (pn2:Int),.bool mh2,.int .u64 (mn2:Int),.bool gh2,.int .u64 (gn2:Int),.slice nco2 nc2.length ncc2,.slice nbo2 nb2.length nbc2,.slice eo2 es2.length ec2,.int .u32 (f2:Int),.string XU2] 32 (0,0))):=hid ((hb.block _ (row_lt R611.out)).trans R611.out)
  have R712:Hid (w18.heap[b7]? = some (.cells #[.slice lo3 l3.length lc3,.int .u64 (a3:Int),.int .u64 (t3:Int),.int .u64 (kz:Int),.bool bp3,.int .u64 (vp3:Int),.bool bm3,.int .u64 (vm3:Int),.bool bg3,.int .u64 (vg3:Int),.int .i32 sc3,.int .u64 (zc3:Int),.bool gp3,.int .i32 pb3.off,.slice po3 pb3.cs.length pc3,.string Xpu3,.bool gn3,.int .i32 nb3.off,.slice no3 nb3.cs.length nc3,.string Xnu3,.slice eo3 es3.length ec3,.int .u32 (f3:Int),.int .u64 (th3:Int),.string Xu3] 36 (0,0))):=hid ((hb.block _ (row_lt R711.out)).trans R711.out)
  have R812:Hid (w18.heap[b8]? = some (.cells #[.slice lo3 l3.length lc3,.int .u64 (a3:Int),.int .u64 (t3:Int),.int .u64 (k3:Int),.bool bp3,.int .u64 (vp3:Int),.bool bm3,.int .u64 (vm3:Int),.bool bg3,.int .u64 (vg3:Int),.int .i32 21,.int .u64 (zc3:Int),.bool gp3,.int .i32 pb3.off,.slice po3 pb3.cs.length pc3,.string Xpu3,.bool gn3,.int .i32 nb3.off,.slice no3 nb3.cs.length nc3,.string Xnu3,.slice eo3 es3.length ec3,.int .u32 (f3:Int),.int .u64 (th3:Int),.string Xu3] 36 (0,0))):=hid ((hb.block _ (row_lt R811.out)).trans R811.out)
  have R912:Hid (w18.heap[b9]? = some (.cells #[.slice (some ⟨g14,0,none⟩) m cap14,.int .u64 (a2:Int),.int .u64 (t2:Int),.int .u64 (k2:Int),.bool ph2,.int .u64 (pn2:Int),.bool mh2,.int .u64 (mn2:Int),.bool gh2,.int .u64 (gn2:Int),.slice nco2 nc2.length ncc2,.slice nbo2 nb2.length nbc2,.slice eo2 es2.length ec2,.int .u32 (f2:Int),.string XU2] 32 (0,0))):=hid ((hb.block _ (row_lt R911.out)).trans R911.out)
  have R1012:Hid (w18.heap[b10]? = some (.cells #[.slice lo2 l2.length lc2,.int .u64 (a2:Int),.int .u64 (t2:Int),.int .u64 (kc:Int),.bool ph2,.int .u64 (pn2:Int),.bool mh2,.int .u64 (mn2:Int),.bool gh2,.int .u64 (gn2:Int),.slice nco2 nc2.length ncc2,.slice nbo2 nb2.length nbc2,.slice eo2 es2.length ec2,.int .u32 (f2:Int),.string XU2] 32 (0,0))):=hid ((hb.block _ (row_lt R1011.out)).trans R1011.out)
  have HXw18:Hid (Below w15.heap.size w15 w18):=hid (below_step HXw17.out hb)
  clear hb
  refine hK _ _ ?_;clear hK K
  refine wpList_plain rfl (fun K hK=>?_);go_simp;refine hK _ _ ?_;clear hK K
  refine BigFrame.wpList_want (by rfl) (fun K hK=>?_)
  refine wp_load_mid 32 (.tmp 5) rfl b5 0 rfl [.slice lo2 l2.length lc2,.int .u64 0,.int .u64 0,.int .u64 (k2:Int),.bool ph2,.int .u64 (pn2:Int),.bool mh2,.int .u64 (mn2:Int),.bool gh2,.int .u64 (gn2:Int),.slice nco2 nc2.length ncc2,.slice nbo2 nb2.length nbc2,.slice eo2 es2.length ec2,.int .u32 (f2:Int),.string XU2] _ (range_rowc R512.out) Try.underlying32 rfl (by kernel_rfl) (hK _ _ ?_)
  clear hK K
  refine BigFrame.wpList_want (by rfl) (fun K hK=>?_);go_simp
  refine (hist_any ((0,(0,(k2,((ph2,pn2),(nc2,(nb2,(es2,(l2,(f2,((mh2,mn2),(gh2,gn2))))))))))),u2) [.slice lo2 l2.length lc2,.int .u64 0,.int .u64 0,.int .u64 (k2:Int),.bool ph2,.int .u64 (pn2:Int),.bool mh2,.int .u64 (mn2:Int),.bool gh2,.int .u64 (gn2:Int),.slice nco2 nc2.length ncc2,.slice nbo2 nb2.length nbc2,.slice eo2 es2.length ec2,.int .u32 (f2:Int),.string XU2] _ w18 (hi_argre HA2.out (by omega) (by omega) hka) (hi_re (hiCel.upd (Upd.of_new (S:=fun _=>False) HVw18.out) (fun _ _ h=>h) (fun _ h=>h) HL2.out) 0 0 k2) HSM2.out (r:=4) (hid hist_4)).mono ?_;rintro e w19 ⟨rfl,hb⟩
  have HVw19:Hid (Below W.heap.size W w19):=hid (below_step HVw18.out hb)
  have R513:Hid (w19.heap[b5]? = some (.cells #[.slice lo2 l2.length lc2,.int .u64 0,.int .u64 0,.int .u64 (k2:Int),.bool ph2,.int .u64 (pn2:Int),.bool mh2,.int .u64 (mn2:Int),.bool gh2,.int .u64 (gn2:Int),.slice nco2 nc2.length ncc2,.slice nbo2 nb2.length nbc2,.slice eo2 es2.length ec2,.int .u32 (f2:Int),.string XU2] 32 (0,0))):=hid ((hb.block _ (row_lt R512.out)).trans R512.out)
  have R613:Hid (w19.heap[b6]? = some (.cells #[.slice lo2 l2.length lc2,.int .u64 (v2:Int),.int .u64 (t2:Int),.int .u64 (k2:Int),.bool ph2,.int .u64 (pn2:Int),.bool mh2,.int .u64 (mn2:Int),.bool gh2,.int .u64 (gn2:Int),.slice nco2 nc2.length ncc2,.slice nbo2 nb2.length nbc2,.slice eo2 es2.length ec2,.int .u32 (f2:Int),.string XU2] 32 (0,0))):=hid ((hb.block _ (row_lt R612.out)).trans R612.out)
  have R713:Hid (w19.heap[b7]? = some (.cells #[.slice lo3 l3.length lc3,.int .u64 (a3:Int),.int .u64 (t3:Int),.int .u64 (kz:Int),.bool bp3,.int .u64 (vp3:Int),.bool bm3,.int .u64 (vm3:Int),.bool bg3,.int .u64 (vg3:Int),.int .i32 sc3,.int .u64 (zc3:Int),.bool gp3,.int .i32 pb3.off,.slice po3 pb3.cs.length pc3,.string Xpu3,.bool gn3,.int .i32 nb3.off,.slice no3 nb3.cs.length nc3,.string Xnu3,.slice eo3 es3.length ec3,.int .u32 (f3:Int),.int .u64 (th3:Int),.string Xu3] 36 (0,0))):=hid ((hb.block _ (row_lt R712.out)).trans R712.out)
  have R813:Hid (w19.heap[b8]? = some (.cells #[.slice lo3 l3.length lc3,.int .u64 (a3:Int),.int .u64 (t3:Int),.int .u64 (k3:Int),.bool bp3,.int .u64 (vp3:Int),.bool bm3,.int .u64 (vm3:Int),.bool bg3,.int .u64 (vg3:Int),.int .i32 21,.int .u64 (zc3:Int),.bool gp3,.int .i32 pb3.off,.slice po3 pb3.cs.length pc3,.string Xpu3,.bool gn3,.int .i32 nb3.off,.slice no3 nb3.cs.length nc3,.string Xnu3,.slice eo3 es3.length ec3,.int .u32 (f3:Int),.int .u64 (th3:Int),.string Xu3] 36 (0,0))):=hid ((hb.block _ (row_lt R812.out)).trans R812.out)
  have R913:Hid (w19.heap[b9]? = some (.cells #[.slice (some ⟨g14,0,none⟩) m cap14,.int .u64 (a2:Int),.int .u64 (t2:Int),.int .u64 (k2:Int),.bool ph2,.int .u64 (pn2:Int),.bool mh2,.int .u64 (mn2:Int),.bool gh2,.int .u64 (gn2:Int),.slice nco2 nc2.length ncc2,.slice nbo2 nb2.length nbc2,.slice eo2 es2.length ec2,.int .u32 (f2:Int),.string XU2] 32 (0,0))):=hid ((hb.block _ (row_lt R912.out)).trans R912.out)
  have R1013:Hid (w19.heap[b10]? = some (.cells #[.slice lo2 l2.length lc2,.int .u64 (a2:Int),.int .u64 (t2:Int),.int .u64 (kc:Int),.bool ph2,.int .u64 (pn2:Int),.bool mh2,.int .u64 (mn2:Int),.bool gh2,.int .u64 (gn2:Int),.slice nco2 nc2.length ncc2,.slice nbo2 nb2.length nbc2,.slice eo2 es2.length ec2,.int .u32 (f2:Int),.string XU2] 32 (0,0))):=hid ((hb.block _ (row_lt R1012.out)).trans R1012.out)
  have HXw19:Hid (Below w15.heap.size w15 w19):=hid (below_step HXw18.out hb)
  clear hb
  refine hK _ _ ?_;clear hK K
  refine BigFrame.wpList_want (by rfl) (fun K hK=>?_);go_simp;refine hK _ _ ?_;clear hK K
  refine wpList_plain rfl (fun K hK=>?_);go_simp;refine hK _ _ ?_;clear hK K
  refine wpList_plain rfl (fun K hK=>?_);go_simp;refine hK _ _ ?_;clear hK K
  have hc61:w19.cell? ⟨b6,1,none⟩=some (.int .u64 (v2:Int)):=row_cell R613.out (j:=1) rfl
  refine BigFrame.wpList_want (by rfl) (fun K hK=>?_);go_simp;refine hK _ _ ?_;clear hK K
  refine BigFrame.wpList_want (by rfl) (fun K hK=>?_);go_simp;refine hK _ _ ?_;clear hK K
  clear hc61
  by_cases hcz:v2=0
  ·have d1:((v2:Int) == 0)=true:=by simp[hcz]
   have d2:(v2 == 0)=true:=by simp[hcz]
   clear hcz
   refine BigFrame.wpList_want (by rfl) (fun K hK=>?_);go_simp;refine hK _ _ ?_;clear hK K
   refine BigFrame.wpList_want (by rfl) (fun K hK=>?_);go_simp;refine hK _ _ ?_;clear hK K
   refine wpList_skip (by rfl) ?_
   refine wpList_skip (by rfl) ?_
   refine wpList_skip (by rfl) ?_
   refine BigFrame.wpList_want (by rfl) (fun K hK=>?_);go_simp;refine hK _ _ ?_;clear hK K
   refine wpList_plain rfl (fun K hK=>?_);go_simp;refine hK _ _ ?_;clear hK K
   refine wpList_plain rfl (fun K hK=>?_);go_simp;refine hK _ _ ?_;clear hK K
   refine BigFrame.wpList_want (by rfl) (fun K hK=>?_)
   refine wp_load_mid 36 (.tmp 7) rfl b7 0 rfl [.slice lo3 l3.length lc3,.int .u64 (a3:Int),.int .u64 (t3:Int),.int .u64 (kz:Int),.bool bp3,.int .u64 (vp3:Int),.bool bm3,.int .u64 (vm3:Int),.bool bg3,.int .u64 (vg3:Int),.int .i32 sc3,.int .u64 (zc3:Int),.bool gp3,.int .i32 pb3.off,.slice po3 pb3.cs.length pc3,.string Xpu3,.bool gn3,.int .i32 nb3.off,.slice no3 nb3.cs.length nc3,.string Xnu3,.slice eo3 es3.length ec3,.int .u32 (f3:Int),.int .u64 (th3:Int),.string Xu3] _ (range_rowc R713.out) Try.underlying36 rfl (by kernel_rfl) (hK _ _ ?_)
   clear hK K
   refine BigFrame.wpList_want (by rfl) (fun K hK=>?_);go_simp
   refine (exp_any ((l3,(a3,(t3,(kz,((bp3,vp3),(sc3,(zc3,((gp3,pb3,pu3),((gn3,nb3,nu3),(f3,(es3,((bm3,vm3),((bg3,vg3),th3))))))))))))),u3) [.slice lo3 l3.length lc3,.int .u64 (a3:Int),.int .u64 (t3:Int),.int .u64 (kz:Int),.bool bp3,.int .u64 (vp3:Int),.bool bm3,.int .u64 (vm3:Int),.bool bg3,.int .u64 (vg3:Int),.int .i32 sc3,.int .u64 (zc3:Int),.bool gp3,.int .i32 pb3.off,.slice po3 pb3.cs.length pc3,.string Xpu3,.bool gn3,.int .i32 nb3.off,.slice no3 nb3.cs.length nc3,.string Xnu3,.slice eo3 es3.length ec3,.int .u32 (f3:Int),.int .u64 (th3:Int),.string Xu3] _ w19 (xp_argre HA3.out HVB.out.2.1 HSC3.out) (xp_re (xpCel.upd (Upd.of_new (S:=fun _=>False) HVw19.out) (fun _ _ h=>h) (fun _ h=>h) HL3.out) kz sc3) HSM3.out (r:=8) (hid (exp_8 HF3.out.1 (by rw[HF3.out.2];exact fun e=>HVB.out.2.2.2.1 e.symm)))).mono ?_;rintro e w20 ⟨rfl,hb⟩
   have HVw20:Hid (Below W.heap.size W w20):=hid (below_step HVw19.out hb)
   have R514:Hid (w20.heap[b5]? = some (.cells #[.slice lo2 l2.length lc2,.int .u64 0,.int .u64 0,.int .u64 (k2:Int),.bool ph2,.int .u64 (pn2:Int),.bool mh2,.int .u64 (mn2:Int),.bool gh2,.int .u64 (gn2:Int),.slice nco2 nc2.length ncc2,.slice nbo2 nb2.length nbc2,.slice eo2 es2.length ec2,.int .u32 (f2:Int),.string XU2] 32 (0,0))):=hid ((hb.block _ (row_lt R513.out)).trans R513.out)
   have R614:Hid (w20.heap[b6]? = some (.cells #[.slice lo2 l2.length lc2,.int .u64 (v2:Int),.int .u64 (t2:Int),.int .u64 (k2:Int),.bool ph2,.int .u64 (pn2:Int),.bool mh2,.int .u64 (mn2:Int),.bool gh2,.int .u64 (gn2:Int),.slice nco2 nc2.length ncc2,.slice nbo2 nb2.length nbc2,.slice eo2 es2.length ec2,.int .u32 (f2:Int),.string XU2] 32 (0,0))):=hid ((hb.block _ (row_lt R613.out)).trans R613.out)
   have R714:Hid (w20.heap[b7]? = some (.cells #[.slice lo3 l3.length lc3,.int .u64 (a3:Int),.int .u64 (t3:Int),.int .u64 (kz:Int),.bool bp3,.int .u64 (vp3:Int),.bool bm3,.int .u64 (vm3:Int),.bool bg3,.int .u64 (vg3:Int),.int .i32 sc3,.int .u64 (zc3:Int),.bool gp3,.int .i32 pb3.off,.slice po3 pb3.cs.length pc3,.string Xpu3,.bool gn3,.int .i32 nb3.off,.slice no3 nb3.cs.length nc3,.string Xnu3,.slice eo3 es3.length ec3,.int .u32 (f3:Int),.int .u64 (th3:Int),.string Xu3] 36 (0,0))):=hid ((hb.block _ (row_lt R713.out)).trans R713.out)
   have R814:Hid (w20.heap[b8]? = some (.cells #[.slice lo3 l3.length lc3,.int .u64 (a3:Int),.int .u64 (t3:Int),.int .u64 (k3:Int),.bool bp3,.int .u64 (vp3:Int),.bool bm3,.int .u64 (vm3:Int),.bool bg3,.int .u64 (vg3:Int),.int .i32 21,.int .u64 (zc3:Int),.bool gp3,.int .i32 pb3.off,.slice po3 pb3.cs.length pc3,.string Xpu3,.bool gn3,.int .i32 nb3.off,.slice no3 nb3.cs.length nc3,.string Xnu3,.slice eo3 es3.length ec3,.int .u32 (f3:Int),.int .u64 (th3:Int),.string Xu3] 36 (0,0))):=hid ((hb.block _ (row_lt R813.out)).trans R813.out)
   have R914:Hid (w20.heap[b9]? = some (.cells #[.slice (some ⟨g14,0,none⟩) m cap14,.int .u64 (a2:Int),.int .u64 (t2:Int),.int .u64 (k2:Int),.bool ph2,.int .u64 (pn2:Int),.bool mh2,.int .u64 (mn2:Int),.bool gh2,.int .u64 (gn2:Int),.slice nco2 nc2.length ncc2,.slice nbo2 nb2.length nbc2,.slice eo2 es2.length ec2,.int .u32 (f2:Int),.string XU2] 32 (0,0))):=hid ((hb.block _ (row_lt R913.out)).trans R913.out)
   have R1014:Hid (w20.heap[b10]? = some (.cells #[.slice lo2 l2.length lc2,.int .u64 (a2:Int),.int .u64 (t2:Int),.int .u64 (kc:Int),.bool ph2,.int .u64 (pn2:Int),.bool mh2,.int .u64 (mn2:Int),.bool gh2,.int .u64 (gn2:Int),.slice nco2 nc2.length ncc2,.slice nbo2 nb2.length nbc2,.slice eo2 es2.length ec2,.int .u32 (f2:Int),.string XU2] 32 (0,0))):=hid ((hb.block _ (row_lt R1013.out)).trans R1013.out)
   have HXw20:Hid (Below w15.heap.size w15 w20):=hid (below_step HXw19.out hb)
   clear hb
   refine hK _ _ ?_;clear hK K
   refine BigFrame.wpList_want (by rfl) (fun K hK=>?_);go_simp;refine hK _ _ ?_;clear hK K
   refine wpList_plain rfl (fun K hK=>?_);go_simp;refine hK _ _ ?_;clear hK K
   refine wpList_plain rfl (fun K hK=>?_);go_simp;refine hK _ _ ?_;clear hK K
   refine BigFrame.wpList_want (by rfl) (fun K hK=>?_)
   refine wp_load_mid 36 (.tmp 8) rfl b8 0 rfl [.slice lo3 l3.length lc3,.int .u64 (a3:Int),.int .u64 (t3:Int),.int .u64 (k3:Int),.bool bp3,.int .u64 (vp3:Int),.bool bm3,.int .u64 (vm3:Int),.bool bg3,.int .u64 (vg3:Int),.int .i32 21,.int .u64 (zc3:Int),.bool gp3,.int .i32 pb3.off,.slice po3 pb3.cs.length pc3,.string Xpu3,.bool gn3,.int .i32 nb3.off,.slice no3 nb3.cs.length nc3,.string Xnu3,.slice eo3 es3.length ec3,.int .u32 (f3:Int),.int .u64 (th3:Int),.string Xu3] _ (range_rowc R814.out) Try.underlying36 rfl (by kernel_rfl) (hK _ _ ?_)
   clear hK K
   refine BigFrame.wpList_want (by rfl) (fun K hK=>?_);go_simp
   refine (exp_any ((l3,(a3,(t3,(k3,((bp3,vp3),(21,(zc3,((gp3,pb3,pu3),((gn3,nb3,nu3),(f3,(es3,((bm3,vm3),((bg3,vg3),th3))))))))))))),u3) [.slice lo3 l3.length lc3,.int .u64 (a3:Int),.int .u64 (t3:Int),.int .u64 (k3:Int),.bool bp3,.int .u64 (vp3:Int),.bool bm3,.int .u64 (vm3:Int),.bool bg3,.int .u64 (vg3:Int),.int .i32 21,.int .u64 (zc3:Int),.bool gp3,.int .i32 pb3.off,.slice po3 pb3.cs.length pc3,.string Xpu3,.bool gn3,.int .i32 nb3.off,.slice no3 nb3.cs.length nc3,.string Xnu3,.slice eo3 es3.length ec3,.int .u32 (f3:Int),.int .u64 (th3:Int),.string Xu3] _ w20 (xp_argre HA3.out hkb (by omega)) (xp_re (xpCel.upd (Upd.of_new (S:=fun _=>False) HVw20.out) (fun _ _ h=>h) (fun _ h=>h) HL3.out) k3 21) HSM3.out (r:=10) (hid (exp_10 HF3.out.1 HF3.out.2 (by unfold expS;rfl)))).mono ?_;rintro e w21 ⟨rfl,hb⟩
   have HVw21:Hid (Below W.heap.size W w21):=hid (below_step HVw20.out hb)
   have R515:Hid (w21.heap[b5]? = some (.cells #[.slice lo2 l2.length lc2,.int .u64 0,.int .u64 0,.int .u64 (k2:Int),.bool ph2,.int .u64 (pn2:Int),.bool mh2,.int .u64 (mn2:Int),.bool gh2,.int .u64 (gn2:Int),.slice nco2 nc2.length ncc2,.slice nbo2 nb2.length nbc2,.slice eo2 es2.length ec2,.int .u32 (f2:Int),.string XU2] 32 (0,0))):=hid ((hb.block _ (row_lt R514.out)).trans R514.out)
   have R615:Hid (w21.heap[b6]? = some (.cells #[.slice lo2 l2.length lc2,.int .u64 (v2:Int),.int .u64 (t2:Int),.int .u64 (k2:Int),.bool ph2,.int .u64 (pn2:Int),.bool mh2,.int .u64 (mn2:Int),.bool gh2,.int .u64 (gn2:Int),.slice nco2 nc2.length ncc2,.slice nbo2 nb2.length nbc2,.slice eo2 es2.length ec2,.int .u32 (f2:Int),.string XU2] 32 (0,0))):=hid ((hb.block _ (row_lt R614.out)).trans R614.out)
   have R715:Hid (w21.heap[b7]? = some (.cells #[.slice lo3 l3.length lc3,.int .u64 (a3:Int),.int .u64 (t3:Int),.int .u64 (kz:Int),.bool bp3,.int .u64 (vp3:Int),.bool bm3,.int .u64 (vm3:Int),.bool bg3,.int .u64 (vg3:Int),.int .i32 sc3,.int .u64 (zc3:Int),.bool gp3,.int .i32 pb3.off,.slice po3 pb3.cs.length pc3,.string Xpu3,.bool gn3,.int .i32 nb3.off,.slice no3 nb3.cs.length nc3,.string Xnu3,.slice eo3 es3.length ec3,.int .u32 (f3:Int),.int .u64 (th3:Int),.string Xu3] 36 (0,0))):=hid ((hb.block _ (row_lt R714.out)).trans R714.out)
   have R815:Hid (w21.heap[b8]? = some (.cells #[.slice lo3 l3.length lc3,.int .u64 (a3:Int),.int .u64 (t3:Int),.int .u64 (k3:Int),.bool bp3,.int .u64 (vp3:Int),.bool bm3,.int .u64 (vm3:Int),.bool bg3,.int .u64 (vg3:Int),.int .i32 21,.int .u64 (zc3:Int),.bool gp3,.int .i32 pb3.off,.slice po3 pb3.cs.length pc3,.string Xpu3,.bool gn3,.int .i32 nb3.off,.slice no3 nb3.cs.length nc3,.string Xnu3,.slice eo3 es3.length ec3,.int .u32 (f3:Int),.int .u64 (th3:Int),.string Xu3] 36 (0,0))):=hid ((hb.block _ (row_lt R814.out)).trans R814.out)
   have R915:Hid (w21.heap[b9]? = some (.cells #[.slice (some ⟨g14,0,none⟩) m cap14,.int .u64 (a2:Int),.int .u64 (t2:Int),.int .u64 (k2:Int),.bool ph2,.int .u64 (pn2:Int),.bool mh2,.int .u64 (mn2:Int),.bool gh2,.int .u64 (gn2:Int),.slice nco2 nc2.length ncc2,.slice nbo2 nb2.length nbc2,.slice eo2 es2.length ec2,.int .u32 (f2:Int),.string XU2] 32 (0,0))):=hid ((hb.block _ (row_lt R914.out)).trans R914.out)
   have R1015:Hid (w21.heap[b10]? = some (.cells #[.slice lo2 l2.length lc2,.int .u64 (a2:Int),.int .u64 (t2:Int),.int .u64 (kc:Int),.bool ph2,.int .u64 (pn2:Int),.bool mh2,.int .u64 (mn2:Int),.bool gh2,.int .u64 (gn2:Int),.slice nco2 nc2.length ncc2,.slice nbo2 nb2.length nbc2,.slice eo2 es2.length ec2,.int .u32 (f2:Int),.string XU2] 32 (0,0))):=hid ((hb.block _ (row_lt R1014.out)).trans R1014.out)
   have HXw21:Hid (Below w15.heap.size w15 w21):=hid (below_step HXw20.out hb)
   clear hb
   refine hK _ _ ?_;clear hK K
   refine BigFrame.wpList_want (by rfl) (fun K hK=>?_);go_simp;refine hK _ _ ?_;clear hK K
   refine wpList_plain rfl (fun K hK=>?_);go_simp;refine hK _ _ ?_;clear hK K
   refine wpList_plain rfl (fun K hK=>?_);go_simp;refine hK _ _ ?_;clear hK K
   have HRK:Hid (hiCel.R w21 (fun _=>True) ((a2,(t2,(k2,((ph2,pn2),(nc2,(nb2,(es2,((l2++[qq,qq]),(f2,((mh2,mn2),(gh2,gn2))))))))))),u2) [.slice (some ⟨g14,0,none⟩) m cap14,.int .u64 (a2:Int),.int .u64 (t2:Int),.int .u64 (k2:Int),.bool ph2,.int .u64 (pn2:Int),.bool mh2,.int .u64 (mn2:Int),.bool gh2,.int .u64 (gn2:Int),.slice nco2 nc2.length ncc2,.slice nbo2 nb2.length nbc2,.slice eo2 es2.length ec2,.int .u32 (f2:Int),.string XU2]):=hid (by
    have h:=hi_rel (hiCel.upd (Upd.of_new (S:=fun _=>False) HVw21.out) (fun _ _ h=>h) (fun _ h=>h) HL2.out) (KRels.upd (Upd.of_new (S:=fun _=>False) HXw21.out) (fun _ _ h=>h) (fun _ h=>h) _ _ _ HKQ.out) (lc':=cap14) (fun _ _=>trivial)
    rw[show (l2++[qq,qq]).length=m from by rw[←HM.out];simp] at h
    exact h)
   refine BigFrame.wpList_want (by rfl) (fun K hK=>?_)
   refine wp_load_mid 32 (.tmp 9) rfl b9 0 rfl [.slice (some ⟨g14,0,none⟩) m cap14,.int .u64 (a2:Int),.int .u64 (t2:Int),.int .u64 (k2:Int),.bool ph2,.int .u64 (pn2:Int),.bool mh2,.int .u64 (mn2:Int),.bool gh2,.int .u64 (gn2:Int),.slice nco2 nc2.length ncc2,.slice nbo2 nb2.length nbc2,.slice eo2 es2.length ec2,.int .u32 (f2:Int),.string XU2] _ (range_rowc R915.out) Try.underlying32 rfl (by kernel_rfl) (hK _ _ ?_)
   clear hK K
   refine BigFrame.wpList_want (by rfl) (fun K hK=>?_);go_simp
   refine (hist_any ((a2,(t2,(k2,((ph2,pn2),(nc2,(nb2,(es2,((l2++[qq,qq]),(f2,((mh2,mn2),(gh2,gn2))))))))))),u2) [.slice (some ⟨g14,0,none⟩) m cap14,.int .u64 (a2:Int),.int .u64 (t2:Int),.int .u64 (k2:Int),.bool ph2,.int .u64 (pn2:Int),.bool mh2,.int .u64 (mn2:Int),.bool gh2,.int .u64 (gn2:Int),.slice nco2 nc2.length ncc2,.slice nbo2 nb2.length nbc2,.slice eo2 es2.length ec2,.int .u32 (f2:Int),.string XU2] _ w21 (hi_argl HA2.out (ksfit_app HKF.out.1 qq_fit) (kslim_app HKF.out.2 qq_lim) (by have:=HLL2.out;simp;omega)) HRK.out ⟨HSM2.out.1,HSM2.out.2.1,by have:=HLL2.out;show (l2++[qq,qq]).length≤1000000;simp;omega⟩ (r:=6) (hid (hist_6 HPF.out.1 HPF.out.2.1 (dup_qq l2 qq qq rfl)))).mono ?_;rintro e w22 ⟨rfl,hb⟩
   have HVw22:Hid (Below W.heap.size W w22):=hid (below_step HVw21.out hb)
   have R516:Hid (w22.heap[b5]? = some (.cells #[.slice lo2 l2.length lc2,.int .u64 0,.int .u64 0,.int .u64 (k2:Int),.bool ph2,.int .u64 (pn2:Int),.bool mh2,.int .u64 (mn2:Int),.bool gh2,.int .u64 (gn2:Int),.slice nco2 nc2.length ncc2,.slice nbo2 nb2.length nbc2,.slice eo2 es2.length ec2,.int .u32 (f2:Int),.string XU2] 32 (0,0))):=hid ((hb.block _ (row_lt R515.out)).trans R515.out)
   have R616:Hid (w22.heap[b6]? = some (.cells #[.slice lo2 l2.length lc2,.int .u64 (v2:Int),.int .u64 (t2:Int),.int .u64 (k2:Int),.bool ph2,.int .u64 (pn2:Int),.bool mh2,.int .u64 (mn2:Int),.bool gh2,.int .u64 (gn2:Int),.slice nco2 nc2.length ncc2,.slice nbo2 nb2.length nbc2,.slice eo2 es2.length ec2,.int .u32 (f2:Int),.string XU2] 32 (0,0))):=hid ((hb.block _ (row_lt R615.out)).trans R615.out)
   have R716:Hid (w22.heap[b7]? = some (.cells #[.slice lo3 l3.length lc3,.int .u64 (a3:Int),.int .u64 (t3:Int),.int .u64 (kz:Int),.bool bp3,.int .u64 (vp3:Int),.bool bm3,.int .u64 (vm3:Int),.bool bg3,.int .u64 (vg3:Int),.int .i32 sc3,.int .u64 (zc3:Int),.bool gp3,.int .i32 pb3.off,.slice po3 pb3.cs.length pc3,.string Xpu3,.bool gn3,.int .i32 nb3.off,.slice no3 nb3.cs.length nc3,.string Xnu3,.slice eo3 es3.length ec3,.int .u32 (f3:Int),.int .u64 (th3:Int),.string Xu3] 36 (0,0))):=hid ((hb.block _ (row_lt R715.out)).trans R715.out)
   have R816:Hid (w22.heap[b8]? = some (.cells #[.slice lo3 l3.length lc3,.int .u64 (a3:Int),.int .u64 (t3:Int),.int .u64 (k3:Int),.bool bp3,.int .u64 (vp3:Int),.bool bm3,.int .u64 (vm3:Int),.bool bg3,.int .u64 (vg3:Int),.int .i32 21,.int .u64 (zc3:Int),.bool gp3,.int .i32 pb3.off,.slice po3 pb3.cs.length pc3,.string Xpu3,.bool gn3,.int .i32 nb3.off,.slice no3 nb3.cs.length nc3,.string Xnu3,.slice eo3 es3.length ec3,.int .u32 (f3:Int),.int .u64 (th3:Int),.string Xu3] 36 (0,0))):=hid ((hb.block _ (row_lt R815.out)).trans R815.out)
   have R916:Hid (w22.heap[b9]? = some (.cells #[.slice (some ⟨g14,0,none⟩) m cap14,.int .u64 (a2:Int),.int .u64 (t2:Int),.int .u64 (k2:Int),.bool ph2,.int .u64 (pn2:Int),.bool mh2,.int .u64 (mn2:Int),.bool gh2,.int .u64 (gn2:Int),.slice nco2 nc2.length ncc2,.slice nbo2 nb2.length nbc2,.slice eo2 es2.length ec2,.int .u32 (f2:Int),.string XU2] 32 (0,0))):=hid ((hb.block _ (row_lt R915.out)).trans R915.out)
   have R1016:Hid (w22.heap[b10]? = some (.cells #[.slice lo2 l2.length lc2,.int .u64 (a2:Int),.int .u64 (t2:Int),.int .u64 (kc:Int),.bool ph2,.int .u64 (pn2:Int),.bool mh2,.int .u64 (mn2:Int),.bool gh2,.int .u64 (gn2:Int),.slice nco2 nc2.length ncc2,.slice nbo2 nb2.length nbc2,.slice eo2 es2.length ec2,.int .u32 (f2:Int),.string XU2] 32 (0,0))):=hid ((hb.block _ (row_lt R1015.out)).trans R1015.out)
   have HXw22:Hid (Below w15.heap.size w15 w22):=hid (below_step HXw21.out hb)
   clear hb
   refine hK _ _ ?_;clear hK K
   refine BigFrame.wpList_want (by rfl) (fun K hK=>?_);go_simp;refine hK _ _ ?_;clear hK K
   refine wpList_plain rfl (fun K hK=>?_);go_simp;refine hK _ _ ?_;clear hK K
   refine wpList_plain rfl (fun K hK=>?_);go_simp;refine hK _ _ ?_;clear hK K
   have hc210:w22.cell? ⟨b2,10,none⟩=some (.slice nco2 nc2.length ncc2):=row_cell ((HVw22.out.block _ (row_lt HR2.out)).trans HR2.out) (j:=10) rfl
   refine BigFrame.wpList_want (by rfl) (fun K hK=>?_);go_simp;refine hK _ _ ?_;clear hK K
   refine BigFrame.wpList_want (by rfl) (fun K hK=>?_);go_simp;refine hK _ _ ?_;clear hK K
   refine BigFrame.wpList_want (by rfl) (fun K hK=>?_);go_simp;refine hK _ _ ?_;clear hK K
   clear hc210
   by_cases hcz:nc2.length=0
   ·have d1:((nc2.length:Int) == 0)=true:=by simp[hcz]
    have d2:(nc2.length == 0)=true:=by simp[hcz]
    clear hcz
    refine BigFrame.wpList_want (by rfl) (fun K hK=>?_);go_simp;refine hK _ _ ?_;clear hK K
    refine BigFrame.wpList_want (by rfl) (fun K hK=>?_);go_simp;refine hK _ _ ?_;clear hK K
    refine wpList_skip (by rfl) ?_
    refine wpList_skip (by rfl) ?_
    refine wpList_skip (by rfl) ?_
    refine BigFrame.wpList_want (by rfl) (fun K hK=>?_);go_simp;refine hK _ _ ?_;clear hK K
    refine wpList_plain rfl (fun K hK=>?_);go_simp;refine hK _ _ ?_;clear hK K
    go_wp2_with fail
    go_ret
    exact ⟨rfl,HBW.out.trans (HVw22.out.mono HBW.out.size)⟩
   ·have d1:((nc2.length:Int) == 0)=false:=by simp[hcz]
    have d2:(nc2.length == 0)=false:=by simp[hcz]
    have HCZ:=hid hcz
    clear hcz
    refine BigFrame.wpList_want (by rfl) (fun K hK=>?_);go_simp;refine hK _ _ ?_;clear hK K
    refine BigFrame.wpList_want (by rfl) (fun K hK=>?_);go_simp;refine hK _ _ ?_;clear hK K
    refine BigFrame.wpList_want (by rfl) (fun K hK=>?_)
    refine wp_load_mid 32 (.tmp 10) rfl b10 0 rfl [.slice lo2 l2.length lc2,.int .u64 (a2:Int),.int .u64 (t2:Int),.int .u64 (kc:Int),.bool ph2,.int .u64 (pn2:Int),.bool mh2,.int .u64 (mn2:Int),.bool gh2,.int .u64 (gn2:Int),.slice nco2 nc2.length ncc2,.slice nbo2 nb2.length nbc2,.slice eo2 es2.length ec2,.int .u32 (f2:Int),.string XU2] _ (range_rowc R1016.out) Try.underlying32 rfl (by kernel_rfl) (hK _ _ ?_)
    clear hK K
    refine BigFrame.wpList_want (by rfl) (fun K hK=>?_);go_simp
    refine (hist_any ((a2,(t2,(kc,((ph2,pn2),(nc2,(nb2,(es2,(l2,(f2,((mh2,mn2),(gh2,gn2))))))))))),u2) [.slice lo2 l2.length lc2,.int .u64 (a2:Int),.int .u64 (t2:Int),.int .u64 (kc:Int),.bool ph2,.int .u64 (pn2:Int),.bool mh2,.int .u64 (mn2:Int),.bool gh2,.int .u64 (gn2:Int),.slice nco2 nc2.length ncc2,.slice nbo2 nb2.length nbc2,.slice eo2 es2.length ec2,.int .u32 (f2:Int),.string XU2] _ w22 (hi_argre HA2.out haa hta HVB.out.2.2.1) (hi_re (hiCel.upd (Upd.of_new (S:=fun _=>False) HVw22.out) (fun _ _ h=>h) (fun _ h=>h) HL2.out) a2 t2 kc) HSM2.out (r:=8) (hid (hist_8 HF2.out.1 (histT_next HF2.out.2 (by have:=HCZ.out;omega) HVB.out.2.2.2.2)))).mono ?_;rintro e w23 ⟨rfl,hb⟩
    have HVw23:Hid (Below W.heap.size W w23):=hid (below_step HVw22.out hb)
    have R517:Hid (w23.heap[b5]? = some (.cells #[.slice lo2 l2.length lc2,.int .u64 0,.int .u64 0,.int .u64 (k2:Int),.bool ph2,.int .u64 (pn2:Int),.bool mh2,.int .u64 (mn2:Int),.bool gh2,.int .u64 (gn2:Int),.slice nco2 nc2.length ncc2,.slice nbo2 nb2.length nbc2,.slice eo2 es2.length ec2,.int .u32 (f2:Int),.string XU2] 32 (0,0))):=hid ((hb.block _ (row_lt R516.out)).trans R516.out)
    have R617:Hid (w23.heap[b6]? = some (.cells #[.slice lo2 l2.length lc2,.int .u64 (v2:Int),.int .u64 (t2:Int),.int .u64 (k2:Int),.bool ph2,.int .u64 (pn2:Int),.bool mh2,.int .u64 (mn2:Int),.bool gh2,.int .u64 (gn2:Int),.slice nco2 nc2.length ncc2,.slice nbo2 nb2.length nbc2,.slice eo2 es2.length ec2,.int .u32 (f2:Int),.string XU2] 32 (0,0))):=hid ((hb.block _ (row_lt R616.out)).trans R616.out)
    have R717:Hid (w23.heap[b7]? = some (.cells #[.slice lo3 l3.length lc3,.int .u64 (a3:Int),.int .u64 (t3:Int),.int .u64 (kz:Int),.bool bp3,.int .u64 (vp3:Int),.bool bm3,.int .u64 (vm3:Int),.bool bg3,.int .u64 (vg3:Int),.int .i32 sc3,.int .u64 (zc3:Int),.bool gp3,.int .i32 pb3.off,.slice po3 pb3.cs.length pc3,.string Xpu3,.bool gn3,.int .i32 nb3.off,.slice no3 nb3.cs.length nc3,.string Xnu3,.slice eo3 es3.length ec3,.int .u32 (f3:Int),.int .u64 (th3:Int),.string Xu3] 36 (0,0))):=hid ((hb.block _ (row_lt R716.out)).trans R716.out)
    have R817:Hid (w23.heap[b8]? = some (.cells #[.slice lo3 l3.length lc3,.int .u64 (a3:Int),.int .u64 (t3:Int),.int .u64 (k3:Int),.bool bp3,.int .u64 (vp3:Int),.bool bm3,.int .u64 (vm3:Int),.bool bg3,.int .u64 (vg3:Int),.int .i32 21,.int .u64 (zc3:Int),.bool gp3,.int .i32 pb3.off,.slice po3 pb3.cs.length pc3,.string Xpu3,.bool gn3,.int .i32 nb3.off,.slice no3 nb3.cs.length nc3,.string Xnu3,.slice eo3 es3.length ec3,.int .u32 (f3:Int),.int .u64 (th3:Int),.string Xu3] 36 (0,0))):=hid ((hb.block _ (row_lt R816.out)).trans R816.out)
    have R917:Hid (w23.heap[b9]? = some (.cells #[.slice (some ⟨g14,0,none⟩) m cap14,.int .u64 (a2:Int),.int .u64 (t2:Int),.int .u64 (k2:Int),.bool ph2,.int .u64 (pn2:Int),.bool mh2,.int .u64 (mn2:Int),.bool gh2,.int .u64 (gn2:Int),.slice nco2 nc2.length ncc2,.slice nbo2 nb2.length nbc2,.slice eo2 es2.length ec2,.int .u32 (f2:Int),.string XU2] 32 (0,0))):=hid ((hb.block _ (row_lt R916.out)).trans R916.out)
    have R1017:Hid (w23.heap[b10]? = some (.cells #[.slice lo2 l2.length lc2,.int .u64 (a2:Int),.int .u64 (t2:Int),.int .u64 (kc:Int),.bool ph2,.int .u64 (pn2:Int),.bool mh2,.int .u64 (mn2:Int),.bool gh2,.int .u64 (gn2:Int),.slice nco2 nc2.length ncc2,.slice nbo2 nb2.length nbc2,.slice eo2 es2.length ec2,.int .u32 (f2:Int),.string XU2] 32 (0,0))):=hid ((hb.block _ (row_lt R1016.out)).trans R1016.out)
    have HXw23:Hid (Below w15.heap.size w15 w23):=hid (below_step HXw22.out hb)
    clear hb
    refine hK _ _ ?_;clear hK K
    refine BigFrame.wpList_want (by rfl) (fun K hK=>?_);go_simp;refine hK _ _ ?_;clear hK K
    refine BigFrame.wpList_want (by rfl) (fun K hK=>?_);go_simp;refine hK _ _ ?_;clear hK K
    refine wpList_plain rfl (fun K hK=>?_);go_simp;refine hK _ _ ?_;clear hK K
    go_wp2_with fail
    go_ret
    exact ⟨rfl,HBW.out.trans (HVw23.out.mono HBW.out.size)⟩
  ·have d1:((v2:Int) == 0)=false:=by simp[hcz]
   have d2:(v2 == 0)=false:=by simp[hcz]
   have HCZ:=hid hcz
   clear hcz
   refine BigFrame.wpList_want (by rfl) (fun K hK=>?_);go_simp;refine hK _ _ ?_;clear hK K
   refine BigFrame.wpList_want (by rfl) (fun K hK=>?_);go_simp;refine hK _ _ ?_;clear hK K
   refine BigFrame.wpList_want (by rfl) (fun K hK=>?_)
   refine wp_load_mid 32 (.tmp 6) rfl b6 0 rfl [.slice lo2 l2.length lc2,.int .u64 (v2:Int),.int .u64 (t2:Int),.int .u64 (k2:Int),.bool ph2,.int .u64 (pn2:Int),.bool mh2,.int .u64 (mn2:Int),.bool gh2,.int .u64 (gn2:Int),.slice nco2 nc2.length ncc2,.slice nbo2 nb2.length nbc2,.slice eo2 es2.length ec2,.int .u32 (f2:Int),.string XU2] _ (range_rowc R613.out) Try.underlying32 rfl (by kernel_rfl) (hK _ _ ?_)
   clear hK K
   refine BigFrame.wpList_want (by rfl) (fun K hK=>?_);go_simp
   refine (hist_any ((v2,(t2,(k2,((ph2,pn2),(nc2,(nb2,(es2,(l2,(f2,((mh2,mn2),(gh2,gn2))))))))))),u2) [.slice lo2 l2.length lc2,.int .u64 (v2:Int),.int .u64 (t2:Int),.int .u64 (k2:Int),.bool ph2,.int .u64 (pn2:Int),.bool mh2,.int .u64 (mn2:Int),.bool gh2,.int .u64 (gn2:Int),.slice nco2 nc2.length ncc2,.slice nbo2 nb2.length nbc2,.slice eo2 es2.length ec2,.int .u32 (f2:Int),.string XU2] _ w19 (hi_argre HA2.out HVB.out.1 hta hka) (hi_re (hiCel.upd (Upd.of_new (S:=fun _=>False) HVw19.out) (fun _ _ h=>h) (fun _ h=>h) HL2.out) v2 t2 k2) HSM2.out (r:=5) (hid (hist_5 HPF.out.1 (by have h1:=HV2_.out;have h2:=HCZ.out;omega)))).mono ?_;rintro e w20 ⟨rfl,hb⟩
   have HVw20:Hid (Below W.heap.size W w20):=hid (below_step HVw19.out hb)
   have R514:Hid (w20.heap[b5]? = some (.cells #[.slice lo2 l2.length lc2,.int .u64 0,.int .u64 0,.int .u64 (k2:Int),.bool ph2,.int .u64 (pn2:Int),.bool mh2,.int .u64 (mn2:Int),.bool gh2,.int .u64 (gn2:Int),.slice nco2 nc2.length ncc2,.slice nbo2 nb2.length nbc2,.slice eo2 es2.length ec2,.int .u32 (f2:Int),.string XU2] 32 (0,0))):=hid ((hb.block _ (row_lt R513.out)).trans R513.out)
   have R614:Hid (w20.heap[b6]? = some (.cells #[.slice lo2 l2.length lc2,.int .u64 (v2:Int),.int .u64 (t2:Int),.int .u64 (k2:Int),.bool ph2,.int .u64 (pn2:Int),.bool mh2,.int .u64 (mn2:Int),.bool gh2,.int .u64 (gn2:Int),.slice nco2 nc2.length ncc2,.slice nbo2 nb2.length nbc2,.slice eo2 es2.length ec2,.int .u32 (f2:Int),.string XU2] 32 (0,0))):=hid ((hb.block _ (row_lt R613.out)).trans R613.out)
   have R714:Hid (w20.heap[b7]? = some (.cells #[.slice lo3 l3.length lc3,.int .u64 (a3:Int),.int .u64 (t3:Int),.int .u64 (kz:Int),.bool bp3,.int .u64 (vp3:Int),.bool bm3,.int .u64 (vm3:Int),.bool bg3,.int .u64 (vg3:Int),.int .i32 sc3,.int .u64 (zc3:Int),.bool gp3,.int .i32 pb3.off,.slice po3 pb3.cs.length pc3,.string Xpu3,.bool gn3,.int .i32 nb3.off,.slice no3 nb3.cs.length nc3,.string Xnu3,.slice eo3 es3.length ec3,.int .u32 (f3:Int),.int .u64 (th3:Int),.string Xu3] 36 (0,0))):=hid ((hb.block _ (row_lt R713.out)).trans R713.out)
   have R814:Hid (w20.heap[b8]? = some (.cells #[.slice lo3 l3.length lc3,.int .u64 (a3:Int),.int .u64 (t3:Int),.int .u64 (k3:Int),.bool bp3,.int .u64 (vp3:Int),.bool bm3,.int .u64 (vm3:Int),.bool bg3,.int .u64 (vg3:Int),.int .i32 21,.int .u64 (zc3:Int),.bool gp3,.int .i32 pb3.off,.slice po3 pb3.cs.length pc3,.string Xpu3,.bool gn3,.int .i32 nb3.off,.slice no3 nb3.cs.length nc3,.string Xnu3,.slice eo3 es3.length ec3,.int .u32 (f3:Int),.int .u64 (th3:Int),.string Xu3] 36 (0,0))):=hid ((hb.block _ (row_lt R813.out)).trans R813.out)
   have R914:Hid (w20.heap[b9]? = some (.cells #[.slice (some ⟨g14,0,none⟩) m cap14,.int .u64 (a2:Int),.int .u64 (t2:Int),.int .u64 (k2:Int),.bool ph2,.int .u64 (pn2:Int),.bool mh2,.int .u64 (mn2:Int),.bool gh2,.int .u64 (gn2:Int),.slice nco2 nc2.length ncc2,.slice nbo2 nb2.length nbc2,.slice eo2 es2.length ec2,.int .u32 (f2:Int),.string XU2] 32 (0,0))):=hid ((hb.block _ (row_lt R913.out)).trans R913.out)
   have R1014:Hid (w20.heap[b10]? = some (.cells #[.slice lo2 l2.length lc2,.int .u64 (a2:Int),.int .u64 (t2:Int),.int .u64 (kc:Int),.bool ph2,.int .u64 (pn2:Int),.bool mh2,.int .u64 (mn2:Int),.bool gh2,.int .u64 (gn2:Int),.slice nco2 nc2.length ncc2,.slice nbo2 nb2.length nbc2,.slice eo2 es2.length ec2,.int .u32 (f2:Int),.string XU2] 32 (0,0))):=hid ((hb.block _ (row_lt R1013.out)).trans R1013.out)
   have HXw20:Hid (Below w15.heap.size w15 w20):=hid (below_step HXw19.out hb)
   clear hb
   refine hK _ _ ?_;clear hK K
   refine BigFrame.wpList_want (by rfl) (fun K hK=>?_);go_simp;refine hK _ _ ?_;clear hK K
   refine BigFrame.wpList_want (by rfl) (fun K hK=>?_);go_simp;refine hK _ _ ?_;clear hK K
   refine wpList_plain rfl (fun K hK=>?_);go_simp;refine hK _ _ ?_;clear hK K
   refine wpList_plain rfl (fun K hK=>?_);go_simp;refine hK _ _ ?_;clear hK K
   refine BigFrame.wpList_want (by rfl) (fun K hK=>?_)
   refine wp_load_mid 36 (.tmp 7) rfl b7 0 rfl [.slice lo3 l3.length lc3,.int .u64 (a3:Int),.int .u64 (t3:Int),.int .u64 (kz:Int),.bool bp3,.int .u64 (vp3:Int),.bool bm3,.int .u64 (vm3:Int),.bool bg3,.int .u64 (vg3:Int),.int .i32 sc3,.int .u64 (zc3:Int),.bool gp3,.int .i32 pb3.off,.slice po3 pb3.cs.length pc3,.string Xpu3,.bool gn3,.int .i32 nb3.off,.slice no3 nb3.cs.length nc3,.string Xnu3,.slice eo3 es3.length ec3,.int .u32 (f3:Int),.int .u64 (th3:Int),.string Xu3] _ (range_rowc R714.out) Try.underlying36 rfl (by kernel_rfl) (hK _ _ ?_)
   clear hK K
   refine BigFrame.wpList_want (by rfl) (fun K hK=>?_);go_simp
   refine (exp_any ((l3,(a3,(t3,(kz,((bp3,vp3),(sc3,(zc3,((gp3,pb3,pu3),((gn3,nb3,nu3),(f3,(es3,((bm3,vm3),((bg3,vg3),th3))))))))))))),u3) [.slice lo3 l3.length lc3,.int .u64 (a3:Int),.int .u64 (t3:Int),.int .u64 (kz:Int),.bool bp3,.int .u64 (vp3:Int),.bool bm3,.int .u64 (vm3:Int),.bool bg3,.int .u64 (vg3:Int),.int .i32 sc3,.int .u64 (zc3:Int),.bool gp3,.int .i32 pb3.off,.slice po3 pb3.cs.length pc3,.string Xpu3,.bool gn3,.int .i32 nb3.off,.slice no3 nb3.cs.length nc3,.string Xnu3,.slice eo3 es3.length ec3,.int .u32 (f3:Int),.int .u64 (th3:Int),.string Xu3] _ w20 (xp_argre HA3.out HVB.out.2.1 HSC3.out) (xp_re (xpCel.upd (Upd.of_new (S:=fun _=>False) HVw20.out) (fun _ _ h=>h) (fun _ h=>h) HL3.out) kz sc3) HSM3.out (r:=8) (hid (exp_8 HF3.out.1 (by rw[HF3.out.2];exact fun e=>HVB.out.2.2.2.1 e.symm)))).mono ?_;rintro e w21 ⟨rfl,hb⟩
   have HVw21:Hid (Below W.heap.size W w21):=hid (below_step HVw20.out hb)
   have R515:Hid (w21.heap[b5]? = some (.cells #[.slice lo2 l2.length lc2,.int .u64 0,.int .u64 0,.int .u64 (k2:Int),.bool ph2,.int .u64 (pn2:Int),.bool mh2,.int .u64 (mn2:Int),.bool gh2,.int .u64 (gn2:Int),.slice nco2 nc2.length ncc2,.slice nbo2 nb2.length nbc2,.slice eo2 es2.length ec2,.int .u32 (f2:Int),.string XU2] 32 (0,0))):=hid ((hb.block _ (row_lt R514.out)).trans R514.out)
   have R615:Hid (w21.heap[b6]? = some (.cells #[.slice lo2 l2.length lc2,.int .u64 (v2:Int),.int .u64 (t2:Int),.int .u64 (k2:Int),.bool ph2,.int .u64 (pn2:Int),.bool mh2,.int .u64 (mn2:Int),.bool gh2,.int .u64 (gn2:Int),.slice nco2 nc2.length ncc2,.slice nbo2 nb2.length nbc2,.slice eo2 es2.length ec2,.int .u32 (f2:Int),.string XU2] 32 (0,0))):=hid ((hb.block _ (row_lt R614.out)).trans R614.out)
   have R715:Hid (w21.heap[b7]? = some (.cells #[.slice lo3 l3.length lc3,.int .u64 (a3:Int),.int .u64 (t3:Int),.int .u64 (kz:Int),.bool bp3,.int .u64 (vp3:Int),.bool bm3,.int .u64 (vm3:Int),.bool bg3,.int .u64 (vg3:Int),.int .i32 sc3,.int .u64 (zc3:Int),.bool gp3,.int .i32 pb3.off,.slice po3 pb3.cs.length pc3,.string Xpu3,.bool gn3,.int .i32 nb3.off,.slice no3 nb3.cs.length nc3,.string Xnu3,.slice eo3 es3.length ec3,.int .u32 (f3:Int),.int .u64 (th3:Int),.string Xu3] 36 (0,0))):=hid ((hb.block _ (row_lt R714.out)).trans R714.out)
   have R815:Hid (w21.heap[b8]? = some (.cells #[.slice lo3 l3.length lc3,.int .u64 (a3:Int),.int .u64 (t3:Int),.int .u64 (k3:Int),.bool bp3,.int .u64 (vp3:Int),.bool bm3,.int .u64 (vm3:Int),.bool bg3,.int .u64 (vg3:Int),.int .i32 21,.int .u64 (zc3:Int),.bool gp3,.int .i32 pb3.off,.slice po3 pb3.cs.length pc3,.string Xpu3,.bool gn3,.int .i32 nb3.off,.slice no3 nb3.cs.length nc3,.string Xnu3,.slice eo3 es3.length ec3,.int .u32 (f3:Int),.int .u64 (th3:Int),.string Xu3] 36 (0,0))):=hid ((hb.block _ (row_lt R814.out)).trans R814.out)
   have R915:Hid (w21.heap[b9]? = some (.cells #[.slice (some ⟨g14,0,none⟩) m cap14,.int .u64 (a2:Int),.int .u64 (t2:Int),.int .u64 (k2:Int),.bool ph2,.int .u64 (pn2:Int),.bool mh2,.int .u64 (mn2:Int),.bool gh2,.int .u64 (gn2:Int),.slice nco2 nc2.length ncc2,.slice nbo2 nb2.length nbc2,.slice eo2 es2.length ec2,.int .u32 (f2:Int),.string XU2] 32 (0,0))):=hid ((hb.block _ (row_lt R914.out)).trans R914.out)
   have R1015:Hid (w21.heap[b10]? = some (.cells #[.slice lo2 l2.length lc2,.int .u64 (a2:Int),.int .u64 (t2:Int),.int .u64 (kc:Int),.bool ph2,.int .u64 (pn2:Int),.bool mh2,.int .u64 (mn2:Int),.bool gh2,.int .u64 (gn2:Int),.slice nco2 nc2.length ncc2,.slice nbo2 nb2.length nbc2,.slice eo2 es2.length ec2,.int .u32 (f2:Int),.string XU2] 32 (0,0))):=hid ((hb.block _ (row_lt R1014.out)).trans R1014.out)
   have HXw21:Hid (Below w15.heap.size w15 w21):=hid (below_step HXw20.out hb)
   clear hb
   refine hK _ _ ?_;clear hK K
   refine BigFrame.wpList_want (by rfl) (fun K hK=>?_);go_simp;refine hK _ _ ?_;clear hK K
   refine wpList_plain rfl (fun K hK=>?_);go_simp;refine hK _ _ ?_;clear hK K
   refine wpList_plain rfl (fun K hK=>?_);go_simp;refine hK _ _ ?_;clear hK K
   refine BigFrame.wpList_want (by rfl) (fun K hK=>?_)
   refine wp_load_mid 36 (.tmp 8) rfl b8 0 rfl [.slice lo3 l3.length lc3,.int .u64 (a3:Int),.int .u64 (t3:Int),.int .u64 (k3:Int),.bool bp3,.int .u64 (vp3:Int),.bool bm3,.int .u64 (vm3:Int),.bool bg3,.int .u64 (vg3:Int),.int .i32 21,.int .u64 (zc3:Int),.bool gp3,.int .i32 pb3.off,.slice po3 pb3.cs.length pc3,.string Xpu3,.bool gn3,.int .i32 nb3.off,.slice no3 nb3.cs.length nc3,.string Xnu3,.slice eo3 es3.length ec3,.int .u32 (f3:Int),.int .u64 (th3:Int),.string Xu3] _ (range_rowc R815.out) Try.underlying36 rfl (by kernel_rfl) (hK _ _ ?_)
   clear hK K
   refine BigFrame.wpList_want (by rfl) (fun K hK=>?_);go_simp
   refine (exp_any ((l3,(a3,(t3,(k3,((bp3,vp3),(21,(zc3,((gp3,pb3,pu3),((gn3,nb3,nu3),(f3,(es3,((bm3,vm3),((bg3,vg3),th3))))))))))))),u3) [.slice lo3 l3.length lc3,.int .u64 (a3:Int),.int .u64 (t3:Int),.int .u64 (k3:Int),.bool bp3,.int .u64 (vp3:Int),.bool bm3,.int .u64 (vm3:Int),.bool bg3,.int .u64 (vg3:Int),.int .i32 21,.int .u64 (zc3:Int),.bool gp3,.int .i32 pb3.off,.slice po3 pb3.cs.length pc3,.string Xpu3,.bool gn3,.int .i32 nb3.off,.slice no3 nb3.cs.length nc3,.string Xnu3,.slice eo3 es3.length ec3,.int .u32 (f3:Int),.int .u64 (th3:Int),.string Xu3] _ w21 (xp_argre HA3.out hkb (by omega)) (xp_re (xpCel.upd (Upd.of_new (S:=fun _=>False) HVw21.out) (fun _ _ h=>h) (fun _ h=>h) HL3.out) k3 21) HSM3.out (r:=10) (hid (exp_10 HF3.out.1 HF3.out.2 (by unfold expS;rfl)))).mono ?_;rintro e w22 ⟨rfl,hb⟩
   have HVw22:Hid (Below W.heap.size W w22):=hid (below_step HVw21.out hb)
   have R516:Hid (w22.heap[b5]? = some (.cells #[.slice lo2 l2.length lc2,.int .u64 0,.int .u64 0,.int .u64 (k2:Int),.bool ph2,.int .u64 (pn2:Int),.bool mh2,.int .u64 (mn2:Int),.bool gh2,.int .u64 (gn2:Int),.slice nco2 nc2.length ncc2,.slice nbo2 nb2.length nbc2,.slice eo2 es2.length ec2,.int .u32 (f2:Int),.string XU2] 32 (0,0))):=hid ((hb.block _ (row_lt R515.out)).trans R515.out)
   have R616:Hid (w22.heap[b6]? = some (.cells #[.slice lo2 l2.length lc2,.int .u64 (v2:Int),.int .u64 (t2:Int),.int .u64 (k2:Int),.bool ph2,.int .u64 (pn2:Int),.bool mh2,.int .u64 (mn2:Int),.bool gh2,.int .u64 (gn2:Int),.slice nco2 nc2.length ncc2,.slice nbo2 nb2.length nbc2,.slice eo2 es2.length ec2,.int .u32 (f2:Int),.string XU2] 32 (0,0))):=hid ((hb.block _ (row_lt R615.out)).trans R615.out)
   have R716:Hid (w22.heap[b7]? = some (.cells #[.slice lo3 l3.length lc3,.int .u64 (a3:Int),.int .u64 (t3:Int),.int .u64 (kz:Int),.bool bp3,.int .u64 (vp3:Int),.bool bm3,.int .u64 (vm3:Int),.bool bg3,.int .u64 (vg3:Int),.int .i32 sc3,.int .u64 (zc3:Int),.bool gp3,.int .i32 pb3.off,.slice po3 pb3.cs.length pc3,.string Xpu3,.bool gn3,.int .i32 nb3.off,.slice no3 nb3.cs.length nc3,.string Xnu3,.slice eo3 es3.length ec3,.int .u32 (f3:Int),.int .u64 (th3:Int),.string Xu3] 36 (0,0))):=hid ((hb.block _ (row_lt R715.out)).trans R715.out)
   have R816:Hid (w22.heap[b8]? = some (.cells #[.slice lo3 l3.length lc3,.int .u64 (a3:Int),.int .u64 (t3:Int),.int .u64 (k3:Int),.bool bp3,.int .u64 (vp3:Int),.bool bm3,.int .u64 (vm3:Int),.bool bg3,.int .u64 (vg3:Int),.int .i32 21,.int .u64 (zc3:Int),.bool gp3,.int .i32 pb3.off,.slice po3 pb3.cs.length pc3,.string Xpu3,.bool gn3,.int .i32 nb3.off,.slice no3 nb3.cs.length nc3,.string Xnu3,.slice eo3 es3.length ec3,.int .u32 (f3:Int),.int .u64 (th3:Int),.string Xu3] 36 (0,0))):=hid ((hb.block _ (row_lt R815.out)).trans R815.out)
   have R916:Hid (w22.heap[b9]? = some (.cells #[.slice (some ⟨g14,0,none⟩) m cap14,.int .u64 (a2:Int),.int .u64 (t2:Int),.int .u64 (k2:Int),.bool ph2,.int .u64 (pn2:Int),.bool mh2,.int .u64 (mn2:Int),.bool gh2,.int .u64 (gn2:Int),.slice nco2 nc2.length ncc2,.slice nbo2 nb2.length nbc2,.slice eo2 es2.length ec2,.int .u32 (f2:Int),.string XU2] 32 (0,0))):=hid ((hb.block _ (row_lt R915.out)).trans R915.out)
   have R1016:Hid (w22.heap[b10]? = some (.cells #[.slice lo2 l2.length lc2,.int .u64 (a2:Int),.int .u64 (t2:Int),.int .u64 (kc:Int),.bool ph2,.int .u64 (pn2:Int),.bool mh2,.int .u64 (mn2:Int),.bool gh2,.int .u64 (gn2:Int),.slice nco2 nc2.length ncc2,.slice nbo2 nb2.length nbc2,.slice eo2 es2.length ec2,.int .u32 (f2:Int),.string XU2] 32 (0,0))):=hid ((hb.block _ (row_lt R1015.out)).trans R1015.out)
   have HXw22:Hid (Below w15.heap.size w15 w22):=hid (below_step HXw21.out hb)
   clear hb
   refine hK _ _ ?_;clear hK K
   refine BigFrame.wpList_want (by rfl) (fun K hK=>?_);go_simp;refine hK _ _ ?_;clear hK K
   refine wpList_plain rfl (fun K hK=>?_);go_simp;refine hK _ _ ?_;clear hK K
   refine wpList_plain rfl (fun K hK=>?_);go_simp;refine hK _ _ ?_;clear hK K
   have HRK:Hid (hiCel.R w22 (fun _=>True) ((a2,(t2,(k2,((ph2,pn2),(nc2,(nb2,(es2,((l2++[qq,qq]),(f2,((mh2,mn2),(gh2,gn2))))))))))),u2) [.slice (some ⟨g14,0,none⟩) m cap14,.int .u64 (a2:Int),.int .u64 (t2:Int),.int .u64 (k2:Int),.bool ph2,.int .u64 (pn2:Int),.bool mh2,.int .u64 (mn2:Int),.bool gh2,.int .u64 (gn2:Int),.slice nco2 nc2.length ncc2,.slice nbo2 nb2.length nbc2,.slice eo2 es2.length ec2,.int .u32 (f2:Int),.string XU2]):=hid (by
    have h:=hi_rel (hiCel.upd (Upd.of_new (S:=fun _=>False) HVw22.out) (fun _ _ h=>h) (fun _ h=>h) HL2.out) (KRels.upd (Upd.of_new (S:=fun _=>False) HXw22.out) (fun _ _ h=>h) (fun _ h=>h) _ _ _ HKQ.out) (lc':=cap14) (fun _ _=>trivial)
    rw[show (l2++[qq,qq]).length=m from by rw[←HM.out];simp] at h
    exact h)
   refine BigFrame.wpList_want (by rfl) (fun K hK=>?_)
   refine wp_load_mid 32 (.tmp 9) rfl b9 0 rfl [.slice (some ⟨g14,0,none⟩) m cap14,.int .u64 (a2:Int),.int .u64 (t2:Int),.int .u64 (k2:Int),.bool ph2,.int .u64 (pn2:Int),.bool mh2,.int .u64 (mn2:Int),.bool gh2,.int .u64 (gn2:Int),.slice nco2 nc2.length ncc2,.slice nbo2 nb2.length nbc2,.slice eo2 es2.length ec2,.int .u32 (f2:Int),.string XU2] _ (range_rowc R916.out) Try.underlying32 rfl (by kernel_rfl) (hK _ _ ?_)
   clear hK K
   refine BigFrame.wpList_want (by rfl) (fun K hK=>?_);go_simp
   refine (hist_any ((a2,(t2,(k2,((ph2,pn2),(nc2,(nb2,(es2,((l2++[qq,qq]),(f2,((mh2,mn2),(gh2,gn2))))))))))),u2) [.slice (some ⟨g14,0,none⟩) m cap14,.int .u64 (a2:Int),.int .u64 (t2:Int),.int .u64 (k2:Int),.bool ph2,.int .u64 (pn2:Int),.bool mh2,.int .u64 (mn2:Int),.bool gh2,.int .u64 (gn2:Int),.slice nco2 nc2.length ncc2,.slice nbo2 nb2.length nbc2,.slice eo2 es2.length ec2,.int .u32 (f2:Int),.string XU2] _ w22 (hi_argl HA2.out (ksfit_app HKF.out.1 qq_fit) (kslim_app HKF.out.2 qq_lim) (by have:=HLL2.out;simp;omega)) HRK.out ⟨HSM2.out.1,HSM2.out.2.1,by have:=HLL2.out;show (l2++[qq,qq]).length≤1000000;simp;omega⟩ (r:=6) (hid (hist_6 HPF.out.1 HPF.out.2.1 (dup_qq l2 qq qq rfl)))).mono ?_;rintro e w23 ⟨rfl,hb⟩
   have HVw23:Hid (Below W.heap.size W w23):=hid (below_step HVw22.out hb)
   have R517:Hid (w23.heap[b5]? = some (.cells #[.slice lo2 l2.length lc2,.int .u64 0,.int .u64 0,.int .u64 (k2:Int),.bool ph2,.int .u64 (pn2:Int),.bool mh2,.int .u64 (mn2:Int),.bool gh2,.int .u64 (gn2:Int),.slice nco2 nc2.length ncc2,.slice nbo2 nb2.length nbc2,.slice eo2 es2.length ec2,.int .u32 (f2:Int),.string XU2] 32 (0,0))):=hid ((hb.block _ (row_lt R516.out)).trans R516.out)
   have R617:Hid (w23.heap[b6]? = some (.cells #[.slice lo2 l2.length lc2,.int .u64 (v2:Int),.int .u64 (t2:Int),.int .u64 (k2:Int),.bool ph2,.int .u64 (pn2:Int),.bool mh2,.int .u64 (mn2:Int),.bool gh2,.int .u64 (gn2:Int),.slice nco2 nc2.length ncc2,.slice nbo2 nb2.length nbc2,.slice eo2 es2.length ec2,.int .u32 (f2:Int),.string XU2] 32 (0,0))):=hid ((hb.block _ (row_lt R616.out)).trans R616.out)
   have R717:Hid (w23.heap[b7]? = some (.cells #[.slice lo3 l3.length lc3,.int .u64 (a3:Int),.int .u64 (t3:Int),.int .u64 (kz:Int),.bool bp3,.int .u64 (vp3:Int),.bool bm3,.int .u64 (vm3:Int),.bool bg3,.int .u64 (vg3:Int),.int .i32 sc3,.int .u64 (zc3:Int),.bool gp3,.int .i32 pb3.off,.slice po3 pb3.cs.length pc3,.string Xpu3,.bool gn3,.int .i32 nb3.off,.slice no3 nb3.cs.length nc3,.string Xnu3,.slice eo3 es3.length ec3,.int .u32 (f3:Int),.int .u64 (th3:Int),.string Xu3] 36 (0,0))):=hid ((hb.block _ (row_lt R716.out)).trans R716.out)
   have R817:Hid (w23.heap[b8]? = some (.cells #[.slice lo3 l3.length lc3,.int .u64 (a3:Int),.int .u64 (t3:Int),.int .u64 (k3:Int),.bool bp3,.int .u64 (vp3:Int),.bool bm3,.int .u64 (vm3:Int),.bool bg3,.int .u64 (vg3:Int),.int .i32 21,.int .u64 (zc3:Int),.bool gp3,.int .i32 pb3.off,.slice po3 pb3.cs.length pc3,.string Xpu3,.bool gn3,.int .i32 nb3.off,.slice no3 nb3.cs.length nc3,.string Xnu3,.slice eo3 es3.length ec3,.int .u32 (f3:Int),.int .u64 (th3:Int),.string Xu3] 36 (0,0))):=hid ((hb.block _ (row_lt R816.out)).trans R816.out)
   have R917:Hid (w23.heap[b9]? = some (.cells #[.slice (some ⟨g14,0,none⟩) m cap14,.int .u64 (a2:Int),.int .u64 (t2:Int),.int .u64 (k2:Int),.bool ph2,.int .u64 (pn2:Int),.bool mh2,.int .u64 (mn2:Int),.bool gh2,.int .u64 (gn2:Int),.slice nco2 nc2.length ncc2,.slice nbo2 nb2.length nbc2,.slice eo2 es2.length ec2,.int .u32 (f2:Int),.string XU2] 32 (0,0))):=hid ((hb.block _ (row_lt R916.out)).trans R916.out)
   have R1017:Hid (w23.heap[b10]? = some (.cells #[.slice lo2 l2.length lc2,.int .u64 (a2:Int),.int .u64 (t2:Int),.int .u64 (kc:Int),.bool ph2,.int .u64 (pn2:Int),.bool mh2,.int .u64 (mn2:Int),.bool gh2,.int .u64 (gn2:Int),.slice nco2 nc2.length ncc2,.slice nbo2 nb2.length nbc2,.slice eo2 es2.length ec2,.int .u32 (f2:Int),.string XU2] 32 (0,0))):=hid ((hb.block _ (row_lt R1016.out)).trans R1016.out)
   have HXw23:Hid (Below w15.heap.size w15 w23):=hid (below_step HXw22.out hb)
   clear hb
   refine hK _ _ ?_;clear hK K
   refine BigFrame.wpList_want (by rfl) (fun K hK=>?_);go_simp;refine hK _ _ ?_;clear hK K
   refine wpList_plain rfl (fun K hK=>?_);go_simp;refine hK _ _ ?_;clear hK K
   refine wpList_plain rfl (fun K hK=>?_);go_simp;refine hK _ _ ?_;clear hK K
   have hc210:w23.cell? ⟨b2,10,none⟩=some (.slice nco2 nc2.length ncc2):=row_cell ((HVw23.out.block _ (row_lt HR2.out)).trans HR2.out) (j:=10) rfl
   refine BigFrame.wpList_want (by rfl) (fun K hK=>?_);go_simp;refine hK _ _ ?_;clear hK K
   refine BigFrame.wpList_want (by rfl) (fun K hK=>?_);go_simp;refine hK _ _ ?_;clear hK K
   refine BigFrame.wpList_want (by rfl) (fun K hK=>?_);go_simp;refine hK _ _ ?_;clear hK K
   clear hc210
   by_cases hcz:nc2.length=0
   ·have d1:((nc2.length:Int) == 0)=true:=by simp[hcz]
    have d2:(nc2.length == 0)=true:=by simp[hcz]
    clear hcz
    refine BigFrame.wpList_want (by rfl) (fun K hK=>?_);go_simp;refine hK _ _ ?_;clear hK K
    refine BigFrame.wpList_want (by rfl) (fun K hK=>?_);go_simp;refine hK _ _ ?_;clear hK K
    refine wpList_skip (by rfl) ?_
    refine wpList_skip (by rfl) ?_
    refine wpList_skip (by rfl) ?_
    refine BigFrame.wpList_want (by rfl) (fun K hK=>?_);go_simp;refine hK _ _ ?_;clear hK K
    refine wpList_plain rfl (fun K hK=>?_);go_simp;refine hK _ _ ?_;clear hK K
    go_wp2_with fail
    go_ret
    exact ⟨rfl,HBW.out.trans (HVw23.out.mono HBW.out.size)⟩
   ·have d1:((nc2.length:Int) == 0)=false:=by simp[hcz]
    have d2:(nc2.length == 0)=false:=by simp[hcz]
    have HCZ:=hid hcz
    clear hcz
    refine BigFrame.wpList_want (by rfl) (fun K hK=>?_);go_simp;refine hK _ _ ?_;clear hK K
    refine BigFrame.wpList_want (by rfl) (fun K hK=>?_);go_simp;refine hK _ _ ?_;clear hK K
    refine BigFrame.wpList_want (by rfl) (fun K hK=>?_)
    refine wp_load_mid 32 (.tmp 10) rfl b10 0 rfl [.slice lo2 l2.length lc2,.int .u64 (a2:Int),.int .u64 (t2:Int),.int .u64 (kc:Int),.bool ph2,.int .u64 (pn2:Int),.bool mh2,.int .u64 (mn2:Int),.bool gh2,.int .u64 (gn2:Int),.slice nco2 nc2.length ncc2,.slice nbo2 nb2.length nbc2,.slice eo2 es2.length ec2,.int .u32 (f2:Int),.string XU2] _ (range_rowc R1017.out) Try.underlying32 rfl (by kernel_rfl) (hK _ _ ?_)
    clear hK K
    refine BigFrame.wpList_want (by rfl) (fun K hK=>?_);go_simp
    refine (hist_any ((a2,(t2,(kc,((ph2,pn2),(nc2,(nb2,(es2,(l2,(f2,((mh2,mn2),(gh2,gn2))))))))))),u2) [.slice lo2 l2.length lc2,.int .u64 (a2:Int),.int .u64 (t2:Int),.int .u64 (kc:Int),.bool ph2,.int .u64 (pn2:Int),.bool mh2,.int .u64 (mn2:Int),.bool gh2,.int .u64 (gn2:Int),.slice nco2 nc2.length ncc2,.slice nbo2 nb2.length nbc2,.slice eo2 es2.length ec2,.int .u32 (f2:Int),.string XU2] _ w23 (hi_argre HA2.out haa hta HVB.out.2.2.1) (hi_re (hiCel.upd (Upd.of_new (S:=fun _=>False) HVw23.out) (fun _ _ h=>h) (fun _ h=>h) HL2.out) a2 t2 kc) HSM2.out (r:=8) (hid (hist_8 HF2.out.1 (histT_next HF2.out.2 (by have:=HCZ.out;omega) HVB.out.2.2.2.2)))).mono ?_;rintro e w24 ⟨rfl,hb⟩
    have HVw24:Hid (Below W.heap.size W w24):=hid (below_step HVw23.out hb)
    have R518:Hid (w24.heap[b5]? = some (.cells #[.slice lo2 l2.length lc2,.int .u64 0,.int .u64 0,.int .u64 (k2:Int),.bool ph2,.int .u64 (pn2:Int),.bool mh2,.int .u64 (mn2:Int),.bool gh2,.int .u64 (gn2:Int),.slice nco2 nc2.length ncc2,.slice nbo2 nb2.length nbc2,.slice eo2 es2.length ec2,.int .u32 (f2:Int),.string XU2] 32 (0,0))):=hid ((hb.block _ (row_lt R517.out)).trans R517.out)
    have R618:Hid (w24.heap[b6]? = some (.cells #[.slice lo2 l2.length lc2,.int .u64 (v2:Int),.int .u64 (t2:Int),.int .u64 (k2:Int),.bool ph2,.int .u64 (pn2:Int),.bool mh2,.int .u64 (mn2:Int),.bool gh2,.int .u64 (gn2:Int),.slice nco2 nc2.length ncc2,.slice nbo2 nb2.length nbc2,.slice eo2 es2.length ec2,.int .u32 (f2:Int),.string XU2] 32 (0,0))):=hid ((hb.block _ (row_lt R617.out)).trans R617.out)
    have R718:Hid (w24.heap[b7]? = some (.cells #[.slice lo3 l3.length lc3,.int .u64 (a3:Int),.int .u64 (t3:Int),.int .u64 (kz:Int),.bool bp3,.int .u64 (vp3:Int),.bool bm3,.int .u64 (vm3:Int),.bool bg3,.int .u64 (vg3:Int),.int .i32 sc3,.int .u64 (zc3:Int),.bool gp3,.int .i32 pb3.off,.slice po3 pb3.cs.length pc3,.string Xpu3,.bool gn3,.int .i32 nb3.off,.slice no3 nb3.cs.length nc3,.string Xnu3,.slice eo3 es3.length ec3,.int .u32 (f3:Int),.int .u64 (th3:Int),.string Xu3] 36 (0,0))):=hid ((hb.block _ (row_lt R717.out)).trans R717.out)
    have R818:Hid (w24.heap[b8]? = some (.cells #[.slice lo3 l3.length lc3,.int .u64 (a3:Int),.int .u64 (t3:Int),.int .u64 (k3:Int),.bool bp3,.int .u64 (vp3:Int),.bool bm3,.int .u64 (vm3:Int),.bool bg3,.int .u64 (vg3:Int),.int .i32 21,.int .u64 (zc3:Int),.bool gp3,.int .i32 pb3.off,.slice po3 pb3.cs.length pc3,.string Xpu3,.bool gn3,.int .i32 nb3.off,.slice no3 nb3.cs.length nc3,.string Xnu3,.slice eo3 es3.length ec3,.int .u32 (f3:Int),.int .u64 (th3:Int),.string Xu3] 36 (0,0))):=hid ((hb.block _ (row_lt R817.out)).trans R817.out)
    have R918:Hid (w24.heap[b9]? = some (.cells #[.slice (some ⟨g14,0,none⟩) m cap14,.int .u64 (a2:Int),.int .u64 (t2:Int),.int .u64 (k2:Int),.bool ph2,.int .u64 (pn2:Int),.bool mh2,.int .u64 (mn2:Int),.bool gh2,.int .u64 (gn2:Int),.slice nco2 nc2.length ncc2,.slice nbo2 nb2.length nbc2,.slice eo2 es2.length ec2,.int .u32 (f2:Int),.string XU2] 32 (0,0))):=hid ((hb.block _ (row_lt R917.out)).trans R917.out)
    have R1018:Hid (w24.heap[b10]? = some (.cells #[.slice lo2 l2.length lc2,.int .u64 (a2:Int),.int .u64 (t2:Int),.int .u64 (kc:Int),.bool ph2,.int .u64 (pn2:Int),.bool mh2,.int .u64 (mn2:Int),.bool gh2,.int .u64 (gn2:Int),.slice nco2 nc2.length ncc2,.slice nbo2 nb2.length nbc2,.slice eo2 es2.length ec2,.int .u32 (f2:Int),.string XU2] 32 (0,0))):=hid ((hb.block _ (row_lt R1017.out)).trans R1017.out)
    have HXw24:Hid (Below w15.heap.size w15 w24):=hid (below_step HXw23.out hb)
    clear hb
    refine hK _ _ ?_;clear hK K
    refine BigFrame.wpList_want (by rfl) (fun K hK=>?_);go_simp;refine hK _ _ ?_;clear hK K
    refine BigFrame.wpList_want (by rfl) (fun K hK=>?_);go_simp;refine hK _ _ ?_;clear hK K
    refine wpList_plain rfl (fun K hK=>?_);go_simp;refine hK _ _ ?_;clear hK K
    go_wp2_with fail
    go_ret
    exact ⟨rfl,HBW.out.trans (HVw24.out.mono HBW.out.size)⟩
end Go.Proofs.Ytmlghmjjlpioeaa
