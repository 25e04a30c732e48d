/-
  hygref.Exp of any two.
-/
import Derived.Test.YtcblkndiclkacaaDoorXpJoin
import Derived.Test.YtcblkndiclkacaaDoorExEqf
import Derived.Test.YtcblkndiclkacaaDoorNumsK
import Derived.Test.YtcblkndiclkacaaDoorXpBack
set_option maxRecDepth 1000000
set_option maxHeartbeats 16000000
namespace Go.Proofs.YtcblkndiclkacaaDoor
open Go.RowKit
theorem refB_alike (x y:Bk) (u v:List UInt8) (ao bo:Option Addr) (cap bcap:Nat) (P Q:Nat→Prop) (w:World) (hla:x.cs.length≤1000000000) (ha:CRels natCel w P x.cs ao) (hb:CRels natCel w Q y.cs bo) :
    Calls Tryd.prog 15 #[.agg #[.int .i32 x.off,.slice ao x.cs.length cap,.string ⟨u.toArray⟩],.agg #[.int .i32 y.off,.slice bo y.cs.length bcap,.string ⟨v.toArray⟩]] w fun e w'=>e = .returned (.bool (alike (x,u) (y,v)))∧Below w.heap.size w w':=refB_any x y u v ao bo cap bcap w (Lib.hid (nats_of_rels ha)) (Lib.hid (nats_of_rels hb)) hla (Lib.hid (by
  obtain ⟨o1,l1⟩:=x
  obtain ⟨o2,l2⟩:=y
  by_cases h:o1=o2∧u=v∧l1=l2
  · rw[alike_yes (by rw[h.1,h.2.1,h.2.2]),decide_eq_true h]
  · rw[alike_no (fun e=>h (by simp only[Prod.mk.injEq,Bk.mk.injEq] at e;exact ⟨e.1.1,e.2,e.1.2⟩)),decide_eq_false h]))
theorem hopt_any (b1 b2:Bool) (n1 n2:Nat) (w:World):Calls Tryd.prog 55 #[.agg #[.bool b1,.int .u64 (n1:Int)],.agg #[.bool b2,.int .u64 (n2:Int)]] w fun e w'=>e = .returned (.bool (alike (b1,n1) (b2,n2)))∧Below w.heap.size w w':=by
  have HB0:Hid (Below w.heap.size w ((w.alloc (.cells #[.bool b1,.int .u64 (n1:Int)] 42)).alloc (.cells #[.bool b2,.int .u64 (n2:Int)] 42))):=Lib.hid (below_step (below_new _ _) (below_new _ _))
  by_cases hb:b1=b2
  case neg =>
    have d1:(b1 == b2)=false:=beq_eq_false_iff_ne.2 hb
    rw[alike_no (fun h=>hb (by simp only[Prod.mk.injEq] at h;exact h.1))]
    clear hb
    go_enter Tryd.func55,Tryd.ntmps55
    go_wp2_with fail
    go_ret
    exact ⟨rfl,HB0.out⟩
  case pos =>
    have d1:(b1 == b2)=true:=by rw[beq_iff_eq];exact hb
    by_cases hn:n1=n2
    case neg =>
      have d2:((n1:Int) == (n2:Int))=false:=by rw[beq_eq_false_iff_ne];omega
      rw[alike_no (fun h=>hn (by simp only[Prod.mk.injEq] at h;exact h.2))]
      clear hb hn
      go_enter Tryd.func55,Tryd.ntmps55
      go_wp2_with fail
      go_ret
      exact ⟨rfl,HB0.out⟩
    case pos =>
      have d2:((n1:Int) == (n2:Int))=true:=by rw[beq_iff_eq];omega
      rw[alike_yes (by rw[hb,hn])]
      clear hb hn
      go_enter Tryd.func55,Tryd.ntmps55
      go_wp2_with fail
      go_ret
      exact ⟨rfl,HB0.out⟩
theorem xp_ref (x y:Xp) (ca cb:List Value) (P Q:Nat→Prop) (w:World) (harg:xp_arg x) (hlim:xp_wt x≤1000000) (ha:xpCel.R w P x ca) (hb:xpCel.R w Q y cb) :
 Calls Tryd.prog 27 #[.agg ca.toArray,.agg cb.toArray] w fun e w'=>e = .returned (.bool (alike x y))∧Below w.heap.size w w':=by
 obtain ⟨⟨l1,⟨a1,⟨t1,⟨k1,⟨⟨bp1,vp1⟩,⟨sc1,⟨zc1,⟨⟨gp1,pb1,pu1⟩,⟨⟨gn1,nb1,nu1⟩,⟨f1,⟨es1,⟨⟨bm1,vm1⟩,⟨⟨bg1,vg1⟩,th1⟩⟩⟩⟩⟩⟩⟩⟩⟩⟩⟩⟩⟩,u1⟩:=x
 obtain ⟨⟨l2,⟨a2,⟨t2,⟨k2,⟨⟨bp2,vp2⟩,⟨sc2,⟨zc2,⟨⟨gp2,pb2,pu2⟩,⟨⟨gn2,nb2,nu2⟩,⟨f2,⟨es2,⟨⟨bm2,vm2⟩,⟨⟨bg2,vg2⟩,th2⟩⟩⟩⟩⟩⟩⟩⟩⟩⟩⟩⟩⟩,u2⟩:=y
 obtain ⟨lo1,lc1,po1,pc1,no1,nc1,eo1,ec1,rfl,ral,rapb,ranb,raes⟩:=ha
 obtain ⟨lo2,lc2,po2,pc2,no2,nc2,eo2,ec2,rfl,rbl,rbpb,rbnb,rbes⟩:=hb
 obtain ⟨_,hll1,hzl1,_,_,_,_,_,_,_,_,_,_,_,_,_,hfes1,hzes1,_,_,_,_⟩:=harg
 have hw2:100+(ksw l1+10 * pb1.cs.length+pu1.length+10 * nb1.cs.length+nu1.length+lwt exSb es1+u1.length)≤1000000:=hlim
 have HRAl:=Lib.hid ral
 have HRBl:=Lib.hid rbl
 have HRApb:=Lib.hid rapb
 have HRBpb:=Lib.hid rbpb
 have HRAnb:=Lib.hid ranb
 have HRBnb:=Lib.hid rbnb
 have HRAes:=Lib.hid raes
 have HRBes:=Lib.hid rbes
 have HLENl:=Lib.hid hzl1
 have HLIMl:=Lib.hid hll1
 have HLENes:=Lib.hid hzes1
 have HLIMes:=Lib.hid hfes1
 have HBLpb:Hid (pb1.cs.length≤1000000000):=Lib.hid (by omega)
 have HBLnb:Hid (nb1.cs.length≤1000000000):=Lib.hid (by omega)
 clear hlim hw2 ral rbl rapb rbpb ranb rbnb raes rbes hzl1 hll1 hzes1 hfes1
 dsimp only[strV]
 have HKpb:=Lib.hid (fun w' (hb:Below w.heap.size w w')=>refB_alike pb1 pb2 pu1 pu2 po1 po2 pc1 pc2 P Q w' HBLpb.out (HRApb.out.below hb) (HRBpb.out.below hb))
 have HKnb:=Lib.hid (fun w' (hb:Below w.heap.size w w')=>refB_alike nb1 nb2 nu1 nu2 no1 no2 nc1 nc2 P Q w' HBLnb.out (HRAnb.out.below hb) (HRBnb.out.below hb))
 obtain ⟨Xpu1,hpu1⟩:∃ X:ByteArray,(⟨pu1.toArray⟩:ByteArray)=X:=⟨_,rfl⟩
 have gpu1:Xpu1.data.toList=pu1:=by rw[←hpu1]
 obtain ⟨Xpu2,hpu2⟩:∃ X:ByteArray,(⟨pu2.toArray⟩:ByteArray)=X:=⟨_,rfl⟩
 have gpu2:Xpu2.data.toList=pu2:=by rw[←hpu2]
 obtain ⟨Xnu1,hnu1⟩:∃ X:ByteArray,(⟨nu1.toArray⟩:ByteArray)=X:=⟨_,rfl⟩
 have gnu1:Xnu1.data.toList=nu1:=by rw[←hnu1]
 obtain ⟨Xnu2,hnu2⟩:∃ X:ByteArray,(⟨nu2.toArray⟩:ByteArray)=X:=⟨_,rfl⟩
 have gnu2:Xnu2.data.toList=nu2:=by rw[←hnu2]
 obtain ⟨Xu1,hu1⟩:∃ X:ByteArray,(⟨u1.toArray⟩:ByteArray)=X:=⟨_,rfl⟩
 have gu1:Xu1.data.toList=u1:=by rw[←hu1]
 obtain ⟨Xu2,hu2⟩:∃ X:ByteArray,(⟨u2.toArray⟩:ByteArray)=X:=⟨_,rfl⟩
 have gu2:Xu2.data.toList=u2:=by rw[←hu2]
 rw[hpu1,hnu1,hu1,hpu2,hnu2,hu2]
 rw[hpu1,hpu2] at HKpb
 rw[hnu1,hnu2] at HKnb
 clear hpu1 hnu1 hu1 hpu2 hnu2 hu2
 obtain ⟨W,hW⟩:∃ W,(w.alloc (.cells #[.slice lo1 l1.length lc1,.int .u64 (a1:Int),.int .u64 (t1:Int),.int .u64 (k1:Int),.bool bp1,.int .u64 (vp1:Int),.bool bm1,.int .u64 (vm1:Int),.bool bg1,.int .u64 (vg1:Int),.int .i32 sc1,.int .u64 (zc1:Int),.bool gp1,.int .i32 pb1.off,.slice po1 pb1.cs.length pc1,.string Xpu1,.bool gn1,.int .i32 nb1.off,.slice no1 nb1.cs.length nc1,.string Xnu1,.slice eo1 es1.length ec1,.int .u32 (f1:Int),.int .u64 (th1:Int),.string Xu1] 46)).alloc (.cells #[.slice lo2 l2.length lc2,.int .u64 (a2:Int),.int .u64 (t2:Int),.int .u64 (k2:Int),.bool bp2,.int .u64 (vp2:Int),.bool bm2,.int .u64 (vm2:Int),.bool bg2,.int .u64 (vg2:Int),.int .i32 sc2,.int .u64 (zc2:Int),.bool gp2,.int .i32 pb2.off,.slice po2 pb2.cs.length pc2,.string Xpu2,.bool gn2,.int .i32 nb2.off,.slice no2 nb2.cs.length nc2,.string Xnu2,.slice eo2 es2.length ec2,.int .u32 (f2:Int),.int .u64 (th2:Int),.string Xu2] 46)=W:=⟨_,rfl⟩
 have HBW:Hid (Below w.heap.size w W):=Lib.hid (by rw[←hW];exact below_step (below_new _ _) (below_new _ _))
 have HXA:Hid (W.heap[w.heap.size]? = some (.cells #[.slice lo1 l1.length lc1,.int .u64 (a1:Int),.int .u64 (t1:Int),.int .u64 (k1:Int),.bool bp1,.int .u64 (vp1:Int),.bool bm1,.int .u64 (vm1:Int),.bool bg1,.int .u64 (vg1:Int),.int .i32 sc1,.int .u64 (zc1:Int),.bool gp1,.int .i32 pb1.off,.slice po1 pb1.cs.length pc1,.string Xpu1,.bool gn1,.int .i32 nb1.off,.slice no1 nb1.cs.length nc1,.string Xnu1,.slice eo1 es1.length ec1,.int .u32 (f1:Int),.int .u64 (th1:Int),.string Xu1] 46 (0,0))):=Lib.hid (by rw[←hW];exact (Below.heap_alloc _ _ _ (by simp)).trans (heap_alloc_new w _))
 have HXB:Hid (W.heap[w.heap.size+1]? = some (.cells #[.slice lo2 l2.length lc2,.int .u64 (a2:Int),.int .u64 (t2:Int),.int .u64 (k2:Int),.bool bp2,.int .u64 (vp2:Int),.bool bm2,.int .u64 (vm2:Int),.bool bg2,.int .u64 (vg2:Int),.int .i32 sc2,.int .u64 (zc2:Int),.bool gp2,.int .i32 pb2.off,.slice po2 pb2.cs.length pc2,.string Xpu2,.bool gn2,.int .i32 nb2.off,.slice no2 nb2.cs.length nc2,.string Xnu2,.slice eo2 es2.length ec2,.int .u32 (f2:Int),.int .u64 (th2:Int),.string Xu2] 46 (0,0))):=Lib.hid (by rw[←hW];have:=heap_alloc_new (w.alloc (.cells #[.slice lo1 l1.length lc1,.int .u64 (a1:Int),.int .u64 (t1:Int),.int .u64 (k1:Int),.bool bp1,.int .u64 (vp1:Int),.bool bm1,.int .u64 (vm1:Int),.bool bg1,.int .u64 (vg1:Int),.int .i32 sc1,.int .u64 (zc1:Int),.bool gp1,.int .i32 pb1.off,.slice po1 pb1.cs.length pc1,.string Xpu1,.bool gn1,.int .i32 nb1.off,.slice no1 nb1.cs.length nc1,.string Xnu1,.slice eo1 es1.length ec1,.int .u32 (f1:Int),.int .u64 (th1:Int),.string Xu1] 46)) (.cells #[.slice lo2 l2.length lc2,.int .u64 (a2:Int),.int .u64 (t2:Int),.int .u64 (k2:Int),.bool bp2,.int .u64 (vp2:Int),.bool bm2,.int .u64 (vm2:Int),.bool bg2,.int .u64 (vg2:Int),.int .i32 sc2,.int .u64 (zc2:Int),.bool gp2,.int .i32 pb2.off,.slice po2 pb2.cs.length pc2,.string Xpu2,.bool gn2,.int .i32 nb2.off,.slice no2 nb2.cs.length nc2,.string Xnu2,.slice eo2 es2.length ec2,.int .u32 (f2:Int),.int .u64 (th2:Int),.string Xu2] 46);simpa using this)
 have HKl:=Lib.hid (fun w' (hb:Below w.heap.size w w')=>hkeys_same l1 l2 lo1 lo2 lc1 lc2 P Q w' HLENl.out HLIMl.out (HRAl.out.below hb) (HRBl.out.below hb))
 have HKes:=Lib.hid (fun w' (hb:Below w.heap.size w w')=>hrefex_any es1 HLIMes.out es2 eo1 eo2 ec1 ec2 P Q w' HLENes.out (HRAes.out.below hb) (HRBes.out.below hb))
 have HKop:=Lib.hid (fun w' (_:Below w.heap.size w w')=>hopt_any bp1 bp2 vp1 vp2 w')
 have HKom:=Lib.hid (fun w' (_:Below w.heap.size w w')=>hopt_any bm1 bm2 vm1 vm2 w')
 have HKog:=Lib.hid (fun w' (_:Below w.heap.size w w')=>hopt_any bg1 bg2 vg1 vg2 w')
 have HW:=Lib.hid hW
 clear hW
 go_enter Tryd.func27,Tryd.ntmps27
 go_upto_region 1 with fail
 rw[HW.out]
 obtain ⟨xa0,xa1,xa2,xa3,xa4,xa5,xa6,xa7,xa8,xa9,xa10,xa11,xa12,xa13,xa14,xa15,xa16,xa17,xa18,xa19,xa20,xa21,xa22,xa23⟩:=row24 HXA.out
 obtain ⟨xb0,xb1,xb2,xb3,xb4,xb5,xb6,xb7,xb8,xb9,xb10,xb11,xb12,xb13,xb14,xb15,xb16,xb17,xb18,xb19,xb20,xb21,xb22,xb23⟩:=row24 HXB.out
 refine wp_region_lit ?_
 iterate 4 (refine wpList_plain rfl (fun K hK=>?_);go_simp;refine hK _ _ ?_;clear hK K)
 cases hkl:alike l1 l2
 case' false =>
  have hll:¬l1=l2:=fun h=>by rw[alike_yes h] at hkl;cases hkl
  refine wpList_plain rfl (fun K hK=>?_);go_simp
  refine (HKl.out W HBW.out).mono ?_;rintro e w5 ⟨rfl,hb4⟩
  rw[hkl]
  refine hK _ _ ?_;clear hK K
  have HBw5:=Lib.hid (below_step HBW.out hb4)
  iterate 1 (refine wpList_plain rfl (fun K hK=>?_);go_simp;refine hK _ _ ?_;clear hK K)
  refine tail_false (r:=4) (N:=122) _ [10] _ (by kernel_rfl) rfl (fun s hs=>?_) (fun a' hd hr=>?_)
  · obtain rfl:s=10:=by simpa using hs
    rfl
  · go_wp2_with fail
    (try simp only[Exit.inBlock,Exit.then])
    refine bodyPost_ret (results_tmp rfl _ _ _) hd ?_
    exact ⟨by rw[alike_no (x:=((l1,(a1,(t1,(k1,((bp1,vp1),(sc1,(zc1,((gp1,pb1,pu1),((gn1,nb1,nu1),(f1,(es1,((bm1,vm1),((bg1,vg1),th1))))))))))))),u1)) (y:=((l2,(a2,(t2,(k2,((bp2,vp2),(sc2,(zc2,((gp2,pb2,pu2),((gn2,nb2,nu2),(f2,(es2,((bm2,vm2),((bg2,vg2),th2))))))))))))),u2)) (fun h=>hll (by simp only[Prod.mk.injEq] at h;exact h.1.1)),show a'.tmps.getD 4 undef = .bool false by rw[Array.getD_eq_getD_getElem?,hr];rfl],HBw5.out⟩
 case' true =>
  have hll:=Lib.hid (alike_iff.1 hkl)
  refine wpList_plain rfl (fun K hK=>?_);go_simp
  refine (HKl.out W HBW.out).mono ?_;rintro e w5 ⟨rfl,hb4⟩
  rw[hkl]
  refine hK _ _ ?_;clear hK K
  have HBw5:=Lib.hid (below_step HBW.out hb4)
  have HAw5:=Lib.hid ((hb4.block _ (row_lt HXA.out)).trans HXA.out)
  have HQw5:=Lib.hid ((hb4.block _ (row_lt HXB.out)).trans HXB.out)
  clear hb4 hkl xa0 xb0 xa1 xb1 xa2 xb2 xa3 xb3 xa4 xb4 xa5 xb5 xa6 xb6 xa7 xb7 xa8 xb8 xa9 xb9 xa10 xb10 xa11 xb11 xa12 xb12 xa13 xb13 xa14 xb14 xa15 xb15 xa16 xb16 xa17 xb17 xa18 xb18 xa19 xb19 xa20 xb20 xa21 xb21 xa22 xb22 xa23 xb23
  iterate 1 (refine wpList_plain rfl (fun K hK=>?_);go_simp;refine hK _ _ ?_;clear hK K)
  obtain ⟨xa0,xa1,xa2,xa3,xa4,xa5,xa6,xa7,xa8,xa9,xa10,xa11,xa12,xa13,xa14,xa15,xa16,xa17,xa18,xa19,xa20,xa21,xa22,xa23⟩:=row24 HAw5.out
  obtain ⟨xb0,xb1,xb2,xb3,xb4,xb5,xb6,xb7,xb8,xb9,xb10,xb11,xb12,xb13,xb14,xb15,xb16,xb17,xb18,xb19,xb20,xb21,xb22,xb23⟩:=row24 HQw5.out
  iterate 4 (refine BigFrame.wpList_want (by rfl) (fun K hK=>?_);go_simp;refine hK _ _ ?_;clear hK K)
  by_cases ea:a1=a2
  case neg =>
   have da:((a1:Int) == (a2:Int))=false:=by rw[beq_eq_false_iff_ne];omega
   iterate 1 (refine BigFrame.wpList_want (by rfl) (fun K hK=>?_);go_simp;refine hK _ _ ?_;clear hK K)
   iterate 2 (refine wpList_plain rfl (fun K hK=>?_);go_simp;refine hK _ _ ?_;clear hK K)
   refine tail_false (r:=4) (N:=122) _ [17] _ (by kernel_rfl) rfl (fun s hs=>?_) (fun a' hd hr=>?_)
   · obtain rfl:s=17:=by simpa using hs
     rfl
   · go_wp2_with fail
     (try simp only[Exit.inBlock,Exit.then])
     refine bodyPost_ret (results_tmp rfl _ _ _) hd ?_
     exact ⟨by rw[alike_no (x:=((l1,(a1,(t1,(k1,((bp1,vp1),(sc1,(zc1,((gp1,pb1,pu1),((gn1,nb1,nu1),(f1,(es1,((bm1,vm1),((bg1,vg1),th1))))))))))))),u1)) (y:=((l2,(a2,(t2,(k2,((bp2,vp2),(sc2,(zc2,((gp2,pb2,pu2),((gn2,nb2,nu2),(f2,(es2,((bm2,vm2),((bg2,vg2),th2))))))))))))),u2)) (fun h=>ea (by simp only[Prod.mk.injEq] at h;exact h.1.2.1)),show a'.tmps.getD 4 undef = .bool false by rw[Array.getD_eq_getD_getElem?,hr];rfl],HBw5.out⟩
  case pos =>
   have da:((a1:Int) == (a2:Int))=true:=by rw[beq_iff_eq];omega
   replace ea:=Lib.hid ea
   iterate 1 (refine BigFrame.wpList_want (by rfl) (fun K hK=>?_);go_simp;refine hK _ _ ?_;clear hK K)
   iterate 2 (refine wpList_plain rfl (fun K hK=>?_);go_simp;refine hK _ _ ?_;clear hK K)
   clear da
   iterate 4 (refine BigFrame.wpList_want (by rfl) (fun K hK=>?_);go_simp;refine hK _ _ ?_;clear hK K)
   by_cases et:t1=t2
   case neg =>
    have dt:((t1:Int) == (t2:Int))=false:=by rw[beq_eq_false_iff_ne];omega
    iterate 1 (refine BigFrame.wpList_want (by rfl) (fun K hK=>?_);go_simp;refine hK _ _ ?_;clear hK K)
    iterate 2 (refine wpList_plain rfl (fun K hK=>?_);go_simp;refine hK _ _ ?_;clear hK K)
    refine tail_false (r:=4) (N:=122) _ [24] _ (by kernel_rfl) rfl (fun s hs=>?_) (fun a' hd hr=>?_)
    · obtain rfl:s=24:=by simpa using hs
      rfl
    · go_wp2_with fail
      (try simp only[Exit.inBlock,Exit.then])
      refine bodyPost_ret (results_tmp rfl _ _ _) hd ?_
      exact ⟨by rw[alike_no (x:=((l1,(a1,(t1,(k1,((bp1,vp1),(sc1,(zc1,((gp1,pb1,pu1),((gn1,nb1,nu1),(f1,(es1,((bm1,vm1),((bg1,vg1),th1))))))))))))),u1)) (y:=((l2,(a2,(t2,(k2,((bp2,vp2),(sc2,(zc2,((gp2,pb2,pu2),((gn2,nb2,nu2),(f2,(es2,((bm2,vm2),((bg2,vg2),th2))))))))))))),u2)) (fun h=>et (by simp only[Prod.mk.injEq] at h;exact h.1.2.2.1)),show a'.tmps.getD 4 undef = .bool false by rw[Array.getD_eq_getD_getElem?,hr];rfl],HBw5.out⟩
   case pos =>
    have dt:((t1:Int) == (t2:Int))=true:=by rw[beq_iff_eq];omega
    replace et:=Lib.hid et
    iterate 1 (refine BigFrame.wpList_want (by rfl) (fun K hK=>?_);go_simp;refine hK _ _ ?_;clear hK K)
    iterate 2 (refine wpList_plain rfl (fun K hK=>?_);go_simp;refine hK _ _ ?_;clear hK K)
    clear dt
    iterate 4 (refine BigFrame.wpList_want (by rfl) (fun K hK=>?_);go_simp;refine hK _ _ ?_;clear hK K)
    by_cases ek:k1=k2
    case neg =>
     have dk:((k1:Int) == (k2:Int))=false:=by rw[beq_eq_false_iff_ne];omega
     iterate 1 (refine BigFrame.wpList_want (by rfl) (fun K hK=>?_);go_simp;refine hK _ _ ?_;clear hK K)
     iterate 2 (refine wpList_plain rfl (fun K hK=>?_);go_simp;refine hK _ _ ?_;clear hK K)
     refine tail_false (r:=4) (N:=122) _ [31] _ (by kernel_rfl) rfl (fun s hs=>?_) (fun a' hd hr=>?_)
     · obtain rfl:s=31:=by simpa using hs
       rfl
     · go_wp2_with fail
       (try simp only[Exit.inBlock,Exit.then])
       refine bodyPost_ret (results_tmp rfl _ _ _) hd ?_
       exact ⟨by rw[alike_no (x:=((l1,(a1,(t1,(k1,((bp1,vp1),(sc1,(zc1,((gp1,pb1,pu1),((gn1,nb1,nu1),(f1,(es1,((bm1,vm1),((bg1,vg1),th1))))))))))))),u1)) (y:=((l2,(a2,(t2,(k2,((bp2,vp2),(sc2,(zc2,((gp2,pb2,pu2),((gn2,nb2,nu2),(f2,(es2,((bm2,vm2),((bg2,vg2),th2))))))))))))),u2)) (fun h=>ek (by simp only[Prod.mk.injEq] at h;exact h.1.2.2.2.1)),show a'.tmps.getD 4 undef = .bool false by rw[Array.getD_eq_getD_getElem?,hr];rfl],HBw5.out⟩
    case pos =>
     have dk:((k1:Int) == (k2:Int))=true:=by rw[beq_iff_eq];omega
     replace ek:=Lib.hid ek
     iterate 1 (refine BigFrame.wpList_want (by rfl) (fun K hK=>?_);go_simp;refine hK _ _ ?_;clear hK K)
     iterate 2 (refine wpList_plain rfl (fun K hK=>?_);go_simp;refine hK _ _ ?_;clear hK K)
     clear dk
     iterate 4 (refine BigFrame.wpList_want (by rfl) (fun K hK=>?_);go_simp;refine hK _ _ ?_;clear hK K)
     cases hkop:alike (bp1,vp1) (bp2,vp2)
     case' false =>
      have hlop:¬(bp1,vp1)=(bp2,vp2):=fun h=>by rw[alike_yes h] at hkop;cases hkop
      refine BigFrame.wpList_want (by rfl) (fun K hK=>?_);go_simp
      refine (HKop.out w5 HBw5.out).mono ?_;rintro e w6 ⟨rfl,hb4⟩
      rw[hkop]
      refine hK _ _ ?_;clear hK K
      have HBw6:=Lib.hid (below_step HBw5.out hb4)
      iterate 2 (refine wpList_plain rfl (fun K hK=>?_);go_simp;refine hK _ _ ?_;clear hK K)
      refine tail_false (r:=4) (N:=122) _ [38] _ (by kernel_rfl) rfl (fun s hs=>?_) (fun a' hd hr=>?_)
      · obtain rfl:s=38:=by simpa using hs
        rfl
      · go_wp2_with fail
        (try simp only[Exit.inBlock,Exit.then])
        refine bodyPost_ret (results_tmp rfl _ _ _) hd ?_
        exact ⟨by rw[alike_no (x:=((l1,(a1,(t1,(k1,((bp1,vp1),(sc1,(zc1,((gp1,pb1,pu1),((gn1,nb1,nu1),(f1,(es1,((bm1,vm1),((bg1,vg1),th1))))))))))))),u1)) (y:=((l2,(a2,(t2,(k2,((bp2,vp2),(sc2,(zc2,((gp2,pb2,pu2),((gn2,nb2,nu2),(f2,(es2,((bm2,vm2),((bg2,vg2),th2))))))))))))),u2)) (fun h=>hlop (by simp only[Prod.mk.injEq] at h ⊢;exact h.1.2.2.2.2.1)),show a'.tmps.getD 4 undef = .bool false by rw[Array.getD_eq_getD_getElem?,hr];rfl],HBw6.out⟩
     case' true =>
      have hlop:=Lib.hid (alike_iff.1 hkop)
      refine BigFrame.wpList_want (by rfl) (fun K hK=>?_);go_simp
      refine (HKop.out w5 HBw5.out).mono ?_;rintro e w6 ⟨rfl,hb4⟩
      rw[hkop]
      refine hK _ _ ?_;clear hK K
      have HBw6:=Lib.hid (below_step HBw5.out hb4)
      have HAw6:=Lib.hid ((hb4.block _ (row_lt HAw5.out)).trans HAw5.out)
      have HQw6:=Lib.hid ((hb4.block _ (row_lt HQw5.out)).trans HQw5.out)
      clear hb4 hkop xa0 xb0 xa1 xb1 xa2 xb2 xa3 xb3 xa4 xb4 xa5 xb5 xa6 xb6 xa7 xb7 xa8 xb8 xa9 xb9 xa10 xb10 xa11 xb11 xa12 xb12 xa13 xb13 xa14 xb14 xa15 xb15 xa16 xb16 xa17 xb17 xa18 xb18 xa19 xb19 xa20 xb20 xa21 xb21 xa22 xb22 xa23 xb23
      iterate 2 (refine wpList_plain rfl (fun K hK=>?_);go_simp;refine hK _ _ ?_;clear hK K)
      obtain ⟨xa0,xa1,xa2,xa3,xa4,xa5,xa6,xa7,xa8,xa9,xa10,xa11,xa12,xa13,xa14,xa15,xa16,xa17,xa18,xa19,xa20,xa21,xa22,xa23⟩:=row24 HAw6.out
      obtain ⟨xb0,xb1,xb2,xb3,xb4,xb5,xb6,xb7,xb8,xb9,xb10,xb11,xb12,xb13,xb14,xb15,xb16,xb17,xb18,xb19,xb20,xb21,xb22,xb23⟩:=row24 HQw6.out
      iterate 4 (refine BigFrame.wpList_want (by rfl) (fun K hK=>?_);go_simp;refine hK _ _ ?_;clear hK K)
      cases hkom:alike (bm1,vm1) (bm2,vm2)
      case' false =>
       have hlom:¬(bm1,vm1)=(bm2,vm2):=fun h=>by rw[alike_yes h] at hkom;cases hkom
       refine BigFrame.wpList_want (by rfl) (fun K hK=>?_);go_simp
       refine (HKom.out w6 HBw6.out).mono ?_;rintro e w7 ⟨rfl,hb4⟩
       rw[hkom]
       refine hK _ _ ?_;clear hK K
       have HBw7:=Lib.hid (below_step HBw6.out hb4)
       iterate 2 (refine wpList_plain rfl (fun K hK=>?_);go_simp;refine hK _ _ ?_;clear hK K)
       refine tail_false (r:=4) (N:=122) _ [45] _ (by kernel_rfl) rfl (fun s hs=>?_) (fun a' hd hr=>?_)
       · obtain rfl:s=45:=by simpa using hs
         rfl
       · go_wp2_with fail
         (try simp only[Exit.inBlock,Exit.then])
         refine bodyPost_ret (results_tmp rfl _ _ _) hd ?_
         exact ⟨by rw[alike_no (x:=((l1,(a1,(t1,(k1,((bp1,vp1),(sc1,(zc1,((gp1,pb1,pu1),((gn1,nb1,nu1),(f1,(es1,((bm1,vm1),((bg1,vg1),th1))))))))))))),u1)) (y:=((l2,(a2,(t2,(k2,((bp2,vp2),(sc2,(zc2,((gp2,pb2,pu2),((gn2,nb2,nu2),(f2,(es2,((bm2,vm2),((bg2,vg2),th2))))))))))))),u2)) (fun h=>hlom (by simp only[Prod.mk.injEq] at h ⊢;exact h.1.2.2.2.2.2.2.2.2.2.2.2.1)),show a'.tmps.getD 4 undef = .bool false by rw[Array.getD_eq_getD_getElem?,hr];rfl],HBw7.out⟩
      case' true =>
       have hlom:=Lib.hid (alike_iff.1 hkom)
       refine BigFrame.wpList_want (by rfl) (fun K hK=>?_);go_simp
       refine (HKom.out w6 HBw6.out).mono ?_;rintro e w7 ⟨rfl,hb4⟩
       rw[hkom]
       refine hK _ _ ?_;clear hK K
       have HBw7:=Lib.hid (below_step HBw6.out hb4)
       have HAw7:=Lib.hid ((hb4.block _ (row_lt HAw6.out)).trans HAw6.out)
       have HQw7:=Lib.hid ((hb4.block _ (row_lt HQw6.out)).trans HQw6.out)
       clear hb4 hkom xa0 xb0 xa1 xb1 xa2 xb2 xa3 xb3 xa4 xb4 xa5 xb5 xa6 xb6 xa7 xb7 xa8 xb8 xa9 xb9 xa10 xb10 xa11 xb11 xa12 xb12 xa13 xb13 xa14 xb14 xa15 xb15 xa16 xb16 xa17 xb17 xa18 xb18 xa19 xb19 xa20 xb20 xa21 xb21 xa22 xb22 xa23 xb23
       iterate 2 (refine wpList_plain rfl (fun K hK=>?_);go_simp;refine hK _ _ ?_;clear hK K)
       obtain ⟨xa0,xa1,xa2,xa3,xa4,xa5,xa6,xa7,xa8,xa9,xa10,xa11,xa12,xa13,xa14,xa15,xa16,xa17,xa18,xa19,xa20,xa21,xa22,xa23⟩:=row24 HAw7.out
       obtain ⟨xb0,xb1,xb2,xb3,xb4,xb5,xb6,xb7,xb8,xb9,xb10,xb11,xb12,xb13,xb14,xb15,xb16,xb17,xb18,xb19,xb20,xb21,xb22,xb23⟩:=row24 HQw7.out
       iterate 4 (refine BigFrame.wpList_want (by rfl) (fun K hK=>?_);go_simp;refine hK _ _ ?_;clear hK K)
       cases hkog:alike (bg1,vg1) (bg2,vg2)
       case' false =>
        have hlog:¬(bg1,vg1)=(bg2,vg2):=fun h=>by rw[alike_yes h] at hkog;cases hkog
        refine BigFrame.wpList_want (by rfl) (fun K hK=>?_);go_simp
        refine (HKog.out w7 HBw7.out).mono ?_;rintro e w8 ⟨rfl,hb4⟩
        rw[hkog]
        refine hK _ _ ?_;clear hK K
        have HBw8:=Lib.hid (below_step HBw7.out hb4)
        iterate 2 (refine wpList_plain rfl (fun K hK=>?_);go_simp;refine hK _ _ ?_;clear hK K)
        refine tail_false (r:=4) (N:=122) _ [52] _ (by kernel_rfl) rfl (fun s hs=>?_) (fun a' hd hr=>?_)
        · obtain rfl:s=52:=by simpa using hs
          rfl
        · go_wp2_with fail
          (try simp only[Exit.inBlock,Exit.then])
          refine bodyPost_ret (results_tmp rfl _ _ _) hd ?_
          exact ⟨by rw[alike_no (x:=((l1,(a1,(t1,(k1,((bp1,vp1),(sc1,(zc1,((gp1,pb1,pu1),((gn1,nb1,nu1),(f1,(es1,((bm1,vm1),((bg1,vg1),th1))))))))))))),u1)) (y:=((l2,(a2,(t2,(k2,((bp2,vp2),(sc2,(zc2,((gp2,pb2,pu2),((gn2,nb2,nu2),(f2,(es2,((bm2,vm2),((bg2,vg2),th2))))))))))))),u2)) (fun h=>hlog (by simp only[Prod.mk.injEq] at h ⊢;exact h.1.2.2.2.2.2.2.2.2.2.2.2.2.1)),show a'.tmps.getD 4 undef = .bool false by rw[Array.getD_eq_getD_getElem?,hr];rfl],HBw8.out⟩
       case' true =>
        have hlog:=Lib.hid (alike_iff.1 hkog)
        refine BigFrame.wpList_want (by rfl) (fun K hK=>?_);go_simp
        refine (HKog.out w7 HBw7.out).mono ?_;rintro e w8 ⟨rfl,hb4⟩
        rw[hkog]
        refine hK _ _ ?_;clear hK K
        have HBw8:=Lib.hid (below_step HBw7.out hb4)
        have HAw8:=Lib.hid ((hb4.block _ (row_lt HAw7.out)).trans HAw7.out)
        have HQw8:=Lib.hid ((hb4.block _ (row_lt HQw7.out)).trans HQw7.out)
        clear hb4 hkog xa0 xb0 xa1 xb1 xa2 xb2 xa3 xb3 xa4 xb4 xa5 xb5 xa6 xb6 xa7 xb7 xa8 xb8 xa9 xb9 xa10 xb10 xa11 xb11 xa12 xb12 xa13 xb13 xa14 xb14 xa15 xb15 xa16 xb16 xa17 xb17 xa18 xb18 xa19 xb19 xa20 xb20 xa21 xb21 xa22 xb22 xa23 xb23
        iterate 2 (refine wpList_plain rfl (fun K hK=>?_);go_simp;refine hK _ _ ?_;clear hK K)
        obtain ⟨xa0,xa1,xa2,xa3,xa4,xa5,xa6,xa7,xa8,xa9,xa10,xa11,xa12,xa13,xa14,xa15,xa16,xa17,xa18,xa19,xa20,xa21,xa22,xa23⟩:=row24 HAw8.out
        obtain ⟨xb0,xb1,xb2,xb3,xb4,xb5,xb6,xb7,xb8,xb9,xb10,xb11,xb12,xb13,xb14,xb15,xb16,xb17,xb18,xb19,xb20,xb21,xb22,xb23⟩:=row24 HQw8.out
        iterate 4 (refine BigFrame.wpList_want (by rfl) (fun K hK=>?_);go_simp;refine hK _ _ ?_;clear hK K)
        by_cases esc:sc1=sc2
        case neg =>
         have dsc:((sc1:Int) == (sc2:Int))=false:=by rw[beq_eq_false_iff_ne];omega
         iterate 1 (refine BigFrame.wpList_want (by rfl) (fun K hK=>?_);go_simp;refine hK _ _ ?_;clear hK K)
         iterate 2 (refine wpList_plain rfl (fun K hK=>?_);go_simp;refine hK _ _ ?_;clear hK K)
         refine tail_false (r:=4) (N:=122) _ [59] _ (by kernel_rfl) rfl (fun s hs=>?_) (fun a' hd hr=>?_)
         · obtain rfl:s=59:=by simpa using hs
           rfl
         · go_wp2_with fail
           (try simp only[Exit.inBlock,Exit.then])
           refine bodyPost_ret (results_tmp rfl _ _ _) hd ?_
           exact ⟨by rw[alike_no (x:=((l1,(a1,(t1,(k1,((bp1,vp1),(sc1,(zc1,((gp1,pb1,pu1),((gn1,nb1,nu1),(f1,(es1,((bm1,vm1),((bg1,vg1),th1))))))))))))),u1)) (y:=((l2,(a2,(t2,(k2,((bp2,vp2),(sc2,(zc2,((gp2,pb2,pu2),((gn2,nb2,nu2),(f2,(es2,((bm2,vm2),((bg2,vg2),th2))))))))))))),u2)) (fun h=>esc (by simp only[Prod.mk.injEq] at h;exact h.1.2.2.2.2.2.1)),show a'.tmps.getD 4 undef = .bool false by rw[Array.getD_eq_getD_getElem?,hr];rfl],HBw8.out⟩
        case pos =>
         have dsc:((sc1:Int) == (sc2:Int))=true:=by rw[beq_iff_eq];omega
         replace esc:=Lib.hid esc
         iterate 1 (refine BigFrame.wpList_want (by rfl) (fun K hK=>?_);go_simp;refine hK _ _ ?_;clear hK K)
         iterate 2 (refine wpList_plain rfl (fun K hK=>?_);go_simp;refine hK _ _ ?_;clear hK K)
         clear dsc
         iterate 4 (refine BigFrame.wpList_want (by rfl) (fun K hK=>?_);go_simp;refine hK _ _ ?_;clear hK K)
         by_cases ezc:zc1=zc2
         case neg =>
          have dzc:((zc1:Int) == (zc2:Int))=false:=by rw[beq_eq_false_iff_ne];omega
          iterate 1 (refine BigFrame.wpList_want (by rfl) (fun K hK=>?_);go_simp;refine hK _ _ ?_;clear hK K)
          iterate 2 (refine wpList_plain rfl (fun K hK=>?_);go_simp;refine hK _ _ ?_;clear hK K)
          refine tail_false (r:=4) (N:=122) _ [66] _ (by kernel_rfl) rfl (fun s hs=>?_) (fun a' hd hr=>?_)
          · obtain rfl:s=66:=by simpa using hs
            rfl
          · go_wp2_with fail
            (try simp only[Exit.inBlock,Exit.then])
            refine bodyPost_ret (results_tmp rfl _ _ _) hd ?_
            exact ⟨by rw[alike_no (x:=((l1,(a1,(t1,(k1,((bp1,vp1),(sc1,(zc1,((gp1,pb1,pu1),((gn1,nb1,nu1),(f1,(es1,((bm1,vm1),((bg1,vg1),th1))))))))))))),u1)) (y:=((l2,(a2,(t2,(k2,((bp2,vp2),(sc2,(zc2,((gp2,pb2,pu2),((gn2,nb2,nu2),(f2,(es2,((bm2,vm2),((bg2,vg2),th2))))))))))))),u2)) (fun h=>ezc (by simp only[Prod.mk.injEq] at h;exact h.1.2.2.2.2.2.2.1)),show a'.tmps.getD 4 undef = .bool false by rw[Array.getD_eq_getD_getElem?,hr];rfl],HBw8.out⟩
         case pos =>
          have dzc:((zc1:Int) == (zc2:Int))=true:=by rw[beq_iff_eq];omega
          replace ezc:=Lib.hid ezc
          iterate 1 (refine BigFrame.wpList_want (by rfl) (fun K hK=>?_);go_simp;refine hK _ _ ?_;clear hK K)
          iterate 2 (refine wpList_plain rfl (fun K hK=>?_);go_simp;refine hK _ _ ?_;clear hK K)
          clear dzc
          iterate 4 (refine BigFrame.wpList_want (by rfl) (fun K hK=>?_);go_simp;refine hK _ _ ?_;clear hK K)
          by_cases egp:gp1=gp2
          case neg =>
           have dgp:(gp1 == gp2)=false:=beq_eq_false_iff_ne.2 egp
           iterate 1 (refine BigFrame.wpList_want (by rfl) (fun K hK=>?_);go_simp;refine hK _ _ ?_;clear hK K)
           iterate 2 (refine wpList_plain rfl (fun K hK=>?_);go_simp;refine hK _ _ ?_;clear hK K)
           refine tail_false (r:=4) (N:=122) _ [73] _ (by kernel_rfl) rfl (fun s hs=>?_) (fun a' hd hr=>?_)
           · obtain rfl:s=73:=by simpa using hs
             rfl
           · go_wp2_with fail
             (try simp only[Exit.inBlock,Exit.then])
             refine bodyPost_ret (results_tmp rfl _ _ _) hd ?_
             exact ⟨by rw[alike_no (x:=((l1,(a1,(t1,(k1,((bp1,vp1),(sc1,(zc1,((gp1,pb1,pu1),((gn1,nb1,nu1),(f1,(es1,((bm1,vm1),((bg1,vg1),th1))))))))))))),u1)) (y:=((l2,(a2,(t2,(k2,((bp2,vp2),(sc2,(zc2,((gp2,pb2,pu2),((gn2,nb2,nu2),(f2,(es2,((bm2,vm2),((bg2,vg2),th2))))))))))))),u2)) (fun h=>egp (by simp only[Prod.mk.injEq] at h;exact h.1.2.2.2.2.2.2.2.1.1)),show a'.tmps.getD 4 undef = .bool false by rw[Array.getD_eq_getD_getElem?,hr];rfl],HBw8.out⟩
          case pos =>
           have dgp:(gp1 == gp2)=true:=by rw[beq_iff_eq];exact egp
           replace egp:=Lib.hid egp
           iterate 1 (refine BigFrame.wpList_want (by rfl) (fun K hK=>?_);go_simp;refine hK _ _ ?_;clear hK K)
           iterate 2 (refine wpList_plain rfl (fun K hK=>?_);go_simp;refine hK _ _ ?_;clear hK K)
           clear dgp
           iterate 4 (refine BigFrame.wpList_want (by rfl) (fun K hK=>?_);go_simp;refine hK _ _ ?_;clear hK K)
           cases hkpb:alike (pb1,pu1) (pb2,pu2)
           case' false =>
            have hlpb:¬(pb1,pu1)=(pb2,pu2):=fun h=>by rw[alike_yes h] at hkpb;cases hkpb
            refine BigFrame.wpList_want (by rfl) (fun K hK=>?_);go_simp
            refine (HKpb.out w8 HBw8.out).mono ?_;rintro e w9 ⟨rfl,hb4⟩
            rw[hkpb]
            refine hK _ _ ?_;clear hK K
            have HBw9:=Lib.hid (below_step HBw8.out hb4)
            iterate 2 (refine wpList_plain rfl (fun K hK=>?_);go_simp;refine hK _ _ ?_;clear hK K)
            refine tail_false (r:=4) (N:=122) _ [80] _ (by kernel_rfl) rfl (fun s hs=>?_) (fun a' hd hr=>?_)
            · obtain rfl:s=80:=by simpa using hs
              rfl
            · go_wp2_with fail
              (try simp only[Exit.inBlock,Exit.then])
              refine bodyPost_ret (results_tmp rfl _ _ _) hd ?_
              exact ⟨by rw[alike_no (x:=((l1,(a1,(t1,(k1,((bp1,vp1),(sc1,(zc1,((gp1,pb1,pu1),((gn1,nb1,nu1),(f1,(es1,((bm1,vm1),((bg1,vg1),th1))))))))))))),u1)) (y:=((l2,(a2,(t2,(k2,((bp2,vp2),(sc2,(zc2,((gp2,pb2,pu2),((gn2,nb2,nu2),(f2,(es2,((bm2,vm2),((bg2,vg2),th2))))))))))))),u2)) (fun h=>hlpb (by simp only[Prod.mk.injEq] at h ⊢;exact h.1.2.2.2.2.2.2.2.1.2)),show a'.tmps.getD 4 undef = .bool false by rw[Array.getD_eq_getD_getElem?,hr];rfl],HBw9.out⟩
           case' true =>
            have hlpb:=Lib.hid (alike_iff.1 hkpb)
            refine BigFrame.wpList_want (by rfl) (fun K hK=>?_);go_simp
            refine (HKpb.out w8 HBw8.out).mono ?_;rintro e w9 ⟨rfl,hb4⟩
            rw[hkpb]
            refine hK _ _ ?_;clear hK K
            have HBw9:=Lib.hid (below_step HBw8.out hb4)
            have HAw9:=Lib.hid ((hb4.block _ (row_lt HAw8.out)).trans HAw8.out)
            have HQw9:=Lib.hid ((hb4.block _ (row_lt HQw8.out)).trans HQw8.out)
            clear hb4 hkpb xa0 xb0 xa1 xb1 xa2 xb2 xa3 xb3 xa4 xb4 xa5 xb5 xa6 xb6 xa7 xb7 xa8 xb8 xa9 xb9 xa10 xb10 xa11 xb11 xa12 xb12 xa13 xb13 xa14 xb14 xa15 xb15 xa16 xb16 xa17 xb17 xa18 xb18 xa19 xb19 xa20 xb20 xa21 xb21 xa22 xb22 xa23 xb23
            iterate 2 (refine wpList_plain rfl (fun K hK=>?_);go_simp;refine hK _ _ ?_;clear hK K)
            obtain ⟨xa0,xa1,xa2,xa3,xa4,xa5,xa6,xa7,xa8,xa9,xa10,xa11,xa12,xa13,xa14,xa15,xa16,xa17,xa18,xa19,xa20,xa21,xa22,xa23⟩:=row24 HAw9.out
            obtain ⟨xb0,xb1,xb2,xb3,xb4,xb5,xb6,xb7,xb8,xb9,xb10,xb11,xb12,xb13,xb14,xb15,xb16,xb17,xb18,xb19,xb20,xb21,xb22,xb23⟩:=row24 HQw9.out
            iterate 4 (refine BigFrame.wpList_want (by rfl) (fun K hK=>?_);go_simp;refine hK _ _ ?_;clear hK K)
            by_cases egn:gn1=gn2
            case neg =>
             have dgn:(gn1 == gn2)=false:=beq_eq_false_iff_ne.2 egn
             iterate 1 (refine BigFrame.wpList_want (by rfl) (fun K hK=>?_);go_simp;refine hK _ _ ?_;clear hK K)
             iterate 2 (refine wpList_plain rfl (fun K hK=>?_);go_simp;refine hK _ _ ?_;clear hK K)
             refine tail_false (r:=4) (N:=122) _ [87] _ (by kernel_rfl) rfl (fun s hs=>?_) (fun a' hd hr=>?_)
             · obtain rfl:s=87:=by simpa using hs
               rfl
             · go_wp2_with fail
               (try simp only[Exit.inBlock,Exit.then])
               refine bodyPost_ret (results_tmp rfl _ _ _) hd ?_
               exact ⟨by rw[alike_no (x:=((l1,(a1,(t1,(k1,((bp1,vp1),(sc1,(zc1,((gp1,pb1,pu1),((gn1,nb1,nu1),(f1,(es1,((bm1,vm1),((bg1,vg1),th1))))))))))))),u1)) (y:=((l2,(a2,(t2,(k2,((bp2,vp2),(sc2,(zc2,((gp2,pb2,pu2),((gn2,nb2,nu2),(f2,(es2,((bm2,vm2),((bg2,vg2),th2))))))))))))),u2)) (fun h=>egn (by simp only[Prod.mk.injEq] at h;exact h.1.2.2.2.2.2.2.2.2.1.1)),show a'.tmps.getD 4 undef = .bool false by rw[Array.getD_eq_getD_getElem?,hr];rfl],HBw9.out⟩
            case pos =>
             have dgn:(gn1 == gn2)=true:=by rw[beq_iff_eq];exact egn
             replace egn:=Lib.hid egn
             iterate 1 (refine BigFrame.wpList_want (by rfl) (fun K hK=>?_);go_simp;refine hK _ _ ?_;clear hK K)
             iterate 2 (refine wpList_plain rfl (fun K hK=>?_);go_simp;refine hK _ _ ?_;clear hK K)
             clear dgn
             iterate 4 (refine BigFrame.wpList_want (by rfl) (fun K hK=>?_);go_simp;refine hK _ _ ?_;clear hK K)
             cases hknb:alike (nb1,nu1) (nb2,nu2)
             case' false =>
              have hlnb:¬(nb1,nu1)=(nb2,nu2):=fun h=>by rw[alike_yes h] at hknb;cases hknb
              refine BigFrame.wpList_want (by rfl) (fun K hK=>?_);go_simp
              refine (HKnb.out w9 HBw9.out).mono ?_;rintro e w10 ⟨rfl,hb4⟩
              rw[hknb]
              refine hK _ _ ?_;clear hK K
              have HBw10:=Lib.hid (below_step HBw9.out hb4)
              iterate 2 (refine wpList_plain rfl (fun K hK=>?_);go_simp;refine hK _ _ ?_;clear hK K)
              refine tail_false (r:=4) (N:=122) _ [94] _ (by kernel_rfl) rfl (fun s hs=>?_) (fun a' hd hr=>?_)
              · obtain rfl:s=94:=by simpa using hs
                rfl
              · go_wp2_with fail
                (try simp only[Exit.inBlock,Exit.then])
                refine bodyPost_ret (results_tmp rfl _ _ _) hd ?_
                exact ⟨by rw[alike_no (x:=((l1,(a1,(t1,(k1,((bp1,vp1),(sc1,(zc1,((gp1,pb1,pu1),((gn1,nb1,nu1),(f1,(es1,((bm1,vm1),((bg1,vg1),th1))))))))))))),u1)) (y:=((l2,(a2,(t2,(k2,((bp2,vp2),(sc2,(zc2,((gp2,pb2,pu2),((gn2,nb2,nu2),(f2,(es2,((bm2,vm2),((bg2,vg2),th2))))))))))))),u2)) (fun h=>hlnb (by simp only[Prod.mk.injEq] at h ⊢;exact h.1.2.2.2.2.2.2.2.2.1.2)),show a'.tmps.getD 4 undef = .bool false by rw[Array.getD_eq_getD_getElem?,hr];rfl],HBw10.out⟩
             case' true =>
              have hlnb:=Lib.hid (alike_iff.1 hknb)
              refine BigFrame.wpList_want (by rfl) (fun K hK=>?_);go_simp
              refine (HKnb.out w9 HBw9.out).mono ?_;rintro e w10 ⟨rfl,hb4⟩
              rw[hknb]
              refine hK _ _ ?_;clear hK K
              have HBw10:=Lib.hid (below_step HBw9.out hb4)
              have HAw10:=Lib.hid ((hb4.block _ (row_lt HAw9.out)).trans HAw9.out)
              have HQw10:=Lib.hid ((hb4.block _ (row_lt HQw9.out)).trans HQw9.out)
              clear hb4 hknb xa0 xb0 xa1 xb1 xa2 xb2 xa3 xb3 xa4 xb4 xa5 xb5 xa6 xb6 xa7 xb7 xa8 xb8 xa9 xb9 xa10 xb10 xa11 xb11 xa12 xb12 xa13 xb13 xa14 xb14 xa15 xb15 xa16 xb16 xa17 xb17 xa18 xb18 xa19 xb19 xa20 xb20 xa21 xb21 xa22 xb22 xa23 xb23
              iterate 2 (refine wpList_plain rfl (fun K hK=>?_);go_simp;refine hK _ _ ?_;clear hK K)
              obtain ⟨xa0,xa1,xa2,xa3,xa4,xa5,xa6,xa7,xa8,xa9,xa10,xa11,xa12,xa13,xa14,xa15,xa16,xa17,xa18,xa19,xa20,xa21,xa22,xa23⟩:=row24 HAw10.out
              obtain ⟨xb0,xb1,xb2,xb3,xb4,xb5,xb6,xb7,xb8,xb9,xb10,xb11,xb12,xb13,xb14,xb15,xb16,xb17,xb18,xb19,xb20,xb21,xb22,xb23⟩:=row24 HQw10.out
              iterate 4 (refine BigFrame.wpList_want (by rfl) (fun K hK=>?_);go_simp;refine hK _ _ ?_;clear hK K)
              cases hkes:alike es1 es2
              case' false =>
               have hles:¬es1=es2:=fun h=>by rw[alike_yes h] at hkes;cases hkes
               refine BigFrame.wpList_want (by rfl) (fun K hK=>?_);go_simp
               refine (HKes.out w10 HBw10.out).mono ?_;rintro e w11 ⟨rfl,hb4⟩
               rw[hkes]
               refine hK _ _ ?_;clear hK K
               have HBw11:=Lib.hid (below_step HBw10.out hb4)
               iterate 2 (refine wpList_plain rfl (fun K hK=>?_);go_simp;refine hK _ _ ?_;clear hK K)
               refine tail_false (r:=4) (N:=122) _ [101] _ (by kernel_rfl) rfl (fun s hs=>?_) (fun a' hd hr=>?_)
               · obtain rfl:s=101:=by simpa using hs
                 rfl
               · go_wp2_with fail
                 (try simp only[Exit.inBlock,Exit.then])
                 refine bodyPost_ret (results_tmp rfl _ _ _) hd ?_
                 exact ⟨by rw[alike_no (x:=((l1,(a1,(t1,(k1,((bp1,vp1),(sc1,(zc1,((gp1,pb1,pu1),((gn1,nb1,nu1),(f1,(es1,((bm1,vm1),((bg1,vg1),th1))))))))))))),u1)) (y:=((l2,(a2,(t2,(k2,((bp2,vp2),(sc2,(zc2,((gp2,pb2,pu2),((gn2,nb2,nu2),(f2,(es2,((bm2,vm2),((bg2,vg2),th2))))))))))))),u2)) (fun h=>hles (by simp only[Prod.mk.injEq] at h;exact h.1.2.2.2.2.2.2.2.2.2.2.1)),show a'.tmps.getD 4 undef = .bool false by rw[Array.getD_eq_getD_getElem?,hr];rfl],HBw11.out⟩
              case' true =>
               have hles:=Lib.hid (alike_iff.1 hkes)
               refine BigFrame.wpList_want (by rfl) (fun K hK=>?_);go_simp
               refine (HKes.out w10 HBw10.out).mono ?_;rintro e w11 ⟨rfl,hb4⟩
               rw[hkes]
               refine hK _ _ ?_;clear hK K
               have HBw11:=Lib.hid (below_step HBw10.out hb4)
               have HAw11:=Lib.hid ((hb4.block _ (row_lt HAw10.out)).trans HAw10.out)
               have HQw11:=Lib.hid ((hb4.block _ (row_lt HQw10.out)).trans HQw10.out)
               clear hb4 hkes xa0 xb0 xa1 xb1 xa2 xb2 xa3 xb3 xa4 xb4 xa5 xb5 xa6 xb6 xa7 xb7 xa8 xb8 xa9 xb9 xa10 xb10 xa11 xb11 xa12 xb12 xa13 xb13 xa14 xb14 xa15 xb15 xa16 xb16 xa17 xb17 xa18 xb18 xa19 xb19 xa20 xb20 xa21 xb21 xa22 xb22 xa23 xb23
               iterate 2 (refine wpList_plain rfl (fun K hK=>?_);go_simp;refine hK _ _ ?_;clear hK K)
               obtain ⟨xa0,xa1,xa2,xa3,xa4,xa5,xa6,xa7,xa8,xa9,xa10,xa11,xa12,xa13,xa14,xa15,xa16,xa17,xa18,xa19,xa20,xa21,xa22,xa23⟩:=row24 HAw11.out
               obtain ⟨xb0,xb1,xb2,xb3,xb4,xb5,xb6,xb7,xb8,xb9,xb10,xb11,xb12,xb13,xb14,xb15,xb16,xb17,xb18,xb19,xb20,xb21,xb22,xb23⟩:=row24 HQw11.out
               iterate 4 (refine BigFrame.wpList_want (by rfl) (fun K hK=>?_);go_simp;refine hK _ _ ?_;clear hK K)
               by_cases ef:f1=f2
               case neg =>
                have df:((f1:Int) == (f2:Int))=false:=by rw[beq_eq_false_iff_ne];omega
                iterate 1 (refine BigFrame.wpList_want (by rfl) (fun K hK=>?_);go_simp;refine hK _ _ ?_;clear hK K)
                iterate 2 (refine wpList_plain rfl (fun K hK=>?_);go_simp;refine hK _ _ ?_;clear hK K)
                refine tail_false (r:=4) (N:=122) _ [108] _ (by kernel_rfl) rfl (fun s hs=>?_) (fun a' hd hr=>?_)
                · obtain rfl:s=108:=by simpa using hs
                  rfl
                · go_wp2_with fail
                  (try simp only[Exit.inBlock,Exit.then])
                  refine bodyPost_ret (results_tmp rfl _ _ _) hd ?_
                  exact ⟨by rw[alike_no (x:=((l1,(a1,(t1,(k1,((bp1,vp1),(sc1,(zc1,((gp1,pb1,pu1),((gn1,nb1,nu1),(f1,(es1,((bm1,vm1),((bg1,vg1),th1))))))))))))),u1)) (y:=((l2,(a2,(t2,(k2,((bp2,vp2),(sc2,(zc2,((gp2,pb2,pu2),((gn2,nb2,nu2),(f2,(es2,((bm2,vm2),((bg2,vg2),th2))))))))))))),u2)) (fun h=>ef (by simp only[Prod.mk.injEq] at h;exact h.1.2.2.2.2.2.2.2.2.2.1)),show a'.tmps.getD 4 undef = .bool false by rw[Array.getD_eq_getD_getElem?,hr];rfl],HBw11.out⟩
               case pos =>
                have df:((f1:Int) == (f2:Int))=true:=by rw[beq_iff_eq];omega
                replace ef:=Lib.hid ef
                iterate 1 (refine BigFrame.wpList_want (by rfl) (fun K hK=>?_);go_simp;refine hK _ _ ?_;clear hK K)
                iterate 2 (refine wpList_plain rfl (fun K hK=>?_);go_simp;refine hK _ _ ?_;clear hK K)
                clear df
                iterate 4 (refine BigFrame.wpList_want (by rfl) (fun K hK=>?_);go_simp;refine hK _ _ ?_;clear hK K)
                by_cases eth:th1=th2
                case neg =>
                 have dth:((th1:Int) == (th2:Int))=false:=by rw[beq_eq_false_iff_ne];omega
                 iterate 1 (refine BigFrame.wpList_want (by rfl) (fun K hK=>?_);go_simp;refine hK _ _ ?_;clear hK K)
                 iterate 2 (refine wpList_plain rfl (fun K hK=>?_);go_simp;refine hK _ _ ?_;clear hK K)
                 refine tail_false (r:=4) (N:=122) _ [115] _ (by kernel_rfl) rfl (fun s hs=>?_) (fun a' hd hr=>?_)
                 · obtain rfl:s=115:=by simpa using hs
                   rfl
                 · go_wp2_with fail
                   (try simp only[Exit.inBlock,Exit.then])
                   refine bodyPost_ret (results_tmp rfl _ _ _) hd ?_
                   exact ⟨by rw[alike_no (x:=((l1,(a1,(t1,(k1,((bp1,vp1),(sc1,(zc1,((gp1,pb1,pu1),((gn1,nb1,nu1),(f1,(es1,((bm1,vm1),((bg1,vg1),th1))))))))))))),u1)) (y:=((l2,(a2,(t2,(k2,((bp2,vp2),(sc2,(zc2,((gp2,pb2,pu2),((gn2,nb2,nu2),(f2,(es2,((bm2,vm2),((bg2,vg2),th2))))))))))))),u2)) (fun h=>eth (by simp only[Prod.mk.injEq] at h;exact h.1.2.2.2.2.2.2.2.2.2.2.2.2.2)),show a'.tmps.getD 4 undef = .bool false by rw[Array.getD_eq_getD_getElem?,hr];rfl],HBw11.out⟩
                case pos =>
                 have dth:((th1:Int) == (th2:Int))=true:=by rw[beq_iff_eq];omega
                 replace eth:=Lib.hid eth
                 iterate 1 (refine BigFrame.wpList_want (by rfl) (fun K hK=>?_);go_simp;refine hK _ _ ?_;clear hK K)
                 iterate 2 (refine wpList_plain rfl (fun K hK=>?_);go_simp;refine hK _ _ ?_;clear hK K)
                 clear dth
                 iterate 4 (refine BigFrame.wpList_want (by rfl) (fun K hK=>?_);go_simp;refine hK _ _ ?_;clear hK K)
                 by_cases eu:u1=u2
                 case neg =>
                  have du:=(text_ne gu1 gu2 eu).2
                  iterate 1 (refine BigFrame.wpList_want (by rfl) (fun K hK=>?_);go_simp;refine hK _ _ ?_;clear hK K)
                  go_wp2_with fail
                  go_ret
                  exact ⟨(by rw[alike_no (x:=((l1,(a1,(t1,(k1,((bp1,vp1),(sc1,(zc1,((gp1,pb1,pu1),((gn1,nb1,nu1),(f1,(es1,((bm1,vm1),((bg1,vg1),th1))))))))))))),u1)) (y:=((l2,(a2,(t2,(k2,((bp2,vp2),(sc2,(zc2,((gp2,pb2,pu2),((gn2,nb2,nu2),(f2,(es2,((bm2,vm2),((bg2,vg2),th2))))))))))))),u2)) (fun h=>eu (by simp only[Prod.mk.injEq] at h;exact h.2))];first|done|rfl),HBw11.out⟩
                 case pos =>
                  obtain rfl:=ba_same gu1 gu2 eu
                  replace eu:=Lib.hid eu
                  iterate 1 (refine BigFrame.wpList_want (by rfl) (fun K hK=>?_);go_simp;refine hK _ _ ?_;clear hK K)
                  go_wp2_with fail
                  go_ret
                  exact ⟨(by rw[alike_yes (x:=((l1,(a1,(t1,(k1,((bp1,vp1),(sc1,(zc1,((gp1,pb1,pu1),((gn1,nb1,nu1),(f1,(es1,((bm1,vm1),((bg1,vg1),th1))))))))))))),u1)) (y:=((l2,(a2,(t2,(k2,((bp2,vp2),(sc2,(zc2,((gp2,pb2,pu2),((gn2,nb2,nu2),(f2,(es2,((bm2,vm2),((bg2,vg2),th2))))))))))))),u2)) (by rw[ea.out,et.out,ek.out,esc.out,ezc.out,egp.out,egn.out,ef.out,eth.out,eu.out,hll.out,show bp1=bp2 from congrArg Prod.fst hlop.out,show vp1=vp2 from congrArg Prod.snd hlop.out,show bm1=bm2 from congrArg Prod.fst hlom.out,show vm1=vm2 from congrArg Prod.snd hlom.out,show bg1=bg2 from congrArg Prod.fst hlog.out,show vg1=vg2 from congrArg Prod.snd hlog.out,show pb1=pb2 from congrArg Prod.fst hlpb.out,show pu1=pu2 from congrArg Prod.snd hlpb.out,show nb1=nb2 from congrArg Prod.fst hlnb.out,show nu1=nu2 from congrArg Prod.snd hlnb.out,hles.out])];first|done|rfl),HBw11.out⟩
end Go.Proofs.YtcblkndiclkacaaDoor
