/-
  hygref.Hist: any two.
-/
import Derived.Test.YtjbingoliffjiaaGreatDoorHiBack
import Derived.Test.YtjbingoliffjiaaGreatDoorExEqf
import Derived.Test.YtjbingoliffjiaaGreatDoorNumsE
set_option maxRecDepth 1000000
set_option maxHeartbeats 16000000
namespace Go.Proofs.YtjbingoliffjiaaGreatDoor
open Go.RowKit
open Lib (hid)
theorem hopt_any (b1 b2:Bool)(n1 n2:Nat)(w:World):Calls Tryz.prog 86 #[.agg #[.bool b1,.int .u64 (n1:Int)],.agg #[.bool b2,.int .u64 (n2:Int)]] w fun e w'=>e = .returned (.bool (alike (b1,n1) (b2,n2)))∧Below w.heap.size w w':=by
  have HB0:Hid (Below w.heap.size w ((w.alloc (.cells #[.bool b1,.int .u64 (n1:Int)] 47)).alloc (.cells #[.bool b2,.int .u64 (n2:Int)] 47))):=hid (below_step (below_new _ _) (below_new _ _))
  by_cases hb:b1=b2
  case neg =>
    have d1:(b1 == b2)=false:=beq_eq_false_iff_ne.2 hb
    rw[alike_no (fun h=>hb (by simp only[Prod.mk.injEq] at h;exact h.1))]
    clear hb
    go_enter Tryz.func86,Tryz.ntmps86
    go_wp2_with fail
    go_ret
    exact ⟨rfl,HB0.out⟩
  case pos =>
    have d1:(b1 == b2)=true:=by rw[beq_iff_eq];exact hb
    by_cases hn:n1=n2
    case neg =>
      have d2:((n1:Int) == (n2:Int))=false:=by rw[beq_eq_false_iff_ne];omega
      rw[alike_no (fun h=>hn (by simp only[Prod.mk.injEq] at h;exact h.2))]
      clear hb hn
      go_enter Tryz.func86,Tryz.ntmps86
      go_wp2_with fail
      go_ret
      exact ⟨rfl,HB0.out⟩
    case pos =>
      have d2:((n1:Int) == (n2:Int))=true:=by rw[beq_iff_eq];omega
      rw[alike_yes (by rw[hb,hn])]
      clear hb hn
      go_enter Tryz.func86,Tryz.ntmps86
      go_wp2_with fail
      go_ret
      exact ⟨rfl,HB0.out⟩
theorem row15r {w:World}{g:Nat}{c0 c1 c2 c3 c4 c5 c6 c7 c8 c9 c10 c11 c12 c13 c14:Value}{T:TypeId}{fr:Nat × Nat}(h:w.heap[g]? = some (.cells #[c0,c1,c2,c3,c4,c5,c6,c7,c8,c9,c10,c11,c12,c13,c14] T fr)):w.cell? ⟨g,0,none⟩=some c0∧w.cell? ⟨g,1,none⟩=some c1∧w.cell? ⟨g,2,none⟩=some c2∧w.cell? ⟨g,3,none⟩=some c3∧w.cell? ⟨g,4,none⟩=some c4∧w.cell? ⟨g,5,none⟩=some c5∧w.cell? ⟨g,6,none⟩=some c6∧w.cell? ⟨g,7,none⟩=some c7∧w.cell? ⟨g,8,none⟩=some c8∧w.cell? ⟨g,9,none⟩=some c9∧w.cell? ⟨g,10,none⟩=some c10∧w.cell? ⟨g,11,none⟩=some c11∧w.cell? ⟨g,12,none⟩=some c12∧w.cell? ⟨g,13,none⟩=some c13∧w.cell? ⟨g,14,none⟩=some c14:=⟨row_cell h (j:=0) rfl,row_cell h (j:=1) rfl,row_cell h (j:=2) rfl,row_cell h (j:=3) rfl,row_cell h (j:=4) rfl,row_cell h (j:=5) rfl,row_cell h (j:=6) rfl,row_cell h (j:=7) rfl,row_cell h (j:=8) rfl,row_cell h (j:=9) rfl,row_cell h (j:=10) rfl,row_cell h (j:=11) rfl,row_cell h (j:=12) rfl,row_cell h (j:=13) rfl,row_cell h (j:=14) rfl⟩
theorem hi_ref (x y:Hi)(ca cb:List Value)(P Q:Nat→Prop)(w:World)(harg:hi_arg x)(ha:hiCel.R w P x ca)(hb:hiCel.R w Q y cb) :
 Calls Tryz.prog 25 #[.agg ca.toArray,.agg cb.toArray] w fun e w'=>e = .returned (.bool (alike x y))∧Below w.heap.size w w':=by
 obtain ⟨⟨a1,⟨t1,⟨k1,⟨⟨ph1,pn1⟩,⟨nc1,⟨nb1,⟨es1,⟨l1,⟨f1,⟨⟨mh1,mn1⟩,⟨gh1,gn1⟩⟩⟩⟩⟩⟩⟩⟩⟩⟩⟩,u1⟩:=x
 obtain ⟨⟨a2,⟨t2,⟨k2,⟨⟨ph2,pn2⟩,⟨nc2,⟨nb2,⟨es2,⟨l2,⟨f2,⟨⟨mh2,mn2⟩,⟨gh2,gn2⟩⟩⟩⟩⟩⟩⟩⟩⟩⟩⟩,u2⟩:=y
 obtain ⟨lo1,lc1,nco1,ncc1,nbo1,nbc1,eo1,ec1,rfl,ral,ranc,ranb,raes⟩:=ha
 obtain ⟨lo2,lc2,nco2,ncc2,nbo2,nbc2,eo2,ec2,rfl,rbl,rbnc,rbnb,rbes⟩:=hb
 obtain ⟨_,_,_,_,_,hznc1,_,hznb1,hfes1,hzes1,_,hll1,hzl1,_,_,_,_⟩:=harg
 have HRAl:=hid ral
 have HRBl:=hid rbl
 have HRAnc:=hid ranc
 have HRBnc:=hid rbnc
 have HRAnb:=hid ranb
 have HRBnb:=hid rbnb
 have HRAes:=hid raes
 have HRBes:=hid rbes
 have HLENl:=hid hzl1
 have HLIMl:=hid hll1
 have HLENnc:=hid hznc1
 have HLENnb:=hid hznb1
 have HLENes:=hid hzes1
 have HLIMes:=hid hfes1
 clear ral rbl ranc rbnc ranb rbnb raes rbes hzl1 hll1 hznc1 hznb1 hzes1 hfes1
 dsimp only[strV]
 obtain ⟨Xu1,hu1⟩:∃ X:ByteArray,(⟨u1.toArray⟩:ByteArray)=X:=⟨_,rfl⟩
 have gu1:Xu1.data.toList=u1:=by rw[←hu1]
 obtain ⟨Xu2,hu2⟩:∃ X:ByteArray,(⟨u2.toArray⟩:ByteArray)=X:=⟨_,rfl⟩
 have gu2:Xu2.data.toList=u2:=by rw[←hu2]
 rw[hu1,hu2]
 clear hu1 hu2
 obtain ⟨W,hW⟩:∃ W,(w.alloc (.cells #[.slice lo1 l1.length lc1,.int .u64 (a1:Int),.int .u64 (t1:Int),.int .u64 (k1:Int),.bool ph1,.int .u64 (pn1:Int),.bool mh1,.int .u64 (mn1:Int),.bool gh1,.int .u64 (gn1:Int),.slice nco1 nc1.length ncc1,.slice nbo1 nb1.length nbc1,.slice eo1 es1.length ec1,.int .u32 (f1:Int),.string Xu1] 50)).alloc (.cells #[.slice lo2 l2.length lc2,.int .u64 (a2:Int),.int .u64 (t2:Int),.int .u64 (k2:Int),.bool ph2,.int .u64 (pn2:Int),.bool mh2,.int .u64 (mn2:Int),.bool gh2,.int .u64 (gn2:Int),.slice nco2 nc2.length ncc2,.slice nbo2 nb2.length nbc2,.slice eo2 es2.length ec2,.int .u32 (f2:Int),.string Xu2] 50)=W:=⟨_,rfl⟩
 have HBW:Hid (Below w.heap.size w W):=hid (by rw[←hW];exact below_step (below_new _ _) (below_new _ _))
 have HXA:Hid (W.heap[w.heap.size]? = some (.cells #[.slice lo1 l1.length lc1,.int .u64 (a1:Int),.int .u64 (t1:Int),.int .u64 (k1:Int),.bool ph1,.int .u64 (pn1:Int),.bool mh1,.int .u64 (mn1:Int),.bool gh1,.int .u64 (gn1:Int),.slice nco1 nc1.length ncc1,.slice nbo1 nb1.length nbc1,.slice eo1 es1.length ec1,.int .u32 (f1:Int),.string Xu1] 50 (0,0))):=hid (by rw[←hW];exact (Below.heap_alloc _ _ _ (by simp)).trans (heap_alloc_new w _))
 have HXB:Hid (W.heap[w.heap.size+1]? = some (.cells #[.slice lo2 l2.length lc2,.int .u64 (a2:Int),.int .u64 (t2:Int),.int .u64 (k2:Int),.bool ph2,.int .u64 (pn2:Int),.bool mh2,.int .u64 (mn2:Int),.bool gh2,.int .u64 (gn2:Int),.slice nco2 nc2.length ncc2,.slice nbo2 nb2.length nbc2,.slice eo2 es2.length ec2,.int .u32 (f2:Int),.string Xu2] 50 (0,0))):=hid (by rw[←hW];have:=heap_alloc_new (w.alloc (.cells #[.slice lo1 l1.length lc1,.int .u64 (a1:Int),.int .u64 (t1:Int),.int .u64 (k1:Int),.bool ph1,.int .u64 (pn1:Int),.bool mh1,.int .u64 (mn1:Int),.bool gh1,.int .u64 (gn1:Int),.slice nco1 nc1.length ncc1,.slice nbo1 nb1.length nbc1,.slice eo1 es1.length ec1,.int .u32 (f1:Int),.string Xu1] 50)) (.cells #[.slice lo2 l2.length lc2,.int .u64 (a2:Int),.int .u64 (t2:Int),.int .u64 (k2:Int),.bool ph2,.int .u64 (pn2:Int),.bool mh2,.int .u64 (mn2:Int),.bool gh2,.int .u64 (gn2:Int),.slice nco2 nc2.length ncc2,.slice nbo2 nb2.length nbc2,.slice eo2 es2.length ec2,.int .u32 (f2:Int),.string Xu2] 50);simpa using this)
 have HKl:=hid (fun w' (hb:Below w.heap.size w w')=>hkeys_same l1 l2 lo1 lo2 lc1 lc2 P Q w' HLENl.out HLIMl.out (HRAl.out.below hb) (HRBl.out.below hb))
 have HKnc:=hid (fun w' (hb:Below w.heap.size w w')=>hrefnat_any nc1 nc2 nco1 nco2 ncc1 ncc2 P Q w' HLENnc.out (HRAnc.out.below hb) (HRBnc.out.below hb))
 have HKnb:=hid (fun w' (hb:Below w.heap.size w w')=>hrefnat_any nb1 nb2 nbo1 nbo2 nbc1 nbc2 P Q w' HLENnb.out (HRAnb.out.below hb) (HRBnb.out.below hb))
 have HKes:=hid (fun w' (hb:Below w.heap.size w w')=>hrefex_any es1 HLIMes.out es2 eo1 eo2 ec1 ec2 P Q w' HLENes.out (HRAes.out.below hb) (HRBes.out.below hb))
 have HKph:=hid (fun w' (_:Below w.heap.size w w')=>hopt_any ph1 ph2 pn1 pn2 w')
 have HKmh:=hid (fun w' (_:Below w.heap.size w w')=>hopt_any mh1 mh2 mn1 mn2 w')
 have HKgh:=hid (fun w' (_:Below w.heap.size w w')=>hopt_any gh1 gh2 gn1 gn2 w')
 have HW:=hid hW
 clear hW
 cases hkl:alike l1 l2 with
 | false =>
  have hll:¬l1=l2:=fun h=>by rw[alike_yes h] at hkl;cases hkl
  rw[alike_no (x:=((a1,(t1,(k1,((ph1,pn1),(nc1,(nb1,(es1,(l1,(f1,((mh1,mn1),(gh1,gn1))))))))))),u1)) (y:=((a2,(t2,(k2,((ph2,pn2),(nc2,(nb2,(es2,(l2,(f2,((mh2,mn2),(gh2,gn2))))))))))),u2)) (fun h=>hll (by simp only[Prod.mk.injEq] at h;exact h.1.2.2.2.2.2.2.2.1))]
  clear hll  gu1 gu2
  go_enter Tryz.func25,Tryz.ntmps25
  go_wp2_with fail
  rw[HW.out]
  refine (HKl.out W HBW.out).mono ?_;rintro e w4 ⟨rfl,hb4⟩
  rw[hkl]
  have HAw4:=hid ((hb4.block _ (row_lt HXA.out)).trans HXA.out)
  have HQw4:=hid ((hb4.block _ (row_lt HXB.out)).trans HXB.out)
  have HBw4:=hid (below_step HBW.out hb4)
  clear hb4
  obtain ⟨xa0,xa1,xa2,xa3,xa4,xa5,xa6,xa7,xa8,xa9,xa10,xa11,xa12,xa13,xa14⟩:=row15r HAw4.out
  obtain ⟨xb0,xb1,xb2,xb3,xb4,xb5,xb6,xb7,xb8,xb9,xb10,xb11,xb12,xb13,xb14⟩:=row15r HQw4.out
  go_wp2_with fail
  go_ret
  exact ⟨rfl,HBw4.out⟩
 | true =>
  have hll:l1=l2:=alike_iff.1 hkl
  by_cases ea:a1=a2
  case neg =>
   have da:((a1:Int) == (a2:Int))=false:=by rw[beq_eq_false_iff_ne];omega
   rw[alike_no (x:=((a1,(t1,(k1,((ph1,pn1),(nc1,(nb1,(es1,(l1,(f1,((mh1,mn1),(gh1,gn1))))))))))),u1)) (y:=((a2,(t2,(k2,((ph2,pn2),(nc2,(nb2,(es2,(l2,(f2,((mh2,mn2),(gh2,gn2))))))))))),u2)) (fun h=>ea (by simp only[Prod.mk.injEq] at h;exact h.1.1))]
   clear hll ea gu1 gu2
   go_enter Tryz.func25,Tryz.ntmps25
   go_wp2_with fail
   rw[HW.out]
   refine (HKl.out W HBW.out).mono ?_;rintro e w4 ⟨rfl,hb4⟩
   rw[hkl]
   have HAw4:=hid ((hb4.block _ (row_lt HXA.out)).trans HXA.out)
   have HQw4:=hid ((hb4.block _ (row_lt HXB.out)).trans HXB.out)
   have HBw4:=hid (below_step HBW.out hb4)
   clear hb4
   obtain ⟨xa0,xa1,xa2,xa3,xa4,xa5,xa6,xa7,xa8,xa9,xa10,xa11,xa12,xa13,xa14⟩:=row15r HAw4.out
   obtain ⟨xb0,xb1,xb2,xb3,xb4,xb5,xb6,xb7,xb8,xb9,xb10,xb11,xb12,xb13,xb14⟩:=row15r HQw4.out
   go_wp2_with fail
   go_ret
   exact ⟨rfl,HBw4.out⟩
  case pos =>
   have da:((a1:Int) == (a2:Int))=true:=by rw[beq_iff_eq];omega
   by_cases et:t1=t2
   case neg =>
    have dt:((t1:Int) == (t2:Int))=false:=by rw[beq_eq_false_iff_ne];omega
    rw[alike_no (x:=((a1,(t1,(k1,((ph1,pn1),(nc1,(nb1,(es1,(l1,(f1,((mh1,mn1),(gh1,gn1))))))))))),u1)) (y:=((a2,(t2,(k2,((ph2,pn2),(nc2,(nb2,(es2,(l2,(f2,((mh2,mn2),(gh2,gn2))))))))))),u2)) (fun h=>et (by simp only[Prod.mk.injEq] at h;exact h.1.2.1))]
    clear ea hll et gu1 gu2
    go_enter Tryz.func25,Tryz.ntmps25
    go_wp2_with fail
    rw[HW.out]
    refine (HKl.out W HBW.out).mono ?_;rintro e w4 ⟨rfl,hb4⟩
    rw[hkl]
    have HAw4:=hid ((hb4.block _ (row_lt HXA.out)).trans HXA.out)
    have HQw4:=hid ((hb4.block _ (row_lt HXB.out)).trans HXB.out)
    have HBw4:=hid (below_step HBW.out hb4)
    clear hb4
    obtain ⟨xa0,xa1,xa2,xa3,xa4,xa5,xa6,xa7,xa8,xa9,xa10,xa11,xa12,xa13,xa14⟩:=row15r HAw4.out
    obtain ⟨xb0,xb1,xb2,xb3,xb4,xb5,xb6,xb7,xb8,xb9,xb10,xb11,xb12,xb13,xb14⟩:=row15r HQw4.out
    go_wp2_with fail
    go_ret
    exact ⟨rfl,HBw4.out⟩
   case pos =>
    have dt:((t1:Int) == (t2:Int))=true:=by rw[beq_iff_eq];omega
    by_cases ek:k1=k2
    case neg =>
     have dk:((k1:Int) == (k2:Int))=false:=by rw[beq_eq_false_iff_ne];omega
     rw[alike_no (x:=((a1,(t1,(k1,((ph1,pn1),(nc1,(nb1,(es1,(l1,(f1,((mh1,mn1),(gh1,gn1))))))))))),u1)) (y:=((a2,(t2,(k2,((ph2,pn2),(nc2,(nb2,(es2,(l2,(f2,((mh2,mn2),(gh2,gn2))))))))))),u2)) (fun h=>ek (by simp only[Prod.mk.injEq] at h;exact h.1.2.2.1))]
     clear ea et hll ek gu1 gu2
     go_enter Tryz.func25,Tryz.ntmps25
     go_wp2_with fail
     rw[HW.out]
     refine (HKl.out W HBW.out).mono ?_;rintro e w4 ⟨rfl,hb4⟩
     rw[hkl]
     have HAw4:=hid ((hb4.block _ (row_lt HXA.out)).trans HXA.out)
     have HQw4:=hid ((hb4.block _ (row_lt HXB.out)).trans HXB.out)
     have HBw4:=hid (below_step HBW.out hb4)
     clear hb4
     obtain ⟨xa0,xa1,xa2,xa3,xa4,xa5,xa6,xa7,xa8,xa9,xa10,xa11,xa12,xa13,xa14⟩:=row15r HAw4.out
     obtain ⟨xb0,xb1,xb2,xb3,xb4,xb5,xb6,xb7,xb8,xb9,xb10,xb11,xb12,xb13,xb14⟩:=row15r HQw4.out
     go_wp2_with fail
     go_ret
     exact ⟨rfl,HBw4.out⟩
    case pos =>
     have dk:((k1:Int) == (k2:Int))=true:=by rw[beq_iff_eq];omega
     cases hkph:alike (ph1,pn1) (ph2,pn2) with
     | false =>
      have hlph:¬(ph1,pn1)=(ph2,pn2):=fun h=>by rw[alike_yes h] at hkph;cases hkph
      rw[alike_no (x:=((a1,(t1,(k1,((ph1,pn1),(nc1,(nb1,(es1,(l1,(f1,((mh1,mn1),(gh1,gn1))))))))))),u1)) (y:=((a2,(t2,(k2,((ph2,pn2),(nc2,(nb2,(es2,(l2,(f2,((mh2,mn2),(gh2,gn2))))))))))),u2)) (fun h=>hlph (by simp only[Prod.mk.injEq] at h ⊢;exact h.1.2.2.2.1))]
      clear hlph ea et ek hll gu1 gu2
      go_enter Tryz.func25,Tryz.ntmps25
      go_wp2_with fail
      rw[HW.out]
      refine (HKl.out W HBW.out).mono ?_;rintro e w4 ⟨rfl,hb4⟩
      rw[hkl]
      have HAw4:=hid ((hb4.block _ (row_lt HXA.out)).trans HXA.out)
      have HQw4:=hid ((hb4.block _ (row_lt HXB.out)).trans HXB.out)
      have HBw4:=hid (below_step HBW.out hb4)
      clear hb4
      obtain ⟨xa0,xa1,xa2,xa3,xa4,xa5,xa6,xa7,xa8,xa9,xa10,xa11,xa12,xa13,xa14⟩:=row15r HAw4.out
      obtain ⟨xb0,xb1,xb2,xb3,xb4,xb5,xb6,xb7,xb8,xb9,xb10,xb11,xb12,xb13,xb14⟩:=row15r HQw4.out
      go_wp2_with fail
      clear xa0 xb0 xa1 xb1 xa2 xb2 xa3 xb3 xa4 xb4 xa5 xb5 xa6 xb6 xa7 xb7 xa8 xb8 xa9 xb9 xa10 xb10 xa11 xb11 xa12 xb12 xa13 xb13 xa14 xb14
      refine (HKph.out w4 HBw4.out).mono ?_;rintro e w5 ⟨rfl,hb4⟩
      rw[hkph]
      have HAw5:=hid ((hb4.block _ (row_lt HAw4.out)).trans HAw4.out)
      have HQw5:=hid ((hb4.block _ (row_lt HQw4.out)).trans HQw4.out)
      have HBw5:=hid (below_step HBw4.out hb4)
      clear hb4
      obtain ⟨xa0,xa1,xa2,xa3,xa4,xa5,xa6,xa7,xa8,xa9,xa10,xa11,xa12,xa13,xa14⟩:=row15r HAw5.out
      obtain ⟨xb0,xb1,xb2,xb3,xb4,xb5,xb6,xb7,xb8,xb9,xb10,xb11,xb12,xb13,xb14⟩:=row15r HQw5.out
      go_wp2_with fail
      go_ret
      exact ⟨rfl,HBw5.out⟩
     | true =>
      have hlph:(ph1,pn1)=(ph2,pn2):=alike_iff.1 hkph
      cases hkmh:alike (mh1,mn1) (mh2,mn2) with
      | false =>
       have hlmh:¬(mh1,mn1)=(mh2,mn2):=fun h=>by rw[alike_yes h] at hkmh;cases hkmh
       rw[alike_no (x:=((a1,(t1,(k1,((ph1,pn1),(nc1,(nb1,(es1,(l1,(f1,((mh1,mn1),(gh1,gn1))))))))))),u1)) (y:=((a2,(t2,(k2,((ph2,pn2),(nc2,(nb2,(es2,(l2,(f2,((mh2,mn2),(gh2,gn2))))))))))),u2)) (fun h=>hlmh (by simp only[Prod.mk.injEq] at h ⊢;exact h.1.2.2.2.2.2.2.2.2.2.1))]
       clear hlmh ea et ek hll hlph gu1 gu2
       go_enter Tryz.func25,Tryz.ntmps25
       go_wp2_with fail
       rw[HW.out]
       refine (HKl.out W HBW.out).mono ?_;rintro e w4 ⟨rfl,hb4⟩
       rw[hkl]
       have HAw4:=hid ((hb4.block _ (row_lt HXA.out)).trans HXA.out)
       have HQw4:=hid ((hb4.block _ (row_lt HXB.out)).trans HXB.out)
       have HBw4:=hid (below_step HBW.out hb4)
       clear hb4
       obtain ⟨xa0,xa1,xa2,xa3,xa4,xa5,xa6,xa7,xa8,xa9,xa10,xa11,xa12,xa13,xa14⟩:=row15r HAw4.out
       obtain ⟨xb0,xb1,xb2,xb3,xb4,xb5,xb6,xb7,xb8,xb9,xb10,xb11,xb12,xb13,xb14⟩:=row15r HQw4.out
       go_wp2_with fail
       clear xa0 xb0 xa1 xb1 xa2 xb2 xa3 xb3 xa4 xb4 xa5 xb5 xa6 xb6 xa7 xb7 xa8 xb8 xa9 xb9 xa10 xb10 xa11 xb11 xa12 xb12 xa13 xb13 xa14 xb14
       refine (HKph.out w4 HBw4.out).mono ?_;rintro e w5 ⟨rfl,hb4⟩
       rw[hkph]
       have HAw5:=hid ((hb4.block _ (row_lt HAw4.out)).trans HAw4.out)
       have HQw5:=hid ((hb4.block _ (row_lt HQw4.out)).trans HQw4.out)
       have HBw5:=hid (below_step HBw4.out hb4)
       clear hb4
       obtain ⟨xa0,xa1,xa2,xa3,xa4,xa5,xa6,xa7,xa8,xa9,xa10,xa11,xa12,xa13,xa14⟩:=row15r HAw5.out
       obtain ⟨xb0,xb1,xb2,xb3,xb4,xb5,xb6,xb7,xb8,xb9,xb10,xb11,xb12,xb13,xb14⟩:=row15r HQw5.out
       go_wp2_with fail
       clear xa0 xb0 xa1 xb1 xa2 xb2 xa3 xb3 xa4 xb4 xa5 xb5 xa6 xb6 xa7 xb7 xa8 xb8 xa9 xb9 xa10 xb10 xa11 xb11 xa12 xb12 xa13 xb13 xa14 xb14
       refine (HKmh.out w5 HBw5.out).mono ?_;rintro e w6 ⟨rfl,hb4⟩
       rw[hkmh]
       have HAw6:=hid ((hb4.block _ (row_lt HAw5.out)).trans HAw5.out)
       have HQw6:=hid ((hb4.block _ (row_lt HQw5.out)).trans HQw5.out)
       have HBw6:=hid (below_step HBw5.out hb4)
       clear hb4
       obtain ⟨xa0,xa1,xa2,xa3,xa4,xa5,xa6,xa7,xa8,xa9,xa10,xa11,xa12,xa13,xa14⟩:=row15r HAw6.out
       obtain ⟨xb0,xb1,xb2,xb3,xb4,xb5,xb6,xb7,xb8,xb9,xb10,xb11,xb12,xb13,xb14⟩:=row15r HQw6.out
       go_wp2_with fail
       go_ret
       exact ⟨rfl,HBw6.out⟩
      | true =>
       have hlmh:(mh1,mn1)=(mh2,mn2):=alike_iff.1 hkmh
       cases hkgh:alike (gh1,gn1) (gh2,gn2) with
       | false =>
        have hlgh:¬(gh1,gn1)=(gh2,gn2):=fun h=>by rw[alike_yes h] at hkgh;cases hkgh
        rw[alike_no (x:=((a1,(t1,(k1,((ph1,pn1),(nc1,(nb1,(es1,(l1,(f1,((mh1,mn1),(gh1,gn1))))))))))),u1)) (y:=((a2,(t2,(k2,((ph2,pn2),(nc2,(nb2,(es2,(l2,(f2,((mh2,mn2),(gh2,gn2))))))))))),u2)) (fun h=>hlgh (by simp only[Prod.mk.injEq] at h ⊢;exact h.1.2.2.2.2.2.2.2.2.2.2))]
        clear hlgh ea et ek hll hlph hlmh gu1 gu2
        go_enter Tryz.func25,Tryz.ntmps25
        go_wp2_with fail
        rw[HW.out]
        refine (HKl.out W HBW.out).mono ?_;rintro e w4 ⟨rfl,hb4⟩
        rw[hkl]
        have HAw4:=hid ((hb4.block _ (row_lt HXA.out)).trans HXA.out)
        have HQw4:=hid ((hb4.block _ (row_lt HXB.out)).trans HXB.out)
        have HBw4:=hid (below_step HBW.out hb4)
        clear hb4
        obtain ⟨xa0,xa1,xa2,xa3,xa4,xa5,xa6,xa7,xa8,xa9,xa10,xa11,xa12,xa13,xa14⟩:=row15r HAw4.out
        obtain ⟨xb0,xb1,xb2,xb3,xb4,xb5,xb6,xb7,xb8,xb9,xb10,xb11,xb12,xb13,xb14⟩:=row15r HQw4.out
        go_wp2_with fail
        clear xa0 xb0 xa1 xb1 xa2 xb2 xa3 xb3 xa4 xb4 xa5 xb5 xa6 xb6 xa7 xb7 xa8 xb8 xa9 xb9 xa10 xb10 xa11 xb11 xa12 xb12 xa13 xb13 xa14 xb14
        refine (HKph.out w4 HBw4.out).mono ?_;rintro e w5 ⟨rfl,hb4⟩
        rw[hkph]
        have HAw5:=hid ((hb4.block _ (row_lt HAw4.out)).trans HAw4.out)
        have HQw5:=hid ((hb4.block _ (row_lt HQw4.out)).trans HQw4.out)
        have HBw5:=hid (below_step HBw4.out hb4)
        clear hb4
        obtain ⟨xa0,xa1,xa2,xa3,xa4,xa5,xa6,xa7,xa8,xa9,xa10,xa11,xa12,xa13,xa14⟩:=row15r HAw5.out
        obtain ⟨xb0,xb1,xb2,xb3,xb4,xb5,xb6,xb7,xb8,xb9,xb10,xb11,xb12,xb13,xb14⟩:=row15r HQw5.out
        go_wp2_with fail
        clear xa0 xb0 xa1 xb1 xa2 xb2 xa3 xb3 xa4 xb4 xa5 xb5 xa6 xb6 xa7 xb7 xa8 xb8 xa9 xb9 xa10 xb10 xa11 xb11 xa12 xb12 xa13 xb13 xa14 xb14
        refine (HKmh.out w5 HBw5.out).mono ?_;rintro e w6 ⟨rfl,hb4⟩
        rw[hkmh]
        have HAw6:=hid ((hb4.block _ (row_lt HAw5.out)).trans HAw5.out)
        have HQw6:=hid ((hb4.block _ (row_lt HQw5.out)).trans HQw5.out)
        have HBw6:=hid (below_step HBw5.out hb4)
        clear hb4
        obtain ⟨xa0,xa1,xa2,xa3,xa4,xa5,xa6,xa7,xa8,xa9,xa10,xa11,xa12,xa13,xa14⟩:=row15r HAw6.out
        obtain ⟨xb0,xb1,xb2,xb3,xb4,xb5,xb6,xb7,xb8,xb9,xb10,xb11,xb12,xb13,xb14⟩:=row15r HQw6.out
        go_wp2_with fail
        clear xa0 xb0 xa1 xb1 xa2 xb2 xa3 xb3 xa4 xb4 xa5 xb5 xa6 xb6 xa7 xb7 xa8 xb8 xa9 xb9 xa10 xb10 xa11 xb11 xa12 xb12 xa13 xb13 xa14 xb14
        refine (HKgh.out w6 HBw6.out).mono ?_;rintro e w7 ⟨rfl,hb4⟩
        rw[hkgh]
        have HAw7:=hid ((hb4.block _ (row_lt HAw6.out)).trans HAw6.out)
        have HQw7:=hid ((hb4.block _ (row_lt HQw6.out)).trans HQw6.out)
        have HBw7:=hid (below_step HBw6.out hb4)
        clear hb4
        obtain ⟨xa0,xa1,xa2,xa3,xa4,xa5,xa6,xa7,xa8,xa9,xa10,xa11,xa12,xa13,xa14⟩:=row15r HAw7.out
        obtain ⟨xb0,xb1,xb2,xb3,xb4,xb5,xb6,xb7,xb8,xb9,xb10,xb11,xb12,xb13,xb14⟩:=row15r HQw7.out
        go_wp2_with fail
        go_ret
        exact ⟨rfl,HBw7.out⟩
       | true =>
        have hlgh:(gh1,gn1)=(gh2,gn2):=alike_iff.1 hkgh
        cases hknc:alike nc1 nc2 with
        | false =>
         have hlnc:¬nc1=nc2:=fun h=>by rw[alike_yes h] at hknc;cases hknc
         rw[alike_no (x:=((a1,(t1,(k1,((ph1,pn1),(nc1,(nb1,(es1,(l1,(f1,((mh1,mn1),(gh1,gn1))))))))))),u1)) (y:=((a2,(t2,(k2,((ph2,pn2),(nc2,(nb2,(es2,(l2,(f2,((mh2,mn2),(gh2,gn2))))))))))),u2)) (fun h=>hlnc (by simp only[Prod.mk.injEq] at h;exact h.1.2.2.2.2.1))]
         clear hlnc ea et ek hll hlph hlmh hlgh gu1 gu2
         go_enter Tryz.func25,Tryz.ntmps25
         go_wp2_with fail
         rw[HW.out]
         refine (HKl.out W HBW.out).mono ?_;rintro e w4 ⟨rfl,hb4⟩
         rw[hkl]
         have HAw4:=hid ((hb4.block _ (row_lt HXA.out)).trans HXA.out)
         have HQw4:=hid ((hb4.block _ (row_lt HXB.out)).trans HXB.out)
         have HBw4:=hid (below_step HBW.out hb4)
         clear hb4
         obtain ⟨xa0,xa1,xa2,xa3,xa4,xa5,xa6,xa7,xa8,xa9,xa10,xa11,xa12,xa13,xa14⟩:=row15r HAw4.out
         obtain ⟨xb0,xb1,xb2,xb3,xb4,xb5,xb6,xb7,xb8,xb9,xb10,xb11,xb12,xb13,xb14⟩:=row15r HQw4.out
         go_wp2_with fail
         clear xa0 xb0 xa1 xb1 xa2 xb2 xa3 xb3 xa4 xb4 xa5 xb5 xa6 xb6 xa7 xb7 xa8 xb8 xa9 xb9 xa10 xb10 xa11 xb11 xa12 xb12 xa13 xb13 xa14 xb14
         refine (HKph.out w4 HBw4.out).mono ?_;rintro e w5 ⟨rfl,hb4⟩
         rw[hkph]
         have HAw5:=hid ((hb4.block _ (row_lt HAw4.out)).trans HAw4.out)
         have HQw5:=hid ((hb4.block _ (row_lt HQw4.out)).trans HQw4.out)
         have HBw5:=hid (below_step HBw4.out hb4)
         clear hb4
         obtain ⟨xa0,xa1,xa2,xa3,xa4,xa5,xa6,xa7,xa8,xa9,xa10,xa11,xa12,xa13,xa14⟩:=row15r HAw5.out
         obtain ⟨xb0,xb1,xb2,xb3,xb4,xb5,xb6,xb7,xb8,xb9,xb10,xb11,xb12,xb13,xb14⟩:=row15r HQw5.out
         go_wp2_with fail
         clear xa0 xb0 xa1 xb1 xa2 xb2 xa3 xb3 xa4 xb4 xa5 xb5 xa6 xb6 xa7 xb7 xa8 xb8 xa9 xb9 xa10 xb10 xa11 xb11 xa12 xb12 xa13 xb13 xa14 xb14
         refine (HKmh.out w5 HBw5.out).mono ?_;rintro e w6 ⟨rfl,hb4⟩
         rw[hkmh]
         have HAw6:=hid ((hb4.block _ (row_lt HAw5.out)).trans HAw5.out)
         have HQw6:=hid ((hb4.block _ (row_lt HQw5.out)).trans HQw5.out)
         have HBw6:=hid (below_step HBw5.out hb4)
         clear hb4
         obtain ⟨xa0,xa1,xa2,xa3,xa4,xa5,xa6,xa7,xa8,xa9,xa10,xa11,xa12,xa13,xa14⟩:=row15r HAw6.out
         obtain ⟨xb0,xb1,xb2,xb3,xb4,xb5,xb6,xb7,xb8,xb9,xb10,xb11,xb12,xb13,xb14⟩:=row15r HQw6.out
         go_wp2_with fail
         clear xa0 xb0 xa1 xb1 xa2 xb2 xa3 xb3 xa4 xb4 xa5 xb5 xa6 xb6 xa7 xb7 xa8 xb8 xa9 xb9 xa10 xb10 xa11 xb11 xa12 xb12 xa13 xb13 xa14 xb14
         refine (HKgh.out w6 HBw6.out).mono ?_;rintro e w7 ⟨rfl,hb4⟩
         rw[hkgh]
         have HAw7:=hid ((hb4.block _ (row_lt HAw6.out)).trans HAw6.out)
         have HQw7:=hid ((hb4.block _ (row_lt HQw6.out)).trans HQw6.out)
         have HBw7:=hid (below_step HBw6.out hb4)
         clear hb4
         obtain ⟨xa0,xa1,xa2,xa3,xa4,xa5,xa6,xa7,xa8,xa9,xa10,xa11,xa12,xa13,xa14⟩:=row15r HAw7.out
         obtain ⟨xb0,xb1,xb2,xb3,xb4,xb5,xb6,xb7,xb8,xb9,xb10,xb11,xb12,xb13,xb14⟩:=row15r HQw7.out
         go_wp2_with fail
         clear xa0 xb0 xa1 xb1 xa2 xb2 xa3 xb3 xa4 xb4 xa5 xb5 xa6 xb6 xa7 xb7 xa8 xb8 xa9 xb9 xa10 xb10 xa11 xb11 xa12 xb12 xa13 xb13 xa14 xb14
         refine (HKnc.out w7 HBw7.out).mono ?_;rintro e w8 ⟨rfl,hb4⟩
         rw[hknc]
         have HAw8:=hid ((hb4.block _ (row_lt HAw7.out)).trans HAw7.out)
         have HQw8:=hid ((hb4.block _ (row_lt HQw7.out)).trans HQw7.out)
         have HBw8:=hid (below_step HBw7.out hb4)
         clear hb4
         obtain ⟨xa0,xa1,xa2,xa3,xa4,xa5,xa6,xa7,xa8,xa9,xa10,xa11,xa12,xa13,xa14⟩:=row15r HAw8.out
         obtain ⟨xb0,xb1,xb2,xb3,xb4,xb5,xb6,xb7,xb8,xb9,xb10,xb11,xb12,xb13,xb14⟩:=row15r HQw8.out
         go_wp2_with fail
         go_ret
         exact ⟨rfl,HBw8.out⟩
        | true =>
         have hlnc:nc1=nc2:=alike_iff.1 hknc
         cases hknb:alike nb1 nb2 with
         | false =>
          have hlnb:¬nb1=nb2:=fun h=>by rw[alike_yes h] at hknb;cases hknb
          rw[alike_no (x:=((a1,(t1,(k1,((ph1,pn1),(nc1,(nb1,(es1,(l1,(f1,((mh1,mn1),(gh1,gn1))))))))))),u1)) (y:=((a2,(t2,(k2,((ph2,pn2),(nc2,(nb2,(es2,(l2,(f2,((mh2,mn2),(gh2,gn2))))))))))),u2)) (fun h=>hlnb (by simp only[Prod.mk.injEq] at h;exact h.1.2.2.2.2.2.1))]
          clear hlnb ea et ek hll hlph hlmh hlgh hlnc gu1 gu2
          go_enter Tryz.func25,Tryz.ntmps25
          go_wp2_with fail
          rw[HW.out]
          refine (HKl.out W HBW.out).mono ?_;rintro e w4 ⟨rfl,hb4⟩
          rw[hkl]
          have HAw4:=hid ((hb4.block _ (row_lt HXA.out)).trans HXA.out)
          have HQw4:=hid ((hb4.block _ (row_lt HXB.out)).trans HXB.out)
          have HBw4:=hid (below_step HBW.out hb4)
          clear hb4
          obtain ⟨xa0,xa1,xa2,xa3,xa4,xa5,xa6,xa7,xa8,xa9,xa10,xa11,xa12,xa13,xa14⟩:=row15r HAw4.out
          obtain ⟨xb0,xb1,xb2,xb3,xb4,xb5,xb6,xb7,xb8,xb9,xb10,xb11,xb12,xb13,xb14⟩:=row15r HQw4.out
          go_wp2_with fail
          clear xa0 xb0 xa1 xb1 xa2 xb2 xa3 xb3 xa4 xb4 xa5 xb5 xa6 xb6 xa7 xb7 xa8 xb8 xa9 xb9 xa10 xb10 xa11 xb11 xa12 xb12 xa13 xb13 xa14 xb14
          refine (HKph.out w4 HBw4.out).mono ?_;rintro e w5 ⟨rfl,hb4⟩
          rw[hkph]
          have HAw5:=hid ((hb4.block _ (row_lt HAw4.out)).trans HAw4.out)
          have HQw5:=hid ((hb4.block _ (row_lt HQw4.out)).trans HQw4.out)
          have HBw5:=hid (below_step HBw4.out hb4)
          clear hb4
          obtain ⟨xa0,xa1,xa2,xa3,xa4,xa5,xa6,xa7,xa8,xa9,xa10,xa11,xa12,xa13,xa14⟩:=row15r HAw5.out
          obtain ⟨xb0,xb1,xb2,xb3,xb4,xb5,xb6,xb7,xb8,xb9,xb10,xb11,xb12,xb13,xb14⟩:=row15r HQw5.out
          go_wp2_with fail
          clear xa0 xb0 xa1 xb1 xa2 xb2 xa3 xb3 xa4 xb4 xa5 xb5 xa6 xb6 xa7 xb7 xa8 xb8 xa9 xb9 xa10 xb10 xa11 xb11 xa12 xb12 xa13 xb13 xa14 xb14
          refine (HKmh.out w5 HBw5.out).mono ?_;rintro e w6 ⟨rfl,hb4⟩
          rw[hkmh]
          have HAw6:=hid ((hb4.block _ (row_lt HAw5.out)).trans HAw5.out)
          have HQw6:=hid ((hb4.block _ (row_lt HQw5.out)).trans HQw5.out)
          have HBw6:=hid (below_step HBw5.out hb4)
          clear hb4
          obtain ⟨xa0,xa1,xa2,xa3,xa4,xa5,xa6,xa7,xa8,xa9,xa10,xa11,xa12,xa13,xa14⟩:=row15r HAw6.out
          obtain ⟨xb0,xb1,xb2,xb3,xb4,xb5,xb6,xb7,xb8,xb9,xb10,xb11,xb12,xb13,xb14⟩:=row15r HQw6.out
          go_wp2_with fail
          clear xa0 xb0 xa1 xb1 xa2 xb2 xa3 xb3 xa4 xb4 xa5 xb5 xa6 xb6 xa7 xb7 xa8 xb8 xa9 xb9 xa10 xb10 xa11 xb11 xa12 xb12 xa13 xb13 xa14 xb14
          refine (HKgh.out w6 HBw6.out).mono ?_;rintro e w7 ⟨rfl,hb4⟩
          rw[hkgh]
          have HAw7:=hid ((hb4.block _ (row_lt HAw6.out)).trans HAw6.out)
          have HQw7:=hid ((hb4.block _ (row_lt HQw6.out)).trans HQw6.out)
          have HBw7:=hid (below_step HBw6.out hb4)
          clear hb4
          obtain ⟨xa0,xa1,xa2,xa3,xa4,xa5,xa6,xa7,xa8,xa9,xa10,xa11,xa12,xa13,xa14⟩:=row15r HAw7.out
          obtain ⟨xb0,xb1,xb2,xb3,xb4,xb5,xb6,xb7,xb8,xb9,xb10,xb11,xb12,xb13,xb14⟩:=row15r HQw7.out
          go_wp2_with fail
          clear xa0 xb0 xa1 xb1 xa2 xb2 xa3 xb3 xa4 xb4 xa5 xb5 xa6 xb6 xa7 xb7 xa8 xb8 xa9 xb9 xa10 xb10 xa11 xb11 xa12 xb12 xa13 xb13 xa14 xb14
          refine (HKnc.out w7 HBw7.out).mono ?_;rintro e w8 ⟨rfl,hb4⟩
          rw[hknc]
          have HAw8:=hid ((hb4.block _ (row_lt HAw7.out)).trans HAw7.out)
          have HQw8:=hid ((hb4.block _ (row_lt HQw7.out)).trans HQw7.out)
          have HBw8:=hid (below_step HBw7.out hb4)
          clear hb4
          obtain ⟨xa0,xa1,xa2,xa3,xa4,xa5,xa6,xa7,xa8,xa9,xa10,xa11,xa12,xa13,xa14⟩:=row15r HAw8.out
          obtain ⟨xb0,xb1,xb2,xb3,xb4,xb5,xb6,xb7,xb8,xb9,xb10,xb11,xb12,xb13,xb14⟩:=row15r HQw8.out
          go_wp2_with fail
          clear xa0 xb0 xa1 xb1 xa2 xb2 xa3 xb3 xa4 xb4 xa5 xb5 xa6 xb6 xa7 xb7 xa8 xb8 xa9 xb9 xa10 xb10 xa11 xb11 xa12 xb12 xa13 xb13 xa14 xb14
          refine (HKnb.out w8 HBw8.out).mono ?_;rintro e w9 ⟨rfl,hb4⟩
          rw[hknb]
          have HAw9:=hid ((hb4.block _ (row_lt HAw8.out)).trans HAw8.out)
          have HQw9:=hid ((hb4.block _ (row_lt HQw8.out)).trans HQw8.out)
          have HBw9:=hid (below_step HBw8.out hb4)
          clear hb4
          obtain ⟨xa0,xa1,xa2,xa3,xa4,xa5,xa6,xa7,xa8,xa9,xa10,xa11,xa12,xa13,xa14⟩:=row15r HAw9.out
          obtain ⟨xb0,xb1,xb2,xb3,xb4,xb5,xb6,xb7,xb8,xb9,xb10,xb11,xb12,xb13,xb14⟩:=row15r HQw9.out
          go_wp2_with fail
          go_ret
          exact ⟨rfl,HBw9.out⟩
         | true =>
          have hlnb:nb1=nb2:=alike_iff.1 hknb
          cases hkes:alike es1 es2 with
          | false =>
           have hles:¬es1=es2:=fun h=>by rw[alike_yes h] at hkes;cases hkes
           rw[alike_no (x:=((a1,(t1,(k1,((ph1,pn1),(nc1,(nb1,(es1,(l1,(f1,((mh1,mn1),(gh1,gn1))))))))))),u1)) (y:=((a2,(t2,(k2,((ph2,pn2),(nc2,(nb2,(es2,(l2,(f2,((mh2,mn2),(gh2,gn2))))))))))),u2)) (fun h=>hles (by simp only[Prod.mk.injEq] at h;exact h.1.2.2.2.2.2.2.1))]
           clear hles ea et ek hll hlph hlmh hlgh hlnc hlnb gu1 gu2
           go_enter Tryz.func25,Tryz.ntmps25
           go_wp2_with fail
           rw[HW.out]
           refine (HKl.out W HBW.out).mono ?_;rintro e w4 ⟨rfl,hb4⟩
           rw[hkl]
           have HAw4:=hid ((hb4.block _ (row_lt HXA.out)).trans HXA.out)
           have HQw4:=hid ((hb4.block _ (row_lt HXB.out)).trans HXB.out)
           have HBw4:=hid (below_step HBW.out hb4)
           clear hb4
           obtain ⟨xa0,xa1,xa2,xa3,xa4,xa5,xa6,xa7,xa8,xa9,xa10,xa11,xa12,xa13,xa14⟩:=row15r HAw4.out
           obtain ⟨xb0,xb1,xb2,xb3,xb4,xb5,xb6,xb7,xb8,xb9,xb10,xb11,xb12,xb13,xb14⟩:=row15r HQw4.out
           go_wp2_with fail
           clear xa0 xb0 xa1 xb1 xa2 xb2 xa3 xb3 xa4 xb4 xa5 xb5 xa6 xb6 xa7 xb7 xa8 xb8 xa9 xb9 xa10 xb10 xa11 xb11 xa12 xb12 xa13 xb13 xa14 xb14
           refine (HKph.out w4 HBw4.out).mono ?_;rintro e w5 ⟨rfl,hb4⟩
           rw[hkph]
           have HAw5:=hid ((hb4.block _ (row_lt HAw4.out)).trans HAw4.out)
           have HQw5:=hid ((hb4.block _ (row_lt HQw4.out)).trans HQw4.out)
           have HBw5:=hid (below_step HBw4.out hb4)
           clear hb4
           obtain ⟨xa0,xa1,xa2,xa3,xa4,xa5,xa6,xa7,xa8,xa9,xa10,xa11,xa12,xa13,xa14⟩:=row15r HAw5.out
           obtain ⟨xb0,xb1,xb2,xb3,xb4,xb5,xb6,xb7,xb8,xb9,xb10,xb11,xb12,xb13,xb14⟩:=row15r HQw5.out
           go_wp2_with fail
           clear xa0 xb0 xa1 xb1 xa2 xb2 xa3 xb3 xa4 xb4 xa5 xb5 xa6 xb6 xa7 xb7 xa8 xb8 xa9 xb9 xa10 xb10 xa11 xb11 xa12 xb12 xa13 xb13 xa14 xb14
           refine (HKmh.out w5 HBw5.out).mono ?_;rintro e w6 ⟨rfl,hb4⟩
           rw[hkmh]
           have HAw6:=hid ((hb4.block _ (row_lt HAw5.out)).trans HAw5.out)
           have HQw6:=hid ((hb4.block _ (row_lt HQw5.out)).trans HQw5.out)
           have HBw6:=hid (below_step HBw5.out hb4)
           clear hb4
           obtain ⟨xa0,xa1,xa2,xa3,xa4,xa5,xa6,xa7,xa8,xa9,xa10,xa11,xa12,xa13,xa14⟩:=row15r HAw6.out
           obtain ⟨xb0,xb1,xb2,xb3,xb4,xb5,xb6,xb7,xb8,xb9,xb10,xb11,xb12,xb13,xb14⟩:=row15r HQw6.out
           go_wp2_with fail
           clear xa0 xb0 xa1 xb1 xa2 xb2 xa3 xb3 xa4 xb4 xa5 xb5 xa6 xb6 xa7 xb7 xa8 xb8 xa9 xb9 xa10 xb10 xa11 xb11 xa12 xb12 xa13 xb13 xa14 xb14
           refine (HKgh.out w6 HBw6.out).mono ?_;rintro e w7 ⟨rfl,hb4⟩
           rw[hkgh]
           have HAw7:=hid ((hb4.block _ (row_lt HAw6.out)).trans HAw6.out)
           have HQw7:=hid ((hb4.block _ (row_lt HQw6.out)).trans HQw6.out)
           have HBw7:=hid (below_step HBw6.out hb4)
           clear hb4
           obtain ⟨xa0,xa1,xa2,xa3,xa4,xa5,xa6,xa7,xa8,xa9,xa10,xa11,xa12,xa13,xa14⟩:=row15r HAw7.out
           obtain ⟨xb0,xb1,xb2,xb3,xb4,xb5,xb6,xb7,xb8,xb9,xb10,xb11,xb12,xb13,xb14⟩:=row15r HQw7.out
           go_wp2_with fail
           clear xa0 xb0 xa1 xb1 xa2 xb2 xa3 xb3 xa4 xb4 xa5 xb5 xa6 xb6 xa7 xb7 xa8 xb8 xa9 xb9 xa10 xb10 xa11 xb11 xa12 xb12 xa13 xb13 xa14 xb14
           refine (HKnc.out w7 HBw7.out).mono ?_;rintro e w8 ⟨rfl,hb4⟩
           rw[hknc]
           have HAw8:=hid ((hb4.block _ (row_lt HAw7.out)).trans HAw7.out)
           have HQw8:=hid ((hb4.block _ (row_lt HQw7.out)).trans HQw7.out)
           have HBw8:=hid (below_step HBw7.out hb4)
           clear hb4
           obtain ⟨xa0,xa1,xa2,xa3,xa4,xa5,xa6,xa7,xa8,xa9,xa10,xa11,xa12,xa13,xa14⟩:=row15r HAw8.out
           obtain ⟨xb0,xb1,xb2,xb3,xb4,xb5,xb6,xb7,xb8,xb9,xb10,xb11,xb12,xb13,xb14⟩:=row15r HQw8.out
           go_wp2_with fail
           clear xa0 xb0 xa1 xb1 xa2 xb2 xa3 xb3 xa4 xb4 xa5 xb5 xa6 xb6 xa7 xb7 xa8 xb8 xa9 xb9 xa10 xb10 xa11 xb11 xa12 xb12 xa13 xb13 xa14 xb14
           refine (HKnb.out w8 HBw8.out).mono ?_;rintro e w9 ⟨rfl,hb4⟩
           rw[hknb]
           have HAw9:=hid ((hb4.block _ (row_lt HAw8.out)).trans HAw8.out)
           have HQw9:=hid ((hb4.block _ (row_lt HQw8.out)).trans HQw8.out)
           have HBw9:=hid (below_step HBw8.out hb4)
           clear hb4
           obtain ⟨xa0,xa1,xa2,xa3,xa4,xa5,xa6,xa7,xa8,xa9,xa10,xa11,xa12,xa13,xa14⟩:=row15r HAw9.out
           obtain ⟨xb0,xb1,xb2,xb3,xb4,xb5,xb6,xb7,xb8,xb9,xb10,xb11,xb12,xb13,xb14⟩:=row15r HQw9.out
           go_wp2_with fail
           clear xa0 xb0 xa1 xb1 xa2 xb2 xa3 xb3 xa4 xb4 xa5 xb5 xa6 xb6 xa7 xb7 xa8 xb8 xa9 xb9 xa10 xb10 xa11 xb11 xa12 xb12 xa13 xb13 xa14 xb14
           refine (HKes.out w9 HBw9.out).mono ?_;rintro e w10 ⟨rfl,hb4⟩
           rw[hkes]
           have HAw10:=hid ((hb4.block _ (row_lt HAw9.out)).trans HAw9.out)
           have HQw10:=hid ((hb4.block _ (row_lt HQw9.out)).trans HQw9.out)
           have HBw10:=hid (below_step HBw9.out hb4)
           clear hb4
           obtain ⟨xa0,xa1,xa2,xa3,xa4,xa5,xa6,xa7,xa8,xa9,xa10,xa11,xa12,xa13,xa14⟩:=row15r HAw10.out
           obtain ⟨xb0,xb1,xb2,xb3,xb4,xb5,xb6,xb7,xb8,xb9,xb10,xb11,xb12,xb13,xb14⟩:=row15r HQw10.out
           go_wp2_with fail
           go_ret
           exact ⟨rfl,HBw10.out⟩
          | true =>
           have hles:es1=es2:=alike_iff.1 hkes
           by_cases ef:f1=f2
           case neg =>
            have df:((f1:Int) == (f2:Int))=false:=by rw[beq_eq_false_iff_ne];omega
            rw[alike_no (x:=((a1,(t1,(k1,((ph1,pn1),(nc1,(nb1,(es1,(l1,(f1,((mh1,mn1),(gh1,gn1))))))))))),u1)) (y:=((a2,(t2,(k2,((ph2,pn2),(nc2,(nb2,(es2,(l2,(f2,((mh2,mn2),(gh2,gn2))))))))))),u2)) (fun h=>ef (by simp only[Prod.mk.injEq] at h;exact h.1.2.2.2.2.2.2.2.2.1))]
            clear ea et ek hll hlph hlmh hlgh hlnc hlnb hles ef gu1 gu2
            go_enter Tryz.func25,Tryz.ntmps25
            go_wp2_with fail
            rw[HW.out]
            refine (HKl.out W HBW.out).mono ?_;rintro e w4 ⟨rfl,hb4⟩
            rw[hkl]
            have HAw4:=hid ((hb4.block _ (row_lt HXA.out)).trans HXA.out)
            have HQw4:=hid ((hb4.block _ (row_lt HXB.out)).trans HXB.out)
            have HBw4:=hid (below_step HBW.out hb4)
            clear hb4
            obtain ⟨xa0,xa1,xa2,xa3,xa4,xa5,xa6,xa7,xa8,xa9,xa10,xa11,xa12,xa13,xa14⟩:=row15r HAw4.out
            obtain ⟨xb0,xb1,xb2,xb3,xb4,xb5,xb6,xb7,xb8,xb9,xb10,xb11,xb12,xb13,xb14⟩:=row15r HQw4.out
            go_wp2_with fail
            clear xa0 xb0 xa1 xb1 xa2 xb2 xa3 xb3 xa4 xb4 xa5 xb5 xa6 xb6 xa7 xb7 xa8 xb8 xa9 xb9 xa10 xb10 xa11 xb11 xa12 xb12 xa13 xb13 xa14 xb14
            refine (HKph.out w4 HBw4.out).mono ?_;rintro e w5 ⟨rfl,hb4⟩
            rw[hkph]
            have HAw5:=hid ((hb4.block _ (row_lt HAw4.out)).trans HAw4.out)
            have HQw5:=hid ((hb4.block _ (row_lt HQw4.out)).trans HQw4.out)
            have HBw5:=hid (below_step HBw4.out hb4)
            clear hb4
            obtain ⟨xa0,xa1,xa2,xa3,xa4,xa5,xa6,xa7,xa8,xa9,xa10,xa11,xa12,xa13,xa14⟩:=row15r HAw5.out
            obtain ⟨xb0,xb1,xb2,xb3,xb4,xb5,xb6,xb7,xb8,xb9,xb10,xb11,xb12,xb13,xb14⟩:=row15r HQw5.out
            go_wp2_with fail
            clear xa0 xb0 xa1 xb1 xa2 xb2 xa3 xb3 xa4 xb4 xa5 xb5 xa6 xb6 xa7 xb7 xa8 xb8 xa9 xb9 xa10 xb10 xa11 xb11 xa12 xb12 xa13 xb13 xa14 xb14
            refine (HKmh.out w5 HBw5.out).mono ?_;rintro e w6 ⟨rfl,hb4⟩
            rw[hkmh]
            have HAw6:=hid ((hb4.block _ (row_lt HAw5.out)).trans HAw5.out)
            have HQw6:=hid ((hb4.block _ (row_lt HQw5.out)).trans HQw5.out)
            have HBw6:=hid (below_step HBw5.out hb4)
            clear hb4
            obtain ⟨xa0,xa1,xa2,xa3,xa4,xa5,xa6,xa7,xa8,xa9,xa10,xa11,xa12,xa13,xa14⟩:=row15r HAw6.out
            obtain ⟨xb0,xb1,xb2,xb3,xb4,xb5,xb6,xb7,xb8,xb9,xb10,xb11,xb12,xb13,xb14⟩:=row15r HQw6.out
            go_wp2_with fail
            clear xa0 xb0 xa1 xb1 xa2 xb2 xa3 xb3 xa4 xb4 xa5 xb5 xa6 xb6 xa7 xb7 xa8 xb8 xa9 xb9 xa10 xb10 xa11 xb11 xa12 xb12 xa13 xb13 xa14 xb14
            refine (HKgh.out w6 HBw6.out).mono ?_;rintro e w7 ⟨rfl,hb4⟩
            rw[hkgh]
            have HAw7:=hid ((hb4.block _ (row_lt HAw6.out)).trans HAw6.out)
            have HQw7:=hid ((hb4.block _ (row_lt HQw6.out)).trans HQw6.out)
            have HBw7:=hid (below_step HBw6.out hb4)
            clear hb4
            obtain ⟨xa0,xa1,xa2,xa3,xa4,xa5,xa6,xa7,xa8,xa9,xa10,xa11,xa12,xa13,xa14⟩:=row15r HAw7.out
            obtain ⟨xb0,xb1,xb2,xb3,xb4,xb5,xb6,xb7,xb8,xb9,xb10,xb11,xb12,xb13,xb14⟩:=row15r HQw7.out
            go_wp2_with fail
            clear xa0 xb0 xa1 xb1 xa2 xb2 xa3 xb3 xa4 xb4 xa5 xb5 xa6 xb6 xa7 xb7 xa8 xb8 xa9 xb9 xa10 xb10 xa11 xb11 xa12 xb12 xa13 xb13 xa14 xb14
            refine (HKnc.out w7 HBw7.out).mono ?_;rintro e w8 ⟨rfl,hb4⟩
            rw[hknc]
            have HAw8:=hid ((hb4.block _ (row_lt HAw7.out)).trans HAw7.out)
            have HQw8:=hid ((hb4.block _ (row_lt HQw7.out)).trans HQw7.out)
            have HBw8:=hid (below_step HBw7.out hb4)
            clear hb4
            obtain ⟨xa0,xa1,xa2,xa3,xa4,xa5,xa6,xa7,xa8,xa9,xa10,xa11,xa12,xa13,xa14⟩:=row15r HAw8.out
            obtain ⟨xb0,xb1,xb2,xb3,xb4,xb5,xb6,xb7,xb8,xb9,xb10,xb11,xb12,xb13,xb14⟩:=row15r HQw8.out
            go_wp2_with fail
            clear xa0 xb0 xa1 xb1 xa2 xb2 xa3 xb3 xa4 xb4 xa5 xb5 xa6 xb6 xa7 xb7 xa8 xb8 xa9 xb9 xa10 xb10 xa11 xb11 xa12 xb12 xa13 xb13 xa14 xb14
            refine (HKnb.out w8 HBw8.out).mono ?_;rintro e w9 ⟨rfl,hb4⟩
            rw[hknb]
            have HAw9:=hid ((hb4.block _ (row_lt HAw8.out)).trans HAw8.out)
            have HQw9:=hid ((hb4.block _ (row_lt HQw8.out)).trans HQw8.out)
            have HBw9:=hid (below_step HBw8.out hb4)
            clear hb4
            obtain ⟨xa0,xa1,xa2,xa3,xa4,xa5,xa6,xa7,xa8,xa9,xa10,xa11,xa12,xa13,xa14⟩:=row15r HAw9.out
            obtain ⟨xb0,xb1,xb2,xb3,xb4,xb5,xb6,xb7,xb8,xb9,xb10,xb11,xb12,xb13,xb14⟩:=row15r HQw9.out
            go_wp2_with fail
            clear xa0 xb0 xa1 xb1 xa2 xb2 xa3 xb3 xa4 xb4 xa5 xb5 xa6 xb6 xa7 xb7 xa8 xb8 xa9 xb9 xa10 xb10 xa11 xb11 xa12 xb12 xa13 xb13 xa14 xb14
            refine (HKes.out w9 HBw9.out).mono ?_;rintro e w10 ⟨rfl,hb4⟩
            rw[hkes]
            have HAw10:=hid ((hb4.block _ (row_lt HAw9.out)).trans HAw9.out)
            have HQw10:=hid ((hb4.block _ (row_lt HQw9.out)).trans HQw9.out)
            have HBw10:=hid (below_step HBw9.out hb4)
            clear hb4
            obtain ⟨xa0,xa1,xa2,xa3,xa4,xa5,xa6,xa7,xa8,xa9,xa10,xa11,xa12,xa13,xa14⟩:=row15r HAw10.out
            obtain ⟨xb0,xb1,xb2,xb3,xb4,xb5,xb6,xb7,xb8,xb9,xb10,xb11,xb12,xb13,xb14⟩:=row15r HQw10.out
            go_wp2_with fail
            go_ret
            exact ⟨rfl,HBw10.out⟩
           case pos =>
            have df:((f1:Int) == (f2:Int))=true:=by rw[beq_iff_eq];omega
            by_cases eu:u1=u2
            case neg =>
             have du:=(text_ne gu1 gu2 eu).2
             rw[alike_no (x:=((a1,(t1,(k1,((ph1,pn1),(nc1,(nb1,(es1,(l1,(f1,((mh1,mn1),(gh1,gn1))))))))))),u1)) (y:=((a2,(t2,(k2,((ph2,pn2),(nc2,(nb2,(es2,(l2,(f2,((mh2,mn2),(gh2,gn2))))))))))),u2)) (fun h=>eu (by simp only[Prod.mk.injEq] at h;exact h.2))]
             clear ea et ek ef hll hlph hlmh hlgh hlnc hlnb hles eu gu1 gu2
             go_enter Tryz.func25,Tryz.ntmps25
             go_wp2_with fail
             rw[HW.out]
             refine (HKl.out W HBW.out).mono ?_;rintro e w4 ⟨rfl,hb4⟩
             rw[hkl]
             have HAw4:=hid ((hb4.block _ (row_lt HXA.out)).trans HXA.out)
             have HQw4:=hid ((hb4.block _ (row_lt HXB.out)).trans HXB.out)
             have HBw4:=hid (below_step HBW.out hb4)
             clear hb4
             obtain ⟨xa0,xa1,xa2,xa3,xa4,xa5,xa6,xa7,xa8,xa9,xa10,xa11,xa12,xa13,xa14⟩:=row15r HAw4.out
             obtain ⟨xb0,xb1,xb2,xb3,xb4,xb5,xb6,xb7,xb8,xb9,xb10,xb11,xb12,xb13,xb14⟩:=row15r HQw4.out
             go_wp2_with fail
             clear xa0 xb0 xa1 xb1 xa2 xb2 xa3 xb3 xa4 xb4 xa5 xb5 xa6 xb6 xa7 xb7 xa8 xb8 xa9 xb9 xa10 xb10 xa11 xb11 xa12 xb12 xa13 xb13 xa14 xb14
             refine (HKph.out w4 HBw4.out).mono ?_;rintro e w5 ⟨rfl,hb4⟩
             rw[hkph]
             have HAw5:=hid ((hb4.block _ (row_lt HAw4.out)).trans HAw4.out)
             have HQw5:=hid ((hb4.block _ (row_lt HQw4.out)).trans HQw4.out)
             have HBw5:=hid (below_step HBw4.out hb4)
             clear hb4
             obtain ⟨xa0,xa1,xa2,xa3,xa4,xa5,xa6,xa7,xa8,xa9,xa10,xa11,xa12,xa13,xa14⟩:=row15r HAw5.out
             obtain ⟨xb0,xb1,xb2,xb3,xb4,xb5,xb6,xb7,xb8,xb9,xb10,xb11,xb12,xb13,xb14⟩:=row15r HQw5.out
             go_wp2_with fail
             clear xa0 xb0 xa1 xb1 xa2 xb2 xa3 xb3 xa4 xb4 xa5 xb5 xa6 xb6 xa7 xb7 xa8 xb8 xa9 xb9 xa10 xb10 xa11 xb11 xa12 xb12 xa13 xb13 xa14 xb14
             refine (HKmh.out w5 HBw5.out).mono ?_;rintro e w6 ⟨rfl,hb4⟩
             rw[hkmh]
             have HAw6:=hid ((hb4.block _ (row_lt HAw5.out)).trans HAw5.out)
             have HQw6:=hid ((hb4.block _ (row_lt HQw5.out)).trans HQw5.out)
             have HBw6:=hid (below_step HBw5.out hb4)
             clear hb4
             obtain ⟨xa0,xa1,xa2,xa3,xa4,xa5,xa6,xa7,xa8,xa9,xa10,xa11,xa12,xa13,xa14⟩:=row15r HAw6.out
             obtain ⟨xb0,xb1,xb2,xb3,xb4,xb5,xb6,xb7,xb8,xb9,xb10,xb11,xb12,xb13,xb14⟩:=row15r HQw6.out
             go_wp2_with fail
             clear xa0 xb0 xa1 xb1 xa2 xb2 xa3 xb3 xa4 xb4 xa5 xb5 xa6 xb6 xa7 xb7 xa8 xb8 xa9 xb9 xa10 xb10 xa11 xb11 xa12 xb12 xa13 xb13 xa14 xb14
             refine (HKgh.out w6 HBw6.out).mono ?_;rintro e w7 ⟨rfl,hb4⟩
             rw[hkgh]
             have HAw7:=hid ((hb4.block _ (row_lt HAw6.out)).trans HAw6.out)
             have HQw7:=hid ((hb4.block _ (row_lt HQw6.out)).trans HQw6.out)
             have HBw7:=hid (below_step HBw6.out hb4)
             clear hb4
             obtain ⟨xa0,xa1,xa2,xa3,xa4,xa5,xa6,xa7,xa8,xa9,xa10,xa11,xa12,xa13,xa14⟩:=row15r HAw7.out
             obtain ⟨xb0,xb1,xb2,xb3,xb4,xb5,xb6,xb7,xb8,xb9,xb10,xb11,xb12,xb13,xb14⟩:=row15r HQw7.out
             go_wp2_with fail
             clear xa0 xb0 xa1 xb1 xa2 xb2 xa3 xb3 xa4 xb4 xa5 xb5 xa6 xb6 xa7 xb7 xa8 xb8 xa9 xb9 xa10 xb10 xa11 xb11 xa12 xb12 xa13 xb13 xa14 xb14
             refine (HKnc.out w7 HBw7.out).mono ?_;rintro e w8 ⟨rfl,hb4⟩
             rw[hknc]
             have HAw8:=hid ((hb4.block _ (row_lt HAw7.out)).trans HAw7.out)
             have HQw8:=hid ((hb4.block _ (row_lt HQw7.out)).trans HQw7.out)
             have HBw8:=hid (below_step HBw7.out hb4)
             clear hb4
             obtain ⟨xa0,xa1,xa2,xa3,xa4,xa5,xa6,xa7,xa8,xa9,xa10,xa11,xa12,xa13,xa14⟩:=row15r HAw8.out
             obtain ⟨xb0,xb1,xb2,xb3,xb4,xb5,xb6,xb7,xb8,xb9,xb10,xb11,xb12,xb13,xb14⟩:=row15r HQw8.out
             go_wp2_with fail
             clear xa0 xb0 xa1 xb1 xa2 xb2 xa3 xb3 xa4 xb4 xa5 xb5 xa6 xb6 xa7 xb7 xa8 xb8 xa9 xb9 xa10 xb10 xa11 xb11 xa12 xb12 xa13 xb13 xa14 xb14
             refine (HKnb.out w8 HBw8.out).mono ?_;rintro e w9 ⟨rfl,hb4⟩
             rw[hknb]
             have HAw9:=hid ((hb4.block _ (row_lt HAw8.out)).trans HAw8.out)
             have HQw9:=hid ((hb4.block _ (row_lt HQw8.out)).trans HQw8.out)
             have HBw9:=hid (below_step HBw8.out hb4)
             clear hb4
             obtain ⟨xa0,xa1,xa2,xa3,xa4,xa5,xa6,xa7,xa8,xa9,xa10,xa11,xa12,xa13,xa14⟩:=row15r HAw9.out
             obtain ⟨xb0,xb1,xb2,xb3,xb4,xb5,xb6,xb7,xb8,xb9,xb10,xb11,xb12,xb13,xb14⟩:=row15r HQw9.out
             go_wp2_with fail
             clear xa0 xb0 xa1 xb1 xa2 xb2 xa3 xb3 xa4 xb4 xa5 xb5 xa6 xb6 xa7 xb7 xa8 xb8 xa9 xb9 xa10 xb10 xa11 xb11 xa12 xb12 xa13 xb13 xa14 xb14
             refine (HKes.out w9 HBw9.out).mono ?_;rintro e w10 ⟨rfl,hb4⟩
             rw[hkes]
             have HAw10:=hid ((hb4.block _ (row_lt HAw9.out)).trans HAw9.out)
             have HQw10:=hid ((hb4.block _ (row_lt HQw9.out)).trans HQw9.out)
             have HBw10:=hid (below_step HBw9.out hb4)
             clear hb4
             obtain ⟨xa0,xa1,xa2,xa3,xa4,xa5,xa6,xa7,xa8,xa9,xa10,xa11,xa12,xa13,xa14⟩:=row15r HAw10.out
             obtain ⟨xb0,xb1,xb2,xb3,xb4,xb5,xb6,xb7,xb8,xb9,xb10,xb11,xb12,xb13,xb14⟩:=row15r HQw10.out
             go_wp2_with fail
             go_ret
             exact ⟨rfl,HBw10.out⟩
            case pos =>
             obtain rfl:=ba_same gu1 gu2 eu
             rw[alike_yes (x:=((a1,(t1,(k1,((ph1,pn1),(nc1,(nb1,(es1,(l1,(f1,((mh1,mn1),(gh1,gn1))))))))))),u1)) (y:=((a2,(t2,(k2,((ph2,pn2),(nc2,(nb2,(es2,(l2,(f2,((mh2,mn2),(gh2,gn2))))))))))),u2)) (by rw[ea,et,ek,ef,eu,hll,hlph,hlmh,hlgh,hlnc,hlnb,hles])]
             clear ea et ek ef eu hll hlph hlmh hlgh hlnc hlnb hles gu1 gu2
             go_enter Tryz.func25,Tryz.ntmps25
             go_wp2_with fail
             rw[HW.out]
             refine (HKl.out W HBW.out).mono ?_;rintro e w4 ⟨rfl,hb4⟩
             rw[hkl]
             have HAw4:=hid ((hb4.block _ (row_lt HXA.out)).trans HXA.out)
             have HQw4:=hid ((hb4.block _ (row_lt HXB.out)).trans HXB.out)
             have HBw4:=hid (below_step HBW.out hb4)
             clear hb4
             obtain ⟨xa0,xa1,xa2,xa3,xa4,xa5,xa6,xa7,xa8,xa9,xa10,xa11,xa12,xa13,xa14⟩:=row15r HAw4.out
             obtain ⟨xb0,xb1,xb2,xb3,xb4,xb5,xb6,xb7,xb8,xb9,xb10,xb11,xb12,xb13,xb14⟩:=row15r HQw4.out
             go_wp2_with fail
             clear xa0 xb0 xa1 xb1 xa2 xb2 xa3 xb3 xa4 xb4 xa5 xb5 xa6 xb6 xa7 xb7 xa8 xb8 xa9 xb9 xa10 xb10 xa11 xb11 xa12 xb12 xa13 xb13 xa14 xb14
             refine (HKph.out w4 HBw4.out).mono ?_;rintro e w5 ⟨rfl,hb4⟩
             rw[hkph]
             have HAw5:=hid ((hb4.block _ (row_lt HAw4.out)).trans HAw4.out)
             have HQw5:=hid ((hb4.block _ (row_lt HQw4.out)).trans HQw4.out)
             have HBw5:=hid (below_step HBw4.out hb4)
             clear hb4
             obtain ⟨xa0,xa1,xa2,xa3,xa4,xa5,xa6,xa7,xa8,xa9,xa10,xa11,xa12,xa13,xa14⟩:=row15r HAw5.out
             obtain ⟨xb0,xb1,xb2,xb3,xb4,xb5,xb6,xb7,xb8,xb9,xb10,xb11,xb12,xb13,xb14⟩:=row15r HQw5.out
             go_wp2_with fail
             clear xa0 xb0 xa1 xb1 xa2 xb2 xa3 xb3 xa4 xb4 xa5 xb5 xa6 xb6 xa7 xb7 xa8 xb8 xa9 xb9 xa10 xb10 xa11 xb11 xa12 xb12 xa13 xb13 xa14 xb14
             refine (HKmh.out w5 HBw5.out).mono ?_;rintro e w6 ⟨rfl,hb4⟩
             rw[hkmh]
             have HAw6:=hid ((hb4.block _ (row_lt HAw5.out)).trans HAw5.out)
             have HQw6:=hid ((hb4.block _ (row_lt HQw5.out)).trans HQw5.out)
             have HBw6:=hid (below_step HBw5.out hb4)
             clear hb4
             obtain ⟨xa0,xa1,xa2,xa3,xa4,xa5,xa6,xa7,xa8,xa9,xa10,xa11,xa12,xa13,xa14⟩:=row15r HAw6.out
             obtain ⟨xb0,xb1,xb2,xb3,xb4,xb5,xb6,xb7,xb8,xb9,xb10,xb11,xb12,xb13,xb14⟩:=row15r HQw6.out
             go_wp2_with fail
             clear xa0 xb0 xa1 xb1 xa2 xb2 xa3 xb3 xa4 xb4 xa5 xb5 xa6 xb6 xa7 xb7 xa8 xb8 xa9 xb9 xa10 xb10 xa11 xb11 xa12 xb12 xa13 xb13 xa14 xb14
             refine (HKgh.out w6 HBw6.out).mono ?_;rintro e w7 ⟨rfl,hb4⟩
             rw[hkgh]
             have HAw7:=hid ((hb4.block _ (row_lt HAw6.out)).trans HAw6.out)
             have HQw7:=hid ((hb4.block _ (row_lt HQw6.out)).trans HQw6.out)
             have HBw7:=hid (below_step HBw6.out hb4)
             clear hb4
             obtain ⟨xa0,xa1,xa2,xa3,xa4,xa5,xa6,xa7,xa8,xa9,xa10,xa11,xa12,xa13,xa14⟩:=row15r HAw7.out
             obtain ⟨xb0,xb1,xb2,xb3,xb4,xb5,xb6,xb7,xb8,xb9,xb10,xb11,xb12,xb13,xb14⟩:=row15r HQw7.out
             go_wp2_with fail
             clear xa0 xb0 xa1 xb1 xa2 xb2 xa3 xb3 xa4 xb4 xa5 xb5 xa6 xb6 xa7 xb7 xa8 xb8 xa9 xb9 xa10 xb10 xa11 xb11 xa12 xb12 xa13 xb13 xa14 xb14
             refine (HKnc.out w7 HBw7.out).mono ?_;rintro e w8 ⟨rfl,hb4⟩
             rw[hknc]
             have HAw8:=hid ((hb4.block _ (row_lt HAw7.out)).trans HAw7.out)
             have HQw8:=hid ((hb4.block _ (row_lt HQw7.out)).trans HQw7.out)
             have HBw8:=hid (below_step HBw7.out hb4)
             clear hb4
             obtain ⟨xa0,xa1,xa2,xa3,xa4,xa5,xa6,xa7,xa8,xa9,xa10,xa11,xa12,xa13,xa14⟩:=row15r HAw8.out
             obtain ⟨xb0,xb1,xb2,xb3,xb4,xb5,xb6,xb7,xb8,xb9,xb10,xb11,xb12,xb13,xb14⟩:=row15r HQw8.out
             go_wp2_with fail
             clear xa0 xb0 xa1 xb1 xa2 xb2 xa3 xb3 xa4 xb4 xa5 xb5 xa6 xb6 xa7 xb7 xa8 xb8 xa9 xb9 xa10 xb10 xa11 xb11 xa12 xb12 xa13 xb13 xa14 xb14
             refine (HKnb.out w8 HBw8.out).mono ?_;rintro e w9 ⟨rfl,hb4⟩
             rw[hknb]
             have HAw9:=hid ((hb4.block _ (row_lt HAw8.out)).trans HAw8.out)
             have HQw9:=hid ((hb4.block _ (row_lt HQw8.out)).trans HQw8.out)
             have HBw9:=hid (below_step HBw8.out hb4)
             clear hb4
             obtain ⟨xa0,xa1,xa2,xa3,xa4,xa5,xa6,xa7,xa8,xa9,xa10,xa11,xa12,xa13,xa14⟩:=row15r HAw9.out
             obtain ⟨xb0,xb1,xb2,xb3,xb4,xb5,xb6,xb7,xb8,xb9,xb10,xb11,xb12,xb13,xb14⟩:=row15r HQw9.out
             go_wp2_with fail
             clear xa0 xb0 xa1 xb1 xa2 xb2 xa3 xb3 xa4 xb4 xa5 xb5 xa6 xb6 xa7 xb7 xa8 xb8 xa9 xb9 xa10 xb10 xa11 xb11 xa12 xb12 xa13 xb13 xa14 xb14
             refine (HKes.out w9 HBw9.out).mono ?_;rintro e w10 ⟨rfl,hb4⟩
             rw[hkes]
             have HAw10:=hid ((hb4.block _ (row_lt HAw9.out)).trans HAw9.out)
             have HQw10:=hid ((hb4.block _ (row_lt HQw9.out)).trans HQw9.out)
             have HBw10:=hid (below_step HBw9.out hb4)
             clear hb4
             obtain ⟨xa0,xa1,xa2,xa3,xa4,xa5,xa6,xa7,xa8,xa9,xa10,xa11,xa12,xa13,xa14⟩:=row15r HAw10.out
             obtain ⟨xb0,xb1,xb2,xb3,xb4,xb5,xb6,xb7,xb8,xb9,xb10,xb11,xb12,xb13,xb14⟩:=row15r HQw10.out
             go_wp2_with fail
             go_ret
             exact ⟨rfl,HBw10.out⟩
end Go.Proofs.YtjbingoliffjiaaGreatDoor
