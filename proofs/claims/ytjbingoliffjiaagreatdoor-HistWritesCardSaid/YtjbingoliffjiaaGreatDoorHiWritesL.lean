/-
  hyglaw13.HistWrites.
-/
import Derived.Test.YtjbingoliffjiaaGreatDoorHiOut
import Derived.Test.YtjbingoliffjiaaGreatDoorPutsV
import Derived.Test.YtjbingoliffjiaaGreatDoorRefTab
import Derived.Test.YtjbingoliffjiaaGreatDoorHiRoom
set_option maxRecDepth 1000000
set_option maxHeartbeats 16000000
namespace Go.Proofs.YtjbingoliffjiaaGreatDoor
open Go.RowKit
theorem hiwr_F (x:Hi) (cs:List Value) (P:Nat→Prop) (d:Int) (w:World) (ha:hi_arg x) (hr:hiCel.R w P x cs) (hd : -9223372036854775808≤d∧d≤9223372036854775807) (hg:Glob w) (hm:hi_may d x=false) :
 Calls Tryz.prog 6 #[.agg cs.toArray,.int .i64 d] w fun e w'=>e = .returned (.bool true)∧Below w.heap.size w w':=by
 obtain ⟨⟨a,⟨t,⟨k,⟨⟨ph,pn⟩,⟨nc,⟨nb,⟨es,⟨l,⟨f,⟨⟨mh,mn⟩,⟨gh,gn⟩⟩⟩⟩⟩⟩⟩⟩⟩⟩⟩,u⟩:=x
 have hs:=hr
 obtain ⟨lo1,lc1,nco1,ncc1,nbo1,nbc1,eo1,ec1,rfl,_,_,_,_⟩:=hs
 dsimp only[strV]
 obtain ⟨Xu,eu⟩:∃ X:ByteArray,(⟨u.toArray⟩:ByteArray)=X:=⟨_,rfl⟩
 have HNu:=Lib.hid eu
 clear eu
 rw[HNu.out]
 have HARG:=Lib.hid ha
 have HDX:=Lib.hid hd
 have HMX:=Lib.hid hm
 have HGX:=Lib.hid hg
 have hb:Below w.heap.size w w:=Below.refl _ _
 have H1:=Lib.hid (Fx.nil w)
 have H2:=Lib.hid (H1.out.base (hb))
 clear H1
 clear hb
 have H3:=Lib.hid (H2.out.cel (hr))
 clear H2
 clear hr hd hm ha hg
 go_enter Tryz.func6,Tryz.ntmps6
 go_upto_region 1 with fail
 obtain ⟨blr1,hbl⟩:∃ b,w.heap.size=b:=⟨_,rfl⟩
 obtain ⟨W1,hW⟩:∃ W,w.alloc (.cells #[.slice lo1 l.length lc1,.int .u64 (a:Int),.int .u64 (t:Int),.int .u64 (k:Int),.bool ph,.int .u64 (pn:Int),.bool mh,.int .u64 (mn:Int),.bool gh,.int .u64 (gn:Int),.slice nco1 nc.length ncc1,.slice nbo1 nb.length nbc1,.slice eo1 es.length ec1,.int .u32 (f:Int),.string Xu] 50)=W:=⟨_,rfl⟩
 have hb:Below w.heap.size w W1:=by rw[←hW];exact below_new _ _
 have hr:W1.heap[blr1]? = some (.cells #[.slice lo1 l.length lc1,.int .u64 (a:Int),.int .u64 (t:Int),.int .u64 (k:Int),.bool ph,.int .u64 (pn:Int),.bool mh,.int .u64 (mn:Int),.bool gh,.int .u64 (gn:Int),.slice nco1 nc.length ncc1,.slice nbo1 nb.length nbc1,.slice eo1 es.length ec1,.int .u32 (f:Int),.string Xu] 50 (0,0)):=by rw[←hW,←hbl];exact new_row _ _ _
 rw[hW,hbl]
 clear hW hbl
 have H4:=Lib.hid (H3.out.below hb)
 clear hb H3
 have H5:=Lib.hid (H4.out.row (hr))
 clear H4
 clear hr
 go_wp2_with fail
 refine (first13 W1).mono ?_;rintro e w1 ⟨rfl,hb⟩
 have H6:=Lib.hid (H5.out.below hb)
 clear hb H5
 obtain ⟨xa0,xa1,xa2,xa3,xa4,xa5,xa6,xa7,xa8,xa9,xa10,xa11,xa12,xa13,xa14⟩:=row15o (H6.out.is.1)
 go_wp2_with fail
 refine (hi_room ((a,(t,(k,((ph,pn),(nc,(nb,(es,(l,(f,((mh,mn),(gh,gn))))))))))),u) [.slice lo1 l.length lc1,.int .u64 (a:Int),.int .u64 (t:Int),.int .u64 (k:Int),.bool ph,.int .u64 (pn:Int),.bool mh,.int .u64 (mn:Int),.bool gh,.int .u64 (gn:Int),.slice nco1 nc.length ncc1,.slice nbo1 nb.length nbc1,.slice eo1 es.length ec1,.int .u32 (f:Int),.string Xu] _ w1 12000 HARG.out (by rw[←HNu.out];exact H6.out.is.2.1) (by omega)).mono ?_;intro e w2 hpost
 obtain ⟨hb,r,rfl,HR⟩:=hpost
 clear xa0 xa1 xa2 xa3 xa4 xa5 xa6 xa7 xa8 xa9 xa10 xa11 xa12 xa13 xa14
 have H7:=Lib.hid (H6.out.below hb)
 clear hb H6
 by_cases hr0:r<0
 case pos =>
  have d1:decide (r<0)=true:=decide_eq_true hr0
  clear hr0 HR
  go_wp2_with fail
  refine (first13 w2).mono ?_;rintro e w9 ⟨rfl,hb⟩
  have H8:=Lib.hid (H7.out.below hb)
  clear hb H7
  go_wp2_with fail
  go_ret
  exact ⟨rfl,H8.out.is.2.2.1⟩
 have d1:decide (r<0)=false:=decide_eq_false hr0
 have HW:=Lib.hid (show hi_wt ((a,(t,(k,((ph,pn),(nc,(nb,(es,(l,(f,((mh,mn),(gh,gn))))))))))),u)≤12000 by have h:=HR.out;unfold RoomOk at h;omega)
 have HRF:=Lib.hid (hi_fit_ofH HARG.out HW.out)
 clear HR hr0
 obtain ⟨xa0,xa1,xa2,xa3,xa4,xa5,xa6,xa7,xa8,xa9,xa10,xa11,xa12,xa13,xa14⟩:=row15o (H7.out.is.1)
 go_wp2_with fail
 refine (hi_rmay ((a,(t,(k,((ph,pn),(nc,(nb,(es,(l,(f,((mh,mn),(gh,gn))))))))))),u) [.slice lo1 l.length lc1,.int .u64 (a:Int),.int .u64 (t:Int),.int .u64 (k:Int),.bool ph,.int .u64 (pn:Int),.bool mh,.int .u64 (mn:Int),.bool gh,.int .u64 (gn:Int),.slice nco1 nc.length ncc1,.slice nbo1 nb.length nbc1,.slice eo1 es.length ec1,.int .u32 (f:Int),.string Xu] _ d w2 HARG.out HW.out (by rw[←HNu.out];exact H7.out.is.2.1) HDX.out).mono ?_;rintro e w3 ⟨rfl,hb⟩
 rw[HMX.out]
 clear xa0 xa1 xa2 xa3 xa4 xa5 xa6 xa7 xa8 xa9 xa10 xa11 xa12 xa13 xa14
 have H8:=Lib.hid (H7.out.below hb)
 clear hb H7
 obtain ⟨xa0,xa1,xa2,xa3,xa4,xa5,xa6,xa7,xa8,xa9,xa10,xa11,xa12,xa13,xa14⟩:=row15o (H8.out.is.1)
 go_wp2_with fail
 refine (hi_marshal ((a,(t,(k,((ph,pn),(nc,(nb,(es,(l,(f,((mh,mn),(gh,gn))))))))))),u) [.slice lo1 l.length lc1,.int .u64 (a:Int),.int .u64 (t:Int),.int .u64 (k:Int),.bool ph,.int .u64 (pn:Int),.bool mh,.int .u64 (mn:Int),.bool gh,.int .u64 (gn:Int),.slice nco1 nc.length ncc1,.slice nbo1 nb.length nbc1,.slice eo1 es.length ec1,.int .u32 (f:Int),.string Xu] _ d w3 HRF.out (by rw[←HNu.out];exact H8.out.is.2.1) HDX.out).mono ?_;rintro e w4 ⟨hb,hcase⟩
 clear xa0 xa1 xa2 xa3 xa4 xa5 xa6 xa7 xa8 xa9 xa10 xa11 xa12 xa13 xa14
 have H9:=Lib.hid (H8.out.below hb)
 clear hb H8
 rw[HMX.out,if_neg (by simp)] at hcase
 obtain ⟨v,rfl,hec⟩:=hcase
 obtain ⟨T',y,rfl⟩:=hec.iface
 have H10:=Lib.hid (H9.out.ec (hec))
 clear H9
 clear hec
 obtain ⟨xa0,xa1,xa2,xa3,xa4,xa5,xa6,xa7,xa8,xa9,xa10,xa11,xa12,xa13,xa14⟩:=row15o (H10.out.is.2.1)
 go_wp2_with fail
 refine (hi_mayc ((a,(t,(k,((ph,pn),(nc,(nb,(es,(l,(f,((mh,mn),(gh,gn))))))))))),u) [.slice lo1 l.length lc1,.int .u64 (a:Int),.int .u64 (t:Int),.int .u64 (k:Int),.bool ph,.int .u64 (pn:Int),.bool mh,.int .u64 (mn:Int),.bool gh,.int .u64 (gn:Int),.slice nco1 nc.length ncc1,.slice nbo1 nb.length nbc1,.slice eo1 es.length ec1,.int .u32 (f:Int),.string Xu] _ d w4 HRF.out (by rw[←HNu.out];exact H10.out.is.2.2.1) HDX.out).mono ?_;rintro e w5 ⟨rfl,hb⟩
 rw[HMX.out]
 clear xa0 xa1 xa2 xa3 xa4 xa5 xa6 xa7 xa8 xa9 xa10 xa11 xa12 xa13 xa14
 have H11:=Lib.hid (H10.out.below hb)
 clear hb H10
 go_wp2_with fail
 refine (first13 w5).mono ?_;rintro e w6 ⟨rfl,hb⟩
 have H12:=Lib.hid (H11.out.below hb)
 clear hb H11
 go_wp2_with fail
 obtain ⟨ws,he⟩:=H12.out.is.1
 refine (code_any ws _ _ w6 he (root_code _) (HGX.out.below (H12.out.is.2.2.2.1))).mono ?_;rintro e w7 ⟨rfl,hb⟩
 rw[show codeOf (codeV ((8:Nat):Int))=8 from rfl]
 have H13:=Lib.hid (H12.out.below hb)
 clear hb H12
 clear he
 go_wp2_with fail
 go_ret
 exact ⟨rfl,H13.out.is.2.2.2.1⟩
theorem hiwr_T (x:Hi) (cs:List Value) (P:Nat→Prop) (d:Int) (w:World) (ha:hi_arg x) (hr:hiCel.R w P x cs) (hd : -9223372036854775808≤d∧d≤9223372036854775807) (hg:Glob w) (hm:hi_may d x=true) :
 Calls Tryz.prog 6 #[.agg cs.toArray,.int .i64 d] w fun e w'=>e = .returned (.bool true)∧Below w.heap.size w w':=by
 obtain ⟨⟨a,⟨t,⟨k,⟨⟨ph,pn⟩,⟨nc,⟨nb,⟨es,⟨l,⟨f,⟨⟨mh,mn⟩,⟨gh,gn⟩⟩⟩⟩⟩⟩⟩⟩⟩⟩⟩,u⟩:=x
 have hs:=hr
 obtain ⟨lo1,lc1,nco1,ncc1,nbo1,nbc1,eo1,ec1,rfl,_,_,_,_⟩:=hs
 dsimp only[strV]
 obtain ⟨Xu,eu⟩:∃ X:ByteArray,(⟨u.toArray⟩:ByteArray)=X:=⟨_,rfl⟩
 have HNu:=Lib.hid eu
 clear eu
 rw[HNu.out]
 have HARG:=Lib.hid ha
 have HDX:=Lib.hid hd
 have HMX:=Lib.hid hm
 have HGX:=Lib.hid hg
 have hb:Below w.heap.size w w:=Below.refl _ _
 have H1:=Lib.hid (Fx.nil w)
 have H2:=Lib.hid (H1.out.base (hb))
 clear H1
 clear hb
 have H3:=Lib.hid (H2.out.cel (hr))
 clear H2
 clear hr hd hm ha hg
 go_enter Tryz.func6,Tryz.ntmps6
 go_upto_region 1 with fail
 obtain ⟨blr1,hbl⟩:∃ b,w.heap.size=b:=⟨_,rfl⟩
 obtain ⟨W1,hW⟩:∃ W,w.alloc (.cells #[.slice lo1 l.length lc1,.int .u64 (a:Int),.int .u64 (t:Int),.int .u64 (k:Int),.bool ph,.int .u64 (pn:Int),.bool mh,.int .u64 (mn:Int),.bool gh,.int .u64 (gn:Int),.slice nco1 nc.length ncc1,.slice nbo1 nb.length nbc1,.slice eo1 es.length ec1,.int .u32 (f:Int),.string Xu] 50)=W:=⟨_,rfl⟩
 have hb:Below w.heap.size w W1:=by rw[←hW];exact below_new _ _
 have hr:W1.heap[blr1]? = some (.cells #[.slice lo1 l.length lc1,.int .u64 (a:Int),.int .u64 (t:Int),.int .u64 (k:Int),.bool ph,.int .u64 (pn:Int),.bool mh,.int .u64 (mn:Int),.bool gh,.int .u64 (gn:Int),.slice nco1 nc.length ncc1,.slice nbo1 nb.length nbc1,.slice eo1 es.length ec1,.int .u32 (f:Int),.string Xu] 50 (0,0)):=by rw[←hW,←hbl];exact new_row _ _ _
 rw[hW,hbl]
 clear hW hbl
 have H4:=Lib.hid (H3.out.below hb)
 clear hb H3
 have H5:=Lib.hid (H4.out.row (hr))
 clear H4
 clear hr
 go_wp2_with fail
 refine (first13 W1).mono ?_;rintro e w1 ⟨rfl,hb⟩
 have H6:=Lib.hid (H5.out.below hb)
 clear hb H5
 obtain ⟨xa0,xa1,xa2,xa3,xa4,xa5,xa6,xa7,xa8,xa9,xa10,xa11,xa12,xa13,xa14⟩:=row15o (H6.out.is.1)
 go_wp2_with fail
 refine (hi_room ((a,(t,(k,((ph,pn),(nc,(nb,(es,(l,(f,((mh,mn),(gh,gn))))))))))),u) [.slice lo1 l.length lc1,.int .u64 (a:Int),.int .u64 (t:Int),.int .u64 (k:Int),.bool ph,.int .u64 (pn:Int),.bool mh,.int .u64 (mn:Int),.bool gh,.int .u64 (gn:Int),.slice nco1 nc.length ncc1,.slice nbo1 nb.length nbc1,.slice eo1 es.length ec1,.int .u32 (f:Int),.string Xu] _ w1 12000 HARG.out (by rw[←HNu.out];exact H6.out.is.2.1) (by omega)).mono ?_;intro e w2 hpost
 obtain ⟨hb,r,rfl,HR⟩:=hpost
 clear xa0 xa1 xa2 xa3 xa4 xa5 xa6 xa7 xa8 xa9 xa10 xa11 xa12 xa13 xa14
 have H7:=Lib.hid (H6.out.below hb)
 clear hb H6
 by_cases hr0:r<0
 case pos =>
  have d1:decide (r<0)=true:=decide_eq_true hr0
  clear hr0 HR
  go_wp2_with fail
  refine (first13 w2).mono ?_;rintro e w9 ⟨rfl,hb⟩
  have H8:=Lib.hid (H7.out.below hb)
  clear hb H7
  go_wp2_with fail
  go_ret
  exact ⟨rfl,H8.out.is.2.2.1⟩
 have d1:decide (r<0)=false:=decide_eq_false hr0
 have HW:=Lib.hid (show hi_wt ((a,(t,(k,((ph,pn),(nc,(nb,(es,(l,(f,((mh,mn),(gh,gn))))))))))),u)≤12000 by have h:=HR.out;unfold RoomOk at h;omega)
 have HRF:=Lib.hid (hi_fit_ofH HARG.out HW.out)
 clear HR hr0
 obtain ⟨xa0,xa1,xa2,xa3,xa4,xa5,xa6,xa7,xa8,xa9,xa10,xa11,xa12,xa13,xa14⟩:=row15o (H7.out.is.1)
 go_wp2_with fail
 refine (hi_rmay ((a,(t,(k,((ph,pn),(nc,(nb,(es,(l,(f,((mh,mn),(gh,gn))))))))))),u) [.slice lo1 l.length lc1,.int .u64 (a:Int),.int .u64 (t:Int),.int .u64 (k:Int),.bool ph,.int .u64 (pn:Int),.bool mh,.int .u64 (mn:Int),.bool gh,.int .u64 (gn:Int),.slice nco1 nc.length ncc1,.slice nbo1 nb.length nbc1,.slice eo1 es.length ec1,.int .u32 (f:Int),.string Xu] _ d w2 HARG.out HW.out (by rw[←HNu.out];exact H7.out.is.2.1) HDX.out).mono ?_;rintro e w3 ⟨rfl,hb⟩
 rw[HMX.out]
 clear xa0 xa1 xa2 xa3 xa4 xa5 xa6 xa7 xa8 xa9 xa10 xa11 xa12 xa13 xa14
 have H8:=Lib.hid (H7.out.below hb)
 clear hb H7
 obtain ⟨xa0,xa1,xa2,xa3,xa4,xa5,xa6,xa7,xa8,xa9,xa10,xa11,xa12,xa13,xa14⟩:=row15o (H8.out.is.1)
 go_wp2_with fail
 refine (hi_marshal ((a,(t,(k,((ph,pn),(nc,(nb,(es,(l,(f,((mh,mn),(gh,gn))))))))))),u) [.slice lo1 l.length lc1,.int .u64 (a:Int),.int .u64 (t:Int),.int .u64 (k:Int),.bool ph,.int .u64 (pn:Int),.bool mh,.int .u64 (mn:Int),.bool gh,.int .u64 (gn:Int),.slice nco1 nc.length ncc1,.slice nbo1 nb.length nbc1,.slice eo1 es.length ec1,.int .u32 (f:Int),.string Xu] _ d w3 HRF.out (by rw[←HNu.out];exact H8.out.is.2.1) HDX.out).mono ?_;rintro e w4 ⟨hb,hcase⟩
 clear xa0 xa1 xa2 xa3 xa4 xa5 xa6 xa7 xa8 xa9 xa10 xa11 xa12 xa13 xa14
 have H9:=Lib.hid (H8.out.below hb)
 clear hb H8
 rw[HMX.out,if_pos rfl] at hcase
 subst hcase
 obtain ⟨SS,hSS⟩:∃ S:ByteArray,(⟨(hi_out ((a,(t,(k,((ph,pn),(nc,(nb,(es,(l,(f,((mh,mn),(gh,gn))))))))))),u)).toArray⟩:ByteArray)=S:=⟨_,rfl⟩
 have HSS:=Lib.hid hSS
 have HSZ:Hid (SS.size=(hi_out ((a,(t,(k,((ph,pn),(nc,(nb,(es,(l,(f,((mh,mn),(gh,gn))))))))))),u)).length):=Lib.hid (by rw[←hSS];simp[ByteArray.size])
 rw[hSS]
 clear hSS
 obtain ⟨xa0,xa1,xa2,xa3,xa4,xa5,xa6,xa7,xa8,xa9,xa10,xa11,xa12,xa13,xa14⟩:=row15o (H9.out.is.1)
 go_wp2_with fail
 refine (hi_mayc ((a,(t,(k,((ph,pn),(nc,(nb,(es,(l,(f,((mh,mn),(gh,gn))))))))))),u) [.slice lo1 l.length lc1,.int .u64 (a:Int),.int .u64 (t:Int),.int .u64 (k:Int),.bool ph,.int .u64 (pn:Int),.bool mh,.int .u64 (mn:Int),.bool gh,.int .u64 (gn:Int),.slice nco1 nc.length ncc1,.slice nbo1 nb.length nbc1,.slice eo1 es.length ec1,.int .u32 (f:Int),.string Xu] _ d w4 HRF.out (by rw[←HNu.out];exact H9.out.is.2.1) HDX.out).mono ?_;rintro e w5 ⟨rfl,hb⟩
 rw[HMX.out]
 clear xa0 xa1 xa2 xa3 xa4 xa5 xa6 xa7 xa8 xa9 xa10 xa11 xa12 xa13 xa14
 have H10:=Lib.hid (H9.out.below hb)
 clear hb H9
 go_wp2_with fail
 refine (first13 w5).mono ?_;rintro e w6 ⟨rfl,hb⟩
 have H11:=Lib.hid (H10.out.below hb)
 clear hb H10
 obtain ⟨xa0,xa1,xa2,xa3,xa4,xa5,xa6,xa7,xa8,xa9,xa10,xa11,xa12,xa13,xa14⟩:=row15o (H11.out.is.1)
 go_wp2_with fail
 refine (hi_rout ((a,(t,(k,((ph,pn),(nc,(nb,(es,(l,(f,((mh,mn),(gh,gn))))))))))),u) [.slice lo1 l.length lc1,.int .u64 (a:Int),.int .u64 (t:Int),.int .u64 (k:Int),.bool ph,.int .u64 (pn:Int),.bool mh,.int .u64 (mn:Int),.bool gh,.int .u64 (gn:Int),.slice nco1 nc.length ncc1,.slice nbo1 nb.length nbc1,.slice eo1 es.length ec1,.int .u32 (f:Int),.string Xu] _ d w6 HARG.out HW.out (by rw[←HNu.out];exact H11.out.is.2.1) HMX.out).mono ?_;rintro e w7 ⟨rfl,hb⟩
 rw[HSS.out]
 clear xa0 xa1 xa2 xa3 xa4 xa5 xa6 xa7 xa8 xa9 xa10 xa11 xa12 xa13 xa14
 have H12:=Lib.hid (H11.out.below hb)
 clear hb H11
 obtain ⟨xa0,xa1,xa2,xa3,xa4,xa5,xa6,xa7,xa8,xa9,xa10,xa11,xa12,xa13,xa14⟩:=row15o (H12.out.is.1)
 go_wp2_with fail
 refine (hi_size ((a,(t,(k,((ph,pn),(nc,(nb,(es,(l,(f,((mh,mn),(gh,gn))))))))))),u) [.slice lo1 l.length lc1,.int .u64 (a:Int),.int .u64 (t:Int),.int .u64 (k:Int),.bool ph,.int .u64 (pn:Int),.bool mh,.int .u64 (mn:Int),.bool gh,.int .u64 (gn:Int),.slice nco1 nc.length ncc1,.slice nbo1 nb.length nbc1,.slice eo1 es.length ec1,.int .u32 (f:Int),.string Xu] _ w7 HRF.out (by rw[←HNu.out];exact H12.out.is.2.1) (hi_enough HW.out HMX.out)).mono ?_;rintro e w8 ⟨rfl,hb⟩
 rw[←HSZ.out]
 clear xa0 xa1 xa2 xa3 xa4 xa5 xa6 xa7 xa8 xa9 xa10 xa11 xa12 xa13 xa14
 have H13:=Lib.hid (H12.out.below hb)
 clear hb H12
 go_wp2_with fail
 go_ret
 exact ⟨rfl,H13.out.is.2.2.1⟩
theorem hiwr_any (x:Hi) (cs:List Value) (P:Nat→Prop) (d:Int) (w:World) (ha:hi_arg x) (hr:hiCel.R w P x cs) (hd : -9223372036854775808≤d∧d≤9223372036854775807) (hg:Glob w) :
 Calls Tryz.prog 6 #[.agg cs.toArray,.int .i64 d] w fun e w'=>e = .returned (.bool true)∧Below w.heap.size w w':=by
 cases hm:hi_may d x with
 | false=>exact hiwr_F x cs P d w ha hr hd hg hm
 | true=>exact hiwr_T x cs P d w ha hr hd hg hm
end Go.Proofs.YtjbingoliffjiaaGreatDoor
