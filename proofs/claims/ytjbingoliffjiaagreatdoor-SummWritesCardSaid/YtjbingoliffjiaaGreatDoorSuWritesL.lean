/-
  hyglaw15.SummWrites.
-/
import Derived.Test.YtjbingoliffjiaaGreatDoorSuOut
import Derived.Test.YtjbingoliffjiaaGreatDoorSuKMar
import Derived.Test.YtjbingoliffjiaaGreatDoorSuFirst
import Derived.Test.YtjbingoliffjiaaGreatDoorSuRoom
set_option maxRecDepth 1000000
set_option maxHeartbeats 16000000
namespace Go.Proofs.YtjbingoliffjiaaGreatDoor
open Go.RowKit
theorem suwr_F (x:Su) (cs:List Value) (P:Nat→Prop) (d:Int) (w:World) (HGL:Hid (Glob w)) (ha:su_arg x) (hr:suCel.R w P x cs) (hd : -9223372036854775808≤d∧d≤9223372036854775807) (hg:Glob w) (hm:su_may d x=false) :
 Calls Tryz.prog 9 #[.agg cs.toArray,.int .i64 d] w fun e w'=>e = .returned (.bool true)∧Below w.heap.size w w':=by
 obtain ⟨⟨a,⟨t,⟨k,⟨n,⟨qs,⟨l,f⟩⟩⟩⟩⟩⟩,u⟩:=x
 have hs:=hr
 obtain ⟨lo1,lc1,qo1,qc1,rfl,_,_⟩:=hs
 dsimp only[strV]
 obtain ⟨Xu,eu⟩:∃ X:ByteArray,(⟨u.toArray⟩:ByteArray)=X:=⟨_,rfl⟩
 have HNu:=Lib.hid eu
 clear eu
 rw[HNu.out]
 have HARG:=Lib.hid ha
 have HDX:=Lib.hid hd
 have HMX:=Lib.hid hm
 have HGX:=Lib.hid hg
 have hb:Below w.heap.size w w:=Below.refl _ _
 have H1:=Lib.hid (Fx.nil w)
 have H2:=Lib.hid (H1.out.base (hb))
 clear H1
 clear hb
 have H3:=Lib.hid (H2.out.cel (hr))
 clear H2
 clear hr hd hm ha hg
 go_enter Tryz.func9,Tryz.ntmps9
 go_upto_region 1 with fail
 obtain ⟨blr1,hbl⟩:∃ b,w.heap.size=b:=⟨_,rfl⟩
 obtain ⟨W1,hW⟩:∃ W,w.alloc (.cells #[.slice lo1 l.length lc1,.int .u64 (a:Int),.int .u64 (t:Int),.int .u64 (k:Int),.int .u64 (n:Int),.slice qo1 qs.length qc1,.int .u32 (f:Int),.string Xu] 64)=W:=⟨_,rfl⟩
 have hb:Below w.heap.size w W1:=by rw[←hW];exact below_new _ _
 have hr:W1.heap[blr1]? = some (.cells #[.slice lo1 l.length lc1,.int .u64 (a:Int),.int .u64 (t:Int),.int .u64 (k:Int),.int .u64 (n:Int),.slice qo1 qs.length qc1,.int .u32 (f:Int),.string Xu] 64 (0,0)):=by rw[←hW,←hbl];exact new_row _ _ _
 rw[hW,hbl]
 clear hW hbl
 have H4:=Lib.hid (H3.out.below hb)
 clear hb H3
 have H5:=Lib.hid (H4.out.row (hr))
 clear H4
 clear hr
 go_wp2_with fail
 refine (first15 W1 (Lib.hid (HGL.out.below (H5.out.is.2.2.1)))).mono ?_;rintro e w1 ⟨rfl,hb⟩
 have H6:=Lib.hid (H5.out.below hb)
 clear hb H5
 obtain ⟨xa0,xa1,xa2,xa3,xa4,xa5,xa6,xa7⟩:=row8 (H6.out.is.1)
 go_wp2_with fail
 refine (su_room ((a,(t,(k,(n,(qs,(l,f)))))),u) [.slice lo1 l.length lc1,.int .u64 (a:Int),.int .u64 (t:Int),.int .u64 (k:Int),.int .u64 (n:Int),.slice qo1 qs.length qc1,.int .u32 (f:Int),.string Xu] _ w1 12000 HARG.out (by rw[←HNu.out];exact H6.out.is.2.1) (by omega)).mono ?_;intro e w2 hpost
 obtain ⟨hb,r,rfl,HR⟩:=hpost
 clear xa0 xa1 xa2 xa3 xa4 xa5 xa6 xa7
 have H7:=Lib.hid (H6.out.below hb)
 clear hb H6
 by_cases hr0:r<0
 case pos =>
  have d1:decide (r<0)=true:=decide_eq_true hr0
  clear hr0 HR
  go_wp2_with fail
  refine (first15 w2 (Lib.hid (HGL.out.below (H7.out.is.2.2.1)))).mono ?_;rintro e w9 ⟨rfl,hb⟩
  have H8:=Lib.hid (H7.out.below hb)
  clear hb H7
  go_wp2_with fail
  go_ret
  exact ⟨rfl,H8.out.is.2.2.1⟩
 have d1:decide (r<0)=false:=decide_eq_false hr0
 have HW:=Lib.hid (show su_wt ((a,(t,(k,(n,(qs,(l,f)))))),u)≤12000 by have h:=HR.out;unfold RoomOk at h;omega)
 have HRF:=Lib.hid (su_fit_of HARG.out HW.out)
 clear HR hr0
 obtain ⟨xa0,xa1,xa2,xa3,xa4,xa5,xa6,xa7⟩:=row8 (H7.out.is.1)
 go_wp2_with fail
 refine (su_rmay ((a,(t,(k,(n,(qs,(l,f)))))),u) [.slice lo1 l.length lc1,.int .u64 (a:Int),.int .u64 (t:Int),.int .u64 (k:Int),.int .u64 (n:Int),.slice qo1 qs.length qc1,.int .u32 (f:Int),.string Xu] _ d w2 HARG.out HW.out (by rw[←HNu.out];exact H7.out.is.2.1) HDX.out).mono ?_;rintro e w3 ⟨rfl,hb⟩
 rw[HMX.out]
 clear xa0 xa1 xa2 xa3 xa4 xa5 xa6 xa7
 have H8:=Lib.hid (H7.out.below hb)
 clear hb H7
 obtain ⟨xa0,xa1,xa2,xa3,xa4,xa5,xa6,xa7⟩:=row8 (H8.out.is.1)
 go_wp2_with fail
 refine (su_marshal ((a,(t,(k,(n,(qs,(l,f)))))),u) [.slice lo1 l.length lc1,.int .u64 (a:Int),.int .u64 (t:Int),.int .u64 (k:Int),.int .u64 (n:Int),.slice qo1 qs.length qc1,.int .u32 (f:Int),.string Xu] _ d w3 HRF.out (by rw[←HNu.out];exact H8.out.is.2.1) HDX.out).mono ?_;rintro e w4 ⟨hb,hcase⟩
 clear xa0 xa1 xa2 xa3 xa4 xa5 xa6 xa7
 have H9:=Lib.hid (H8.out.below hb)
 clear hb H8
 rw[HMX.out,if_neg (by simp)] at hcase
 obtain ⟨v,rfl,hec⟩:=hcase
 obtain ⟨T',y,rfl⟩:=hec.iface
 have H10:=Lib.hid (H9.out.ec (hec))
 clear H9
 clear hec
 obtain ⟨xa0,xa1,xa2,xa3,xa4,xa5,xa6,xa7⟩:=row8 (H10.out.is.2.1)
 go_wp2_with fail
 refine (su_mayc ((a,(t,(k,(n,(qs,(l,f)))))),u) [.slice lo1 l.length lc1,.int .u64 (a:Int),.int .u64 (t:Int),.int .u64 (k:Int),.int .u64 (n:Int),.slice qo1 qs.length qc1,.int .u32 (f:Int),.string Xu] _ d w4 HRF.out (by rw[←HNu.out];exact H10.out.is.2.2.1) HDX.out).mono ?_;rintro e w5 ⟨rfl,hb⟩
 rw[HMX.out]
 clear xa0 xa1 xa2 xa3 xa4 xa5 xa6 xa7
 have H11:=Lib.hid (H10.out.below hb)
 clear hb H10
 go_wp2_with fail
 refine (first15 w5 (Lib.hid (HGL.out.below (H11.out.is.2.2.2.1)))).mono ?_;rintro e w6 ⟨rfl,hb⟩
 have H12:=Lib.hid (H11.out.below hb)
 clear hb H11
 go_wp2_with fail
 obtain ⟨ws,he⟩:=H12.out.is.1
 refine (code_any ws _ _ w6 he (root_code _) (HGX.out.below (H12.out.is.2.2.2.1))).mono ?_;rintro e w7 ⟨rfl,hb⟩
 rw[show codeOf (codeV ((8:Nat):Int))=8 from rfl]
 have H13:=Lib.hid (H12.out.below hb)
 clear hb H12
 clear he
 go_wp2_with fail
 go_ret
 exact ⟨rfl,H13.out.is.2.2.2.1⟩
theorem suwr_T (x:Su) (cs:List Value) (P:Nat→Prop) (d:Int) (w:World) (HGL:Hid (Glob w)) (ha:su_arg x) (hr:suCel.R w P x cs) (hd : -9223372036854775808≤d∧d≤9223372036854775807) (hg:Glob w) (hm:su_may d x=true) :
 Calls Tryz.prog 9 #[.agg cs.toArray,.int .i64 d] w fun e w'=>e = .returned (.bool true)∧Below w.heap.size w w':=by
 obtain ⟨⟨a,⟨t,⟨k,⟨n,⟨qs,⟨l,f⟩⟩⟩⟩⟩⟩,u⟩:=x
 have hs:=hr
 obtain ⟨lo1,lc1,qo1,qc1,rfl,_,_⟩:=hs
 dsimp only[strV]
 obtain ⟨Xu,eu⟩:∃ X:ByteArray,(⟨u.toArray⟩:ByteArray)=X:=⟨_,rfl⟩
 have HNu:=Lib.hid eu
 clear eu
 rw[HNu.out]
 have HARG:=Lib.hid ha
 have HDX:=Lib.hid hd
 have HMX:=Lib.hid hm
 have HGX:=Lib.hid hg
 have hb:Below w.heap.size w w:=Below.refl _ _
 have H1:=Lib.hid (Fx.nil w)
 have H2:=Lib.hid (H1.out.base (hb))
 clear H1
 clear hb
 have H3:=Lib.hid (H2.out.cel (hr))
 clear H2
 clear hr hd hm ha hg
 go_enter Tryz.func9,Tryz.ntmps9
 go_upto_region 1 with fail
 obtain ⟨blr1,hbl⟩:∃ b,w.heap.size=b:=⟨_,rfl⟩
 obtain ⟨W1,hW⟩:∃ W,w.alloc (.cells #[.slice lo1 l.length lc1,.int .u64 (a:Int),.int .u64 (t:Int),.int .u64 (k:Int),.int .u64 (n:Int),.slice qo1 qs.length qc1,.int .u32 (f:Int),.string Xu] 64)=W:=⟨_,rfl⟩
 have hb:Below w.heap.size w W1:=by rw[←hW];exact below_new _ _
 have hr:W1.heap[blr1]? = some (.cells #[.slice lo1 l.length lc1,.int .u64 (a:Int),.int .u64 (t:Int),.int .u64 (k:Int),.int .u64 (n:Int),.slice qo1 qs.length qc1,.int .u32 (f:Int),.string Xu] 64 (0,0)):=by rw[←hW,←hbl];exact new_row _ _ _
 rw[hW,hbl]
 clear hW hbl
 have H4:=Lib.hid (H3.out.below hb)
 clear hb H3
 have H5:=Lib.hid (H4.out.row (hr))
 clear H4
 clear hr
 go_wp2_with fail
 refine (first15 W1 (Lib.hid (HGL.out.below (H5.out.is.2.2.1)))).mono ?_;rintro e w1 ⟨rfl,hb⟩
 have H6:=Lib.hid (H5.out.below hb)
 clear hb H5
 obtain ⟨xa0,xa1,xa2,xa3,xa4,xa5,xa6,xa7⟩:=row8 (H6.out.is.1)
 go_wp2_with fail
 refine (su_room ((a,(t,(k,(n,(qs,(l,f)))))),u) [.slice lo1 l.length lc1,.int .u64 (a:Int),.int .u64 (t:Int),.int .u64 (k:Int),.int .u64 (n:Int),.slice qo1 qs.length qc1,.int .u32 (f:Int),.string Xu] _ w1 12000 HARG.out (by rw[←HNu.out];exact H6.out.is.2.1) (by omega)).mono ?_;intro e w2 hpost
 obtain ⟨hb,r,rfl,HR⟩:=hpost
 clear xa0 xa1 xa2 xa3 xa4 xa5 xa6 xa7
 have H7:=Lib.hid (H6.out.below hb)
 clear hb H6
 by_cases hr0:r<0
 case pos =>
  have d1:decide (r<0)=true:=decide_eq_true hr0
  clear hr0 HR
  go_wp2_with fail
  refine (first15 w2 (Lib.hid (HGL.out.below (H7.out.is.2.2.1)))).mono ?_;rintro e w9 ⟨rfl,hb⟩
  have H8:=Lib.hid (H7.out.below hb)
  clear hb H7
  go_wp2_with fail
  go_ret
  exact ⟨rfl,H8.out.is.2.2.1⟩
 have d1:decide (r<0)=false:=decide_eq_false hr0
 have HW:=Lib.hid (show su_wt ((a,(t,(k,(n,(qs,(l,f)))))),u)≤12000 by have h:=HR.out;unfold RoomOk at h;omega)
 have HRF:=Lib.hid (su_fit_of HARG.out HW.out)
 clear HR hr0
 obtain ⟨xa0,xa1,xa2,xa3,xa4,xa5,xa6,xa7⟩:=row8 (H7.out.is.1)
 go_wp2_with fail
 refine (su_rmay ((a,(t,(k,(n,(qs,(l,f)))))),u) [.slice lo1 l.length lc1,.int .u64 (a:Int),.int .u64 (t:Int),.int .u64 (k:Int),.int .u64 (n:Int),.slice qo1 qs.length qc1,.int .u32 (f:Int),.string Xu] _ d w2 HARG.out HW.out (by rw[←HNu.out];exact H7.out.is.2.1) HDX.out).mono ?_;rintro e w3 ⟨rfl,hb⟩
 rw[HMX.out]
 clear xa0 xa1 xa2 xa3 xa4 xa5 xa6 xa7
 have H8:=Lib.hid (H7.out.below hb)
 clear hb H7
 obtain ⟨xa0,xa1,xa2,xa3,xa4,xa5,xa6,xa7⟩:=row8 (H8.out.is.1)
 go_wp2_with fail
 refine (su_marshal ((a,(t,(k,(n,(qs,(l,f)))))),u) [.slice lo1 l.length lc1,.int .u64 (a:Int),.int .u64 (t:Int),.int .u64 (k:Int),.int .u64 (n:Int),.slice qo1 qs.length qc1,.int .u32 (f:Int),.string Xu] _ d w3 HRF.out (by rw[←HNu.out];exact H8.out.is.2.1) HDX.out).mono ?_;rintro e w4 ⟨hb,hcase⟩
 clear xa0 xa1 xa2 xa3 xa4 xa5 xa6 xa7
 have H9:=Lib.hid (H8.out.below hb)
 clear hb H8
 rw[HMX.out,if_pos rfl] at hcase
 subst hcase
 obtain ⟨SS,hSS⟩:∃ S:ByteArray,(⟨(su_out ((a,(t,(k,(n,(qs,(l,f)))))),u)).toArray⟩:ByteArray)=S:=⟨_,rfl⟩
 have HSS:=Lib.hid hSS
 have HSZ:Hid (SS.size=(su_out ((a,(t,(k,(n,(qs,(l,f)))))),u)).length):=Lib.hid (by rw[←hSS];simp[ByteArray.size])
 rw[hSS]
 clear hSS
 obtain ⟨xa0,xa1,xa2,xa3,xa4,xa5,xa6,xa7⟩:=row8 (H9.out.is.1)
 go_wp2_with fail
 refine (su_mayc ((a,(t,(k,(n,(qs,(l,f)))))),u) [.slice lo1 l.length lc1,.int .u64 (a:Int),.int .u64 (t:Int),.int .u64 (k:Int),.int .u64 (n:Int),.slice qo1 qs.length qc1,.int .u32 (f:Int),.string Xu] _ d w4 HRF.out (by rw[←HNu.out];exact H9.out.is.2.1) HDX.out).mono ?_;rintro e w5 ⟨rfl,hb⟩
 rw[HMX.out]
 clear xa0 xa1 xa2 xa3 xa4 xa5 xa6 xa7
 have H10:=Lib.hid (H9.out.below hb)
 clear hb H9
 go_wp2_with fail
 refine (first15 w5 (Lib.hid (HGL.out.below (H10.out.is.2.2.1)))).mono ?_;rintro e w6 ⟨rfl,hb⟩
 have H11:=Lib.hid (H10.out.below hb)
 clear hb H10
 obtain ⟨xa0,xa1,xa2,xa3,xa4,xa5,xa6,xa7⟩:=row8 (H11.out.is.1)
 go_wp2_with fail
 refine (su_rout ((a,(t,(k,(n,(qs,(l,f)))))),u) [.slice lo1 l.length lc1,.int .u64 (a:Int),.int .u64 (t:Int),.int .u64 (k:Int),.int .u64 (n:Int),.slice qo1 qs.length qc1,.int .u32 (f:Int),.string Xu] _ d w6 HARG.out HW.out (by rw[←HNu.out];exact H11.out.is.2.1) HMX.out).mono ?_;rintro e w7 ⟨rfl,hb⟩
 rw[HSS.out]
 clear xa0 xa1 xa2 xa3 xa4 xa5 xa6 xa7
 have H12:=Lib.hid (H11.out.below hb)
 clear hb H11
 obtain ⟨xa0,xa1,xa2,xa3,xa4,xa5,xa6,xa7⟩:=row8 (H12.out.is.1)
 go_wp2_with fail
 refine (su_size ((a,(t,(k,(n,(qs,(l,f)))))),u) [.slice lo1 l.length lc1,.int .u64 (a:Int),.int .u64 (t:Int),.int .u64 (k:Int),.int .u64 (n:Int),.slice qo1 qs.length qc1,.int .u32 (f:Int),.string Xu] _ w7 HRF.out (by rw[←HNu.out];exact H12.out.is.2.1) (su_enough HW.out HMX.out)).mono ?_;rintro e w8 ⟨rfl,hb⟩
 rw[←HSZ.out]
 clear xa0 xa1 xa2 xa3 xa4 xa5 xa6 xa7
 have H13:=Lib.hid (H12.out.below hb)
 clear hb H12
 go_wp2_with fail
 go_ret
 exact ⟨rfl,H13.out.is.2.2.1⟩
theorem suwr_any (x:Su) (cs:List Value) (P:Nat→Prop) (d:Int) (w:World) (HGL:Hid (Glob w)) (ha:su_arg x) (hr:suCel.R w P x cs) (hd : -9223372036854775808≤d∧d≤9223372036854775807) (hg:Glob w) :
 Calls Tryz.prog 9 #[.agg cs.toArray,.int .i64 d] w fun e w'=>e = .returned (.bool true)∧Below w.heap.size w w':=by
 cases hm:su_may d x with
 | false=>exact suwr_F x cs P d w HGL ha hr hd hg hm
 | true=>exact suwr_T x cs P d w HGL ha hr hd hg hm
end Go.Proofs.YtjbingoliffjiaaGreatDoor
