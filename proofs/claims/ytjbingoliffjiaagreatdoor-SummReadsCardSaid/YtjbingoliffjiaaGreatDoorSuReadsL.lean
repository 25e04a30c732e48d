/-
  hyglaw15.SummReads.
-/
import Derived.Test.YtjbingoliffjiaaGreatDoorSuRefR
import Derived.Test.YtjbingoliffjiaaGreatDoorSuFirst
import Derived.Test.YtjbingoliffjiaaGreatDoorSuRef
set_option maxRecDepth 1000000
set_option maxHeartbeats 16000000
namespace Go.Proofs.YtjbingoliffjiaaGreatDoor
open Go.RowKit
theorem surd_L (s:ByteArray) (d:Int) (w:World) (HGL:Hid (Glob w)) (h1:6000<s.size) :
 Calls Tryz.prog 8 #[.string s,.int .i64 d] w fun e w'=>e = .returned (.bool true)∧Below w.heap.size w w':=by
 have q0:decide ((6000:Int)<(s.size:Int))=true:=decide_eq_true (by omega)
 clear h1
 have hb:Below w.heap.size w w:=Below.refl _ _
 have H1:=Lib.hid (Fx.nil w)
 have H2:=Lib.hid (H1.out.base (hb))
 clear H1
 clear hb
 go_enter Tryz.func8,Tryz.ntmps8
 go_wp2_with fail
 refine (first15 w (Lib.hid (HGL.out.below (H2.out.is.1)))).mono ?_;rintro e w1 ⟨rfl,hb⟩
 have H3:=Lib.hid (H2.out.below hb)
 clear hb H2
 go_wp2_with fail
 refine (first15 w1 (Lib.hid (HGL.out.below (H3.out.is.1)))).mono ?_;rintro e w2 ⟨rfl,hb⟩
 have H4:=Lib.hid (H3.out.below hb)
 clear hb H3
 go_wp2_with fail
 go_ret
 exact ⟨rfl,H4.out.is.1⟩
theorem surd_A (s:ByteArray) (d:Int) (w:World) (HGL:Hid (Glob w)) (hd : -9223372036854775808≤d∧d≤9223372036854775807) (hs:s.size≤6000) (hg:Glob w) {c:Nat} (hx:surd s.data.toList d = .error c) :
 Calls Tryz.prog 8 #[.string s,.int .i64 d] w fun e w'=>e = .returned (.bool true)∧Below w.heap.size w w':=by
 have q0:decide ((6000:Int)<(s.size:Int))=false:=decide_eq_false (by omega)
 have hsl:s.data.toList.length=s.size:=by simp
 have HS1:=Lib.hid (fun w'=>su_un s d w' (by omega) hd)
 have HS2:=Lib.hid (fun w'=>su_refread s d w' (by omega) hd)
 rw[hx] at HS1 HS2
 have HCD:=Lib.hid (su_code hx)
 have HG:=Lib.hid hg
 clear hs hd hx hsl hg
 have hb:Below w.heap.size w w:=Below.refl _ _
 have H1:=Lib.hid (Fx.nil w)
 have H2:=Lib.hid (H1.out.base (hb))
 clear H1
 clear hb
 go_enter Tryz.func8,Tryz.ntmps8
 go_wp2_with fail
 refine (first15 w (Lib.hid (HGL.out.below (H2.out.is.1)))).mono ?_;rintro e w1 ⟨rfl,hb⟩
 have H3:=Lib.hid (H2.out.below hb)
 clear hb H2
 go_wp2_with fail
 refine (HS1.out w1).mono ?_;rintro e w2 ⟨hb,v1,q1,rfl,hq1,hew⟩
 obtain ⟨T1,y1,rfl⟩:=hew.iface
 clear HS1
 unfold suzero
 have H4:=Lib.hid (H3.out.below hb)
 clear hb H3
 have H5:=Lib.hid (H4.out.ew (hew))
 clear H4
 clear hew
 have HQ:=Lib.hid hq1
 clear hq1
 go_wp2_with fail
 obtain ⟨blr1,hbl⟩:∃ b,w2.heap.size=b:=⟨_,rfl⟩
 obtain ⟨W3,hW⟩:∃ W,w2.alloc (.cells #[.slice none 0 0,.int .u64 0,.int .u64 0,.int .u64 0,.int .u64 0,.slice none 0 0,.int .u32 0,.string ⟨#[]⟩] 64)=W:=⟨_,rfl⟩
 have hb:Below w2.heap.size w2 W3:=by rw[←hW];exact below_new _ _
 have hr:W3.heap[blr1]? = some (.cells #[.slice none 0 0,.int .u64 0,.int .u64 0,.int .u64 0,.int .u64 0,.slice none 0 0,.int .u32 0,.string ⟨#[]⟩] 64 (0,0)):=by rw[←hW,←hbl];exact new_row _ _ _
 rw[hW,hbl]
 clear hW hbl
 have H6:=Lib.hid (H5.out.below hb)
 clear hb H5
 have H7:=Lib.hid (H6.out.row (hr))
 clear H6
 clear hr
 refine (HS2.out W3).mono ?_;rintro e w4 ⟨hb,rfl⟩
 clear HS2
 unfold suzero
 have H8:=Lib.hid (H7.out.below hb)
 clear hb H7
 go_wp2_with fail
 obtain ⟨blr2,hbl⟩:∃ b,w4.heap.size=b:=⟨_,rfl⟩
 obtain ⟨W5,hW⟩:∃ W,w4.alloc (.cells #[.slice none 0 0,.int .u64 0,.int .u64 0,.int .u64 0,.int .u64 0,.slice none 0 0,.int .u32 0,.string ⟨#[]⟩] 64)=W:=⟨_,rfl⟩
 have hb:Below w4.heap.size w4 W5:=by rw[←hW];exact below_new _ _
 have hr:W5.heap[blr2]? = some (.cells #[.slice none 0 0,.int .u64 0,.int .u64 0,.int .u64 0,.int .u64 0,.slice none 0 0,.int .u32 0,.string ⟨#[]⟩] 64 (0,0)):=by rw[←hW,←hbl];exact new_row _ _ _
 rw[hW,hbl]
 clear hW hbl
 have H9:=Lib.hid (H8.out.below hb)
 clear hb H8
 have H10:=Lib.hid (H9.out.row (hr))
 clear H9
 clear hr
 refine (first15 W5 (Lib.hid (HGL.out.below (H10.out.is.2.2.2.1)))).mono ?_;rintro e w6 ⟨rfl,hb⟩
 have H11:=Lib.hid (H10.out.below hb)
 clear hb H10
 go_wp2_with fail
 obtain ⟨ws,he⟩:=H11.out.is.2.2.1
 refine (wrong8_any q1 s.size _ ws _ w6 he (HG.out.below (H11.out.is.2.2.2.1)) HQ.out HCD.out).mono ?_;rintro e w7 ⟨rfl,hb⟩
 clear he
 have H12:=Lib.hid (H11.out.below hb)
 clear hb H11
 obtain ⟨xa0,xa1,xa2,xa3,xa4,xa5,xa6,xa7⟩:=row8 (H12.out.is.2.1)
 obtain ⟨xb0,xb1,xb2,xb3,xb4,xb5,xb6,xb7⟩:=row8 (H12.out.is.1)
 go_wp2_with fail
 refine (su_ref ((0,(0,(0,(0,([],([],0)))))),[]) ((0,(0,(0,(0,([],([],0)))))),[]) [.slice none 0 0,.int .u64 0,.int .u64 0,.int .u64 0,.int .u64 0,.slice none 0 0,.int .u32 0,.string ⟨#[]⟩] [.slice none 0 0,.int .u64 0,.int .u64 0,.int .u64 0,.int .u64 0,.slice none 0 0,.int .u32 0,.string ⟨#[]⟩] (fun _=>False) (fun _=>False) w7 su_zarg (su_zrel _ _) (su_zrel _ _)).mono ?_;rintro e w9 ⟨rfl,hb⟩
 rw[alike_yes rfl]
 clear xa0 xa1 xa2 xa3 xa4 xa5 xa6 xa7 xb0 xb1 xb2 xb3 xb4 xb5 xb6 xb7
 have H13:=Lib.hid (H12.out.below hb)
 clear hb H12
 go_wp2_with fail
 go_ret
 exact ⟨rfl,H13.out.is.2.2.2.1⟩
theorem surd_C (s:ByteArray) (d:Int) (w:World) (HGL:Hid (Glob w)) (hd : -9223372036854775808≤d∧d≤9223372036854775807) (hs:s.size≤6000) {x:Su} (hx:surd s.data.toList d = .ok x) :
 Calls Tryz.prog 8 #[.string s,.int .i64 d] w fun e w'=>e = .returned (.bool true)∧Below w.heap.size w w':=by
 have q0:decide ((6000:Int)<(s.size:Int))=false:=decide_eq_false (by omega)
 have hsl:s.data.toList.length=s.size:=by simp
 have HS1:=Lib.hid (fun w'=>su_un s d w' (by omega) hd)
 have HS2:=Lib.hid (fun w'=>su_refread s d w' (by omega) hd)
 rw[hx] at HS1 HS2
 obtain ⟨⟨a,⟨t,⟨k,⟨n,⟨qs,⟨l,f⟩⟩⟩⟩⟩⟩,u⟩:=x
 obtain ⟨hmay,hfit⟩:=su_twice (by omega) hx
 have HARG:=Lib.hid (su_arg_of hfit)
 clear hmay hfit
 obtain ⟨Xu,eu⟩:∃ X:ByteArray,(⟨u.toArray⟩:ByteArray)=X:=⟨_,rfl⟩
 have HNu:=Lib.hid eu
 clear eu
 clear hs hd hx hsl
 have hb:Below w.heap.size w w:=Below.refl _ _
 have H1:=Lib.hid (Fx.nil w)
 have H2:=Lib.hid (H1.out.base (hb))
 clear H1
 clear hb
 go_enter Tryz.func8,Tryz.ntmps8
 go_wp2_with fail
 refine (first15 w (Lib.hid (HGL.out.below (H2.out.is.1)))).mono ?_;rintro e w1 ⟨rfl,hb⟩
 have H3:=Lib.hid (H2.out.below hb)
 clear hb H2
 go_wp2_with fail
 refine (HS1.out w1).mono ?_;rintro e w2 ⟨hb,cs,rfl,hrel⟩
 clear HS1
 have hr2:=hrel
 obtain ⟨lo1,lc1,qo1,qc1,rfl,_,_⟩:=hr2
 dsimp only[strV]
 rw[HNu.out]
 have H4:=Lib.hid (H3.out.below hb)
 clear hb H3
 have H5:=Lib.hid (H4.out.cel (hrel))
 clear H4
 clear hrel
 go_wp2_with fail
 obtain ⟨blr1,hbl⟩:∃ b,w2.heap.size=b:=⟨_,rfl⟩
 obtain ⟨W3,hW⟩:∃ W,w2.alloc (.cells #[.slice lo1 l.length lc1,.int .u64 (a:Int),.int .u64 (t:Int),.int .u64 (k:Int),.int .u64 (n:Int),.slice qo1 qs.length qc1,.int .u32 (f:Int),.string Xu] 64)=W:=⟨_,rfl⟩
 have hb:Below w2.heap.size w2 W3:=by rw[←hW];exact below_new _ _
 have hr:W3.heap[blr1]? = some (.cells #[.slice lo1 l.length lc1,.int .u64 (a:Int),.int .u64 (t:Int),.int .u64 (k:Int),.int .u64 (n:Int),.slice qo1 qs.length qc1,.int .u32 (f:Int),.string Xu] 64 (0,0)):=by rw[←hW,←hbl];exact new_row _ _ _
 rw[hW,hbl]
 clear hW hbl
 have H6:=Lib.hid (H5.out.below hb)
 clear hb H5
 have H7:=Lib.hid (H6.out.row (hr))
 clear H6
 clear hr
 refine (HS2.out W3).mono ?_;rintro e w4 ⟨hb,cs,rfl,hrel⟩
 clear HS2
 have hr2:=hrel
 obtain ⟨lo2,lc2,qo2,qc2,rfl,_,_⟩:=hr2
 dsimp only[strV]
 rw[HNu.out]
 have H8:=Lib.hid (H7.out.below hb)
 clear hb H7
 have H9:=Lib.hid (H8.out.cel (hrel))
 clear H8
 clear hrel
 go_wp2_with fail
 obtain ⟨blr2,hbl⟩:∃ b,w4.heap.size=b:=⟨_,rfl⟩
 obtain ⟨W5,hW⟩:∃ W,w4.alloc (.cells #[.slice lo2 l.length lc2,.int .u64 (a:Int),.int .u64 (t:Int),.int .u64 (k:Int),.int .u64 (n:Int),.slice qo2 qs.length qc2,.int .u32 (f:Int),.string Xu] 64)=W:=⟨_,rfl⟩
 have hb:Below w4.heap.size w4 W5:=by rw[←hW];exact below_new _ _
 have hr:W5.heap[blr2]? = some (.cells #[.slice lo2 l.length lc2,.int .u64 (a:Int),.int .u64 (t:Int),.int .u64 (k:Int),.int .u64 (n:Int),.slice qo2 qs.length qc2,.int .u32 (f:Int),.string Xu] 64 (0,0)):=by rw[←hW,←hbl];exact new_row _ _ _
 rw[hW,hbl]
 clear hW hbl
 have H10:=Lib.hid (H9.out.below hb)
 clear hb H9
 have H11:=Lib.hid (H10.out.row (hr))
 clear H10
 clear hr
 refine (first15 W5 (Lib.hid (HGL.out.below (H11.out.is.2.2.2.2.1)))).mono ?_;rintro e w6 ⟨rfl,hb⟩
 have H12:=Lib.hid (H11.out.below hb)
 clear hb H11
 obtain ⟨xa0,xa1,xa2,xa3,xa4,xa5,xa6,xa7⟩:=row8 (H12.out.is.2.2.1)
 obtain ⟨xb0,xb1,xb2,xb3,xb4,xb5,xb6,xb7⟩:=row8 (H12.out.is.1)
 go_wp2_with fail
 refine (su_ref ((a,(t,(k,(n,(qs,(l,f)))))),u) ((a,(t,(k,(n,(qs,(l,f)))))),u) [.slice lo1 l.length lc1,.int .u64 (a:Int),.int .u64 (t:Int),.int .u64 (k:Int),.int .u64 (n:Int),.slice qo1 qs.length qc1,.int .u32 (f:Int),.string Xu] [.slice lo2 l.length lc2,.int .u64 (a:Int),.int .u64 (t:Int),.int .u64 (k:Int),.int .u64 (n:Int),.slice qo2 qs.length qc2,.int .u32 (f:Int),.string Xu] _ _ w6 HARG.out (by rw[←HNu.out];exact H12.out.is.2.2.2.1) (by rw[←HNu.out];exact H12.out.is.2.1)).mono ?_;rintro e w9 ⟨rfl,hb⟩
 rw[alike_yes rfl]
 clear xa0 xa1 xa2 xa3 xa4 xa5 xa6 xa7 xb0 xb1 xb2 xb3 xb4 xb5 xb6 xb7
 have H13:=Lib.hid (H12.out.below hb)
 clear hb H12
 go_wp2_with fail
 go_ret
 exact ⟨rfl,H13.out.is.2.2.2.2.1⟩
theorem surd_any (s:ByteArray) (d:Int) (w:World) (HGL:Hid (Glob w)) (hd : -9223372036854775808≤d∧d≤9223372036854775807) (hg:Glob w) :
 Calls Tryz.prog 8 #[.string s,.int .i64 d] w fun e w'=>e = .returned (.bool true)∧Below w.heap.size w w':=by
 by_cases hs:6000<s.size
 · exact surd_L s d w HGL hs
 cases hx:surd s.data.toList d with
 | error c=>exact surd_A s d w HGL hd (by omega) hg hx
 | ok x=>exact surd_C s d w HGL hd (by omega) hx
end Go.Proofs.YtjbingoliffjiaaGreatDoor
