/-
  XrFld, XrTakes
-/
import Derived.Test.YtficgfemmijaaaaGreatDoorFnl
import Derived.Test.YtficgfemmijaaaaGreatDoorExPart
set_option maxRecDepth 1000000
set_option maxHeartbeats 16000000
namespace Go.Proofs.YtficgfemmijaaaaGreatDoor
open Go.RowKit
open Lib (hid)
def xrF:Fld:=(listF 1 kvS).and ((numF 2).and ((numF 3).and ((numF 4).and ((optF 5).and ((zigF 6).and ((numF 7).and ((partF 8).and ((partF 9).and ((var32F 10).and ((listF 11 exSb).and ((optF 12).and ((optF 13).and (numF 14)))))))))))))
theorem xrF_tk (r:Rec):xrF.tk r=decide ((r.num=1∧r.ty=2)∨((r.num=2∧r.ty=1)∨((r.num=3∧r.ty=1)∨((r.num=4∧r.ty=1)∨((r.num=5∧r.ty=1)∨((r.num=6∧r.ty=0)∨((r.num=7∧r.ty=1)∨((r.num=8∧r.ty=2)∨((r.num=9∧r.ty=2)∨((r.num=10∧r.ty=0)∨((r.num=11∧r.ty=2)∨((r.num=12∧r.ty=1)∨((r.num=13∧r.ty=1)∨(r.num=14∧r.ty=1)))))))))))))):=by
 rw[Bool.eq_iff_iff]
 simp only[xrF,Fld.and,zigF,partF,numF,optF,var32F,listF,listTk,Bool.or_eq_true,decide_eq_true_eq]
open Go.RowKit
theorem xrtakes_any (r:Rec)(w:World):Calls Tryz.prog 21 #[.int .i64 r.num,.int .i64 r.ty] w fun e w'=>e = .returned (.bool (xrF.tk r))∧w=w':=by
 obtain ⟨num,ty,n,s,raw⟩:=r;have hq:=xrF_tk ⟨num,ty,n,s,raw⟩;dsimp only at hq;obtain ⟨q,hqe⟩:∃ q,xrF.tk ⟨num,ty,n,s,raw⟩=q:=⟨_,rfl⟩
 rw[hqe] at hq ⊢;clear hqe
 by_cases h2:num=2
 ·subst h2
  have hb:Hid (q=((ty:Int) == (1:Int))):=hid (by rw[show ((1:Int))=((1:Nat):Int) from rfl,ibeq,hq];exact decide_eq_decide.2 (by omega));clear hq;go_enter Tryz.func21,Tryz.ntmps21;go_wp2_with fail;go_ret;exact ⟨by rw[hb.out];rfl,rfl⟩
 by_cases h3:num=3
 ·subst h3
  have hb:Hid (q=((ty:Int) == (1:Int))):=hid (by rw[show ((1:Int))=((1:Nat):Int) from rfl,ibeq,hq];exact decide_eq_decide.2 (by omega));clear hq;go_enter Tryz.func21,Tryz.ntmps21;go_wp2_with fail;go_ret;exact ⟨by rw[hb.out];rfl,rfl⟩
 by_cases h4:num=4
 ·subst h4
  have hb:Hid (q=((ty:Int) == (1:Int))):=hid (by rw[show ((1:Int))=((1:Nat):Int) from rfl,ibeq,hq];exact decide_eq_decide.2 (by omega));clear hq;go_enter Tryz.func21,Tryz.ntmps21;go_wp2_with fail;go_ret;exact ⟨by rw[hb.out];rfl,rfl⟩
 by_cases h5:num=5
 ·subst h5
  have hb:Hid (q=((ty:Int) == (1:Int))):=hid (by rw[show ((1:Int))=((1:Nat):Int) from rfl,ibeq,hq];exact decide_eq_decide.2 (by omega));clear hq;go_enter Tryz.func21,Tryz.ntmps21;go_wp2_with fail;go_ret;exact ⟨by rw[hb.out];rfl,rfl⟩
 by_cases h7:num=7
 ·subst h7
  have hb:Hid (q=((ty:Int) == (1:Int))):=hid (by rw[show ((1:Int))=((1:Nat):Int) from rfl,ibeq,hq];exact decide_eq_decide.2 (by omega));clear hq;go_enter Tryz.func21,Tryz.ntmps21;go_wp2_with fail;go_ret;exact ⟨by rw[hb.out];rfl,rfl⟩
 by_cases h12:num=12
 ·subst h12
  have hb:Hid (q=((ty:Int) == (1:Int))):=hid (by rw[show ((1:Int))=((1:Nat):Int) from rfl,ibeq,hq];exact decide_eq_decide.2 (by omega));clear hq;go_enter Tryz.func21,Tryz.ntmps21;go_wp2_with fail;go_ret;exact ⟨by rw[hb.out];rfl,rfl⟩
 by_cases h13:num=13
 ·subst h13
  have hb:Hid (q=((ty:Int) == (1:Int))):=hid (by rw[show ((1:Int))=((1:Nat):Int) from rfl,ibeq,hq];exact decide_eq_decide.2 (by omega));clear hq;go_enter Tryz.func21,Tryz.ntmps21;go_wp2_with fail;go_ret;exact ⟨by rw[hb.out];rfl,rfl⟩
 by_cases h14:num=14
 ·subst h14
  have hb:Hid (q=((ty:Int) == (1:Int))):=hid (by rw[show ((1:Int))=((1:Nat):Int) from rfl,ibeq,hq];exact decide_eq_decide.2 (by omega));clear hq;go_enter Tryz.func21,Tryz.ntmps21;go_wp2_with fail;go_ret;exact ⟨by rw[hb.out];rfl,rfl⟩
 by_cases h6:num=6
 ·subst h6
  have hb:Hid (q=((ty:Int) == (0:Int))):=hid (by rw[show ((0:Int))=((0:Nat):Int) from rfl,ibeq,hq];exact decide_eq_decide.2 (by omega));clear hq;go_enter Tryz.func21,Tryz.ntmps21;go_wp2_with fail;go_ret;exact ⟨by rw[hb.out];rfl,rfl⟩
 by_cases h10:num=10
 ·subst h10
  have hb:Hid (q=((ty:Int) == (0:Int))):=hid (by rw[show ((0:Int))=((0:Nat):Int) from rfl,ibeq,hq];exact decide_eq_decide.2 (by omega));clear hq;go_enter Tryz.func21,Tryz.ntmps21;go_wp2_with fail;go_ret;exact ⟨by rw[hb.out];rfl,rfl⟩
 by_cases h1:num=1
 ·subst h1
  have hb:Hid (q=((ty:Int) == (2:Int))):=hid (by rw[show ((2:Int))=((2:Nat):Int) from rfl,ibeq,hq];exact decide_eq_decide.2 (by omega));clear hq;go_enter Tryz.func21,Tryz.ntmps21;go_wp2_with fail;go_ret;exact ⟨by rw[hb.out];rfl,rfl⟩
 by_cases h8:num=8
 ·subst h8
  have hb:Hid (q=((ty:Int) == (2:Int))):=hid (by rw[show ((2:Int))=((2:Nat):Int) from rfl,ibeq,hq];exact decide_eq_decide.2 (by omega));clear hq;go_enter Tryz.func21,Tryz.ntmps21;go_wp2_with fail;go_ret;exact ⟨by rw[hb.out];rfl,rfl⟩
 by_cases h9:num=9
 ·subst h9
  have hb:Hid (q=((ty:Int) == (2:Int))):=hid (by rw[show ((2:Int))=((2:Nat):Int) from rfl,ibeq,hq];exact decide_eq_decide.2 (by omega));clear hq;go_enter Tryz.func21,Tryz.ntmps21;go_wp2_with fail;go_ret;exact ⟨by rw[hb.out];rfl,rfl⟩
 by_cases h11:num=11
 ·subst h11
  have hb:Hid (q=((ty:Int) == (2:Int))):=hid (by rw[show ((2:Int))=((2:Nat):Int) from rfl,ibeq,hq];exact decide_eq_decide.2 (by omega));clear hq;go_enter Tryz.func21,Tryz.ntmps21;go_wp2_with fail;go_ret;exact ⟨by rw[hb.out];rfl,rfl⟩
 have d2:((num:Int) == (2:Int))=false:=by rw[beq_eq_false_iff_ne];omega
 have d3:((num:Int) == (3:Int))=false:=by rw[beq_eq_false_iff_ne];omega
 have d4:((num:Int) == (4:Int))=false:=by rw[beq_eq_false_iff_ne];omega
 have d5:((num:Int) == (5:Int))=false:=by rw[beq_eq_false_iff_ne];omega
 have d7:((num:Int) == (7:Int))=false:=by rw[beq_eq_false_iff_ne];omega
 have d12:((num:Int) == (12:Int))=false:=by rw[beq_eq_false_iff_ne];omega
 have d13:((num:Int) == (13:Int))=false:=by rw[beq_eq_false_iff_ne];omega
 have d14:((num:Int) == (14:Int))=false:=by rw[beq_eq_false_iff_ne];omega
 have d6:((num:Int) == (6:Int))=false:=by rw[beq_eq_false_iff_ne];omega
 have d10:((num:Int) == (10:Int))=false:=by rw[beq_eq_false_iff_ne];omega
 have d1:((num:Int) == (1:Int))=false:=by rw[beq_eq_false_iff_ne];omega
 have d8:((num:Int) == (8:Int))=false:=by rw[beq_eq_false_iff_ne];omega
 have d9:((num:Int) == (9:Int))=false:=by rw[beq_eq_false_iff_ne];omega
 have d11:((num:Int) == (11:Int))=false:=by rw[beq_eq_false_iff_ne];omega
 have hb:Hid (q=false):=hid (by rw[hq];exact decide_eq_false (by omega));clear h2 h3 h4 h5 h7 h12 h13 h14 h6 h10 h1 h8 h9 h11 hq;go_enter Tryz.func21,Tryz.ntmps21;go_wp2_with fail;go_ret;exact ⟨by rw[hb.out];rfl,rfl⟩
end Go.Proofs.YtficgfemmijaaaaGreatDoor
