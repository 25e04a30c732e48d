/-
  value.plain.
-/
import Derived.Test.YtficgfemmijaaaaGreatDoorVal
import Derived.Test.YtficgfemmijaaaaGreatDoorValTake
set_option maxRecDepth 1000000
set_option maxHeartbeats 16000000
namespace Go.Proofs.YtficgfemmijaaaaGreatDoor
open Go.RowKit
open Lib (hid)
def vpl (k:Int)(se b:Bool)(n ll lm:Nat)(ie:Bool):Bool:=decide (0≤k∧k≤7)&&(decide (k=1∨k=7)||se)&&(decide (k=2)||!b)&&(decide (k=3∨k=4)||decide (n=0))&&(decide (k=5)||decide (ll=0))&&(decide (k=6)||decide (lm=0))&&(decide (k=5∨k=6)||ie)
theorem empty_ba {X:ByteArray}(h:X.data.toList=[]):X=⟨#[]⟩:=ByteArray.ext (by simpa using h)
theorem text_not {X:ByteArray}(h:¬X.data.toList=[]):¬X.toList=[]∧(X.toList == [])=false∧(X.toList == (⟨#[]⟩:ByteArray).toList)=false∧¬X.toList=(⟨#[]⟩:ByteArray).toList:=by
 have h1:¬X.toList=[]:=by rw[ByteArray.toList_eq];exact h
 have h2:(⟨#[]⟩:ByteArray).toList=[]:=by rw[ByteArray.toList_eq]
 exact ⟨h1,by rw[beq_eq_false_iff_ne];exact h1,by rw[h2,beq_eq_false_iff_ne];exact h1,by rw[h2];exact h1⟩
theorem plain0_any (SA:ByteArray)(b:Bool)(n:Nat)(lo:Option Addr)(ll lc:Nat)(mo:Option Addr)(lm mc:Nat)(IA UA:ByteArray)(w:World) :
  Calls Tryz.prog 150 #[.agg #[.int .i64 0,.string SA,.bool b,.int .u64 n,.slice lo ll lc,.slice mo lm mc,.string IA,.string UA]] w fun e w'=>e = .returned (.bool (vpl 0 SA.data.toList.isEmpty b n ll lm IA.data.toList.isEmpty))∧Below w.heap.size w w':=by
 by_cases hS:SA.data.toList=[]
 case neg =>
  obtain ⟨d1,d2,d3,d4⟩:=text_not hS;have hd:¬SA.data=#[]:=fun e=>hS (by rw[e])
  rw[show vpl 0 _ _ _ _ _ _=false from by simp[vpl,hd]];clear hS hd;go_enter Tryz.func150,Tryz.ntmps150;go_wp2_with fail;go_ret;exact ⟨rfl,by first|exact below_new _ _|exact below_step (below_new _ _) (below_new _ _)⟩
 case pos =>
 obtain rfl:=empty_ba hS
 cases b with
 | true =>
  rw[show vpl 0 _ _ _ _ _ _=false from by simp[vpl]];go_enter Tryz.func150,Tryz.ntmps150;go_wp2_with fail;go_ret;exact ⟨rfl,by first|exact below_new _ _|exact below_step (below_new _ _) (below_new _ _)⟩
 | false =>
 by_cases hN:n=0
 case neg =>
  have d1:((n:Int) == 0)=false:=by rw[beq_eq_false_iff_ne];omega
  rw[show vpl 0 _ _ _ _ _ _=false from by simp[vpl,hN]];clear hN;go_enter Tryz.func150,Tryz.ntmps150;go_wp2_with fail;go_ret;exact ⟨rfl,by first|exact below_new _ _|exact below_step (below_new _ _) (below_new _ _)⟩
 case pos =>
 subst hN
 by_cases hL:ll=0
 case neg =>
  have d1:((ll:Int) == 0)=false:=by rw[beq_eq_false_iff_ne];omega
  rw[show vpl 0 _ _ _ _ _ _=false from by simp[vpl,hL]];clear hL;go_enter Tryz.func150,Tryz.ntmps150;go_wp2_with fail;go_ret;exact ⟨rfl,by first|exact below_new _ _|exact below_step (below_new _ _) (below_new _ _)⟩
 case pos =>
 subst hL
 by_cases hM:lm=0
 case neg =>
  have d1:((lm:Int) == 0)=false:=by rw[beq_eq_false_iff_ne];omega
  rw[show vpl 0 _ _ _ _ _ _=false from by simp[vpl,hM]];clear hM;go_enter Tryz.func150,Tryz.ntmps150;go_wp2_with fail;go_ret;exact ⟨rfl,by first|exact below_new _ _|exact below_step (below_new _ _) (below_new _ _)⟩
 case pos =>
 subst hM
 by_cases hI:IA.data.toList=[]
 case neg =>
  obtain ⟨d1,d2,d3,d4⟩:=text_not hI;have hd:¬IA.data=#[]:=fun e=>hI (by rw[e])
  rw[show vpl 0 _ _ _ _ _ _=false from by simp[vpl,hd]];clear hI hd;go_enter Tryz.func150,Tryz.ntmps150;go_wp2_with fail;go_ret;exact ⟨rfl,by first|exact below_new _ _|exact below_step (below_new _ _) (below_new _ _)⟩
 case pos =>
 obtain rfl:=empty_ba hI;rw[show vpl 0 _ _ _ _ _ _=true from by simp[vpl]];go_enter Tryz.func150,Tryz.ntmps150;go_wp2_with fail;go_ret;exact ⟨rfl,by first|exact below_new _ _|exact below_step (below_new _ _) (below_new _ _)⟩
theorem plain1_any (SA:ByteArray)(b:Bool)(n:Nat)(lo:Option Addr)(ll lc:Nat)(mo:Option Addr)(lm mc:Nat)(IA UA:ByteArray)(w:World) :
  Calls Tryz.prog 150 #[.agg #[.int .i64 1,.string SA,.bool b,.int .u64 n,.slice lo ll lc,.slice mo lm mc,.string IA,.string UA]] w fun e w'=>e = .returned (.bool (vpl 1 SA.data.toList.isEmpty b n ll lm IA.data.toList.isEmpty))∧Below w.heap.size w w':=by
 cases b with
 | true =>
  rw[show vpl 1 _ _ _ _ _ _=false from by simp[vpl]];go_enter Tryz.func150,Tryz.ntmps150;go_wp2_with fail;go_ret;exact ⟨rfl,by first|exact below_new _ _|exact below_step (below_new _ _) (below_new _ _)⟩
 | false =>
 by_cases hN:n=0
 case neg =>
  have d1:((n:Int) == 0)=false:=by rw[beq_eq_false_iff_ne];omega
  rw[show vpl 1 _ _ _ _ _ _=false from by simp[vpl,hN]];clear hN;go_enter Tryz.func150,Tryz.ntmps150;go_wp2_with fail;go_ret;exact ⟨rfl,by first|exact below_new _ _|exact below_step (below_new _ _) (below_new _ _)⟩
 case pos =>
 subst hN
 by_cases hL:ll=0
 case neg =>
  have d1:((ll:Int) == 0)=false:=by rw[beq_eq_false_iff_ne];omega
  rw[show vpl 1 _ _ _ _ _ _=false from by simp[vpl,hL]];clear hL;go_enter Tryz.func150,Tryz.ntmps150;go_wp2_with fail;go_ret;exact ⟨rfl,by first|exact below_new _ _|exact below_step (below_new _ _) (below_new _ _)⟩
 case pos =>
 subst hL
 by_cases hM:lm=0
 case neg =>
  have d1:((lm:Int) == 0)=false:=by rw[beq_eq_false_iff_ne];omega
  rw[show vpl 1 _ _ _ _ _ _=false from by simp[vpl,hM]];clear hM;go_enter Tryz.func150,Tryz.ntmps150;go_wp2_with fail;go_ret;exact ⟨rfl,by first|exact below_new _ _|exact below_step (below_new _ _) (below_new _ _)⟩
 case pos =>
 subst hM
 by_cases hI:IA.data.toList=[]
 case neg =>
  obtain ⟨d1,d2,d3,d4⟩:=text_not hI;have hd:¬IA.data=#[]:=fun e=>hI (by rw[e])
  rw[show vpl 1 _ _ _ _ _ _=false from by simp[vpl,hd]];clear hI hd;go_enter Tryz.func150,Tryz.ntmps150;go_wp2_with fail;go_ret;exact ⟨rfl,by first|exact below_new _ _|exact below_step (below_new _ _) (below_new _ _)⟩
 case pos =>
 obtain rfl:=empty_ba hI;rw[show vpl 1 _ _ _ _ _ _=true from by simp[vpl]];go_enter Tryz.func150,Tryz.ntmps150;go_wp2_with fail;go_ret;exact ⟨rfl,by first|exact below_new _ _|exact below_step (below_new _ _) (below_new _ _)⟩
theorem plain2_any (SA:ByteArray)(b:Bool)(n:Nat)(lo:Option Addr)(ll lc:Nat)(mo:Option Addr)(lm mc:Nat)(IA UA:ByteArray)(w:World) :
  Calls Tryz.prog 150 #[.agg #[.int .i64 2,.string SA,.bool b,.int .u64 n,.slice lo ll lc,.slice mo lm mc,.string IA,.string UA]] w fun e w'=>e = .returned (.bool (vpl 2 SA.data.toList.isEmpty b n ll lm IA.data.toList.isEmpty))∧Below w.heap.size w w':=by
 by_cases hS:SA.data.toList=[]
 case neg =>
  obtain ⟨d1,d2,d3,d4⟩:=text_not hS;have hd:¬SA.data=#[]:=fun e=>hS (by rw[e])
  rw[show vpl 2 _ _ _ _ _ _=false from by simp[vpl,hd]];clear hS hd;go_enter Tryz.func150,Tryz.ntmps150;go_wp2_with fail;go_ret;exact ⟨rfl,by first|exact below_new _ _|exact below_step (below_new _ _) (below_new _ _)⟩
 case pos =>
 obtain rfl:=empty_ba hS
 by_cases hN:n=0
 case neg =>
  have d1:((n:Int) == 0)=false:=by rw[beq_eq_false_iff_ne];omega
  rw[show vpl 2 _ _ _ _ _ _=false from by simp[vpl,hN]];clear hN;go_enter Tryz.func150,Tryz.ntmps150;go_wp2_with fail;go_ret;exact ⟨rfl,by first|exact below_new _ _|exact below_step (below_new _ _) (below_new _ _)⟩
 case pos =>
 subst hN
 by_cases hL:ll=0
 case neg =>
  have d1:((ll:Int) == 0)=false:=by rw[beq_eq_false_iff_ne];omega
  rw[show vpl 2 _ _ _ _ _ _=false from by simp[vpl,hL]];clear hL;go_enter Tryz.func150,Tryz.ntmps150;go_wp2_with fail;go_ret;exact ⟨rfl,by first|exact below_new _ _|exact below_step (below_new _ _) (below_new _ _)⟩
 case pos =>
 subst hL
 by_cases hM:lm=0
 case neg =>
  have d1:((lm:Int) == 0)=false:=by rw[beq_eq_false_iff_ne];omega
  rw[show vpl 2 _ _ _ _ _ _=false from by simp[vpl,hM]];clear hM;go_enter Tryz.func150,Tryz.ntmps150;go_wp2_with fail;go_ret;exact ⟨rfl,by first|exact below_new _ _|exact below_step (below_new _ _) (below_new _ _)⟩
 case pos =>
 subst hM
 by_cases hI:IA.data.toList=[]
 case neg =>
  obtain ⟨d1,d2,d3,d4⟩:=text_not hI;have hd:¬IA.data=#[]:=fun e=>hI (by rw[e])
  rw[show vpl 2 _ _ _ _ _ _=false from by simp[vpl,hd]];clear hI hd;go_enter Tryz.func150,Tryz.ntmps150;go_wp2_with fail;go_ret;exact ⟨rfl,by first|exact below_new _ _|exact below_step (below_new _ _) (below_new _ _)⟩
 case pos =>
 obtain rfl:=empty_ba hI;rw[show vpl 2 _ _ _ _ _ _=true from by simp[vpl]];go_enter Tryz.func150,Tryz.ntmps150;go_wp2_with fail;go_ret;exact ⟨rfl,by first|exact below_new _ _|exact below_step (below_new _ _) (below_new _ _)⟩
theorem plain3_any (SA:ByteArray)(b:Bool)(n:Nat)(lo:Option Addr)(ll lc:Nat)(mo:Option Addr)(lm mc:Nat)(IA UA:ByteArray)(w:World) :
  Calls Tryz.prog 150 #[.agg #[.int .i64 3,.string SA,.bool b,.int .u64 n,.slice lo ll lc,.slice mo lm mc,.string IA,.string UA]] w fun e w'=>e = .returned (.bool (vpl 3 SA.data.toList.isEmpty b n ll lm IA.data.toList.isEmpty))∧Below w.heap.size w w':=by
 by_cases hS:SA.data.toList=[]
 case neg =>
  obtain ⟨d1,d2,d3,d4⟩:=text_not hS;have hd:¬SA.data=#[]:=fun e=>hS (by rw[e])
  rw[show vpl 3 _ _ _ _ _ _=false from by simp[vpl,hd]];clear hS hd;go_enter Tryz.func150,Tryz.ntmps150;go_wp2_with fail;go_ret;exact ⟨rfl,by first|exact below_new _ _|exact below_step (below_new _ _) (below_new _ _)⟩
 case pos =>
 obtain rfl:=empty_ba hS
 cases b with
 | true =>
  rw[show vpl 3 _ _ _ _ _ _=false from by simp[vpl]];go_enter Tryz.func150,Tryz.ntmps150;go_wp2_with fail;go_ret;exact ⟨rfl,by first|exact below_new _ _|exact below_step (below_new _ _) (below_new _ _)⟩
 | false =>
 by_cases hL:ll=0
 case neg =>
  have d1:((ll:Int) == 0)=false:=by rw[beq_eq_false_iff_ne];omega
  rw[show vpl 3 _ _ _ _ _ _=false from by simp[vpl,hL]];clear hL;go_enter Tryz.func150,Tryz.ntmps150;go_wp2_with fail;go_ret;exact ⟨rfl,by first|exact below_new _ _|exact below_step (below_new _ _) (below_new _ _)⟩
 case pos =>
 subst hL
 by_cases hM:lm=0
 case neg =>
  have d1:((lm:Int) == 0)=false:=by rw[beq_eq_false_iff_ne];omega
  rw[show vpl 3 _ _ _ _ _ _=false from by simp[vpl,hM]];clear hM;go_enter Tryz.func150,Tryz.ntmps150;go_wp2_with fail;go_ret;exact ⟨rfl,by first|exact below_new _ _|exact below_step (below_new _ _) (below_new _ _)⟩
 case pos =>
 subst hM
 by_cases hI:IA.data.toList=[]
 case neg =>
  obtain ⟨d1,d2,d3,d4⟩:=text_not hI;have hd:¬IA.data=#[]:=fun e=>hI (by rw[e])
  rw[show vpl 3 _ _ _ _ _ _=false from by simp[vpl,hd]];clear hI hd;go_enter Tryz.func150,Tryz.ntmps150;go_wp2_with fail;go_ret;exact ⟨rfl,by first|exact below_new _ _|exact below_step (below_new _ _) (below_new _ _)⟩
 case pos =>
 obtain rfl:=empty_ba hI;rw[show vpl 3 _ _ _ _ _ _=true from by simp[vpl]];go_enter Tryz.func150,Tryz.ntmps150;go_wp2_with fail;go_ret;exact ⟨rfl,by first|exact below_new _ _|exact below_step (below_new _ _) (below_new _ _)⟩
theorem plain4_any (SA:ByteArray)(b:Bool)(n:Nat)(lo:Option Addr)(ll lc:Nat)(mo:Option Addr)(lm mc:Nat)(IA UA:ByteArray)(w:World) :
  Calls Tryz.prog 150 #[.agg #[.int .i64 4,.string SA,.bool b,.int .u64 n,.slice lo ll lc,.slice mo lm mc,.string IA,.string UA]] w fun e w'=>e = .returned (.bool (vpl 4 SA.data.toList.isEmpty b n ll lm IA.data.toList.isEmpty))∧Below w.heap.size w w':=by
 by_cases hS:SA.data.toList=[]
 case neg =>
  obtain ⟨d1,d2,d3,d4⟩:=text_not hS;have hd:¬SA.data=#[]:=fun e=>hS (by rw[e])
  rw[show vpl 4 _ _ _ _ _ _=false from by simp[vpl,hd]];clear hS hd;go_enter Tryz.func150,Tryz.ntmps150;go_wp2_with fail;go_ret;exact ⟨rfl,by first|exact below_new _ _|exact below_step (below_new _ _) (below_new _ _)⟩
 case pos =>
 obtain rfl:=empty_ba hS
 cases b with
 | true =>
  rw[show vpl 4 _ _ _ _ _ _=false from by simp[vpl]];go_enter Tryz.func150,Tryz.ntmps150;go_wp2_with fail;go_ret;exact ⟨rfl,by first|exact below_new _ _|exact below_step (below_new _ _) (below_new _ _)⟩
 | false =>
 by_cases hL:ll=0
 case neg =>
  have d1:((ll:Int) == 0)=false:=by rw[beq_eq_false_iff_ne];omega
  rw[show vpl 4 _ _ _ _ _ _=false from by simp[vpl,hL]];clear hL;go_enter Tryz.func150,Tryz.ntmps150;go_wp2_with fail;go_ret;exact ⟨rfl,by first|exact below_new _ _|exact below_step (below_new _ _) (below_new _ _)⟩
 case pos =>
 subst hL
 by_cases hM:lm=0
 case neg =>
  have d1:((lm:Int) == 0)=false:=by rw[beq_eq_false_iff_ne];omega
  rw[show vpl 4 _ _ _ _ _ _=false from by simp[vpl,hM]];clear hM;go_enter Tryz.func150,Tryz.ntmps150;go_wp2_with fail;go_ret;exact ⟨rfl,by first|exact below_new _ _|exact below_step (below_new _ _) (below_new _ _)⟩
 case pos =>
 subst hM
 by_cases hI:IA.data.toList=[]
 case neg =>
  obtain ⟨d1,d2,d3,d4⟩:=text_not hI;have hd:¬IA.data=#[]:=fun e=>hI (by rw[e])
  rw[show vpl 4 _ _ _ _ _ _=false from by simp[vpl,hd]];clear hI hd;go_enter Tryz.func150,Tryz.ntmps150;go_wp2_with fail;go_ret;exact ⟨rfl,by first|exact below_new _ _|exact below_step (below_new _ _) (below_new _ _)⟩
 case pos =>
 obtain rfl:=empty_ba hI;rw[show vpl 4 _ _ _ _ _ _=true from by simp[vpl]];go_enter Tryz.func150,Tryz.ntmps150;go_wp2_with fail;go_ret;exact ⟨rfl,by first|exact below_new _ _|exact below_step (below_new _ _) (below_new _ _)⟩
theorem plain5_any (SA:ByteArray)(b:Bool)(n:Nat)(lo:Option Addr)(ll lc:Nat)(mo:Option Addr)(lm mc:Nat)(IA UA:ByteArray)(w:World) :
  Calls Tryz.prog 150 #[.agg #[.int .i64 5,.string SA,.bool b,.int .u64 n,.slice lo ll lc,.slice mo lm mc,.string IA,.string UA]] w fun e w'=>e = .returned (.bool (vpl 5 SA.data.toList.isEmpty b n ll lm IA.data.toList.isEmpty))∧Below w.heap.size w w':=by
 by_cases hS:SA.data.toList=[]
 case neg =>
  obtain ⟨d1,d2,d3,d4⟩:=text_not hS;have hd:¬SA.data=#[]:=fun e=>hS (by rw[e])
  rw[show vpl 5 _ _ _ _ _ _=false from by simp[vpl,hd]];clear hS hd;go_enter Tryz.func150,Tryz.ntmps150;go_wp2_with fail;go_ret;exact ⟨rfl,by first|exact below_new _ _|exact below_step (below_new _ _) (below_new _ _)⟩
 case pos =>
 obtain rfl:=empty_ba hS
 cases b with
 | true =>
  rw[show vpl 5 _ _ _ _ _ _=false from by simp[vpl]];go_enter Tryz.func150,Tryz.ntmps150;go_wp2_with fail;go_ret;exact ⟨rfl,by first|exact below_new _ _|exact below_step (below_new _ _) (below_new _ _)⟩
 | false =>
 by_cases hN:n=0
 case neg =>
  have d1:((n:Int) == 0)=false:=by rw[beq_eq_false_iff_ne];omega
  rw[show vpl 5 _ _ _ _ _ _=false from by simp[vpl,hN]];clear hN;go_enter Tryz.func150,Tryz.ntmps150;go_wp2_with fail;go_ret;exact ⟨rfl,by first|exact below_new _ _|exact below_step (below_new _ _) (below_new _ _)⟩
 case pos =>
 subst hN
 by_cases hM:lm=0
 case neg =>
  have d1:((lm:Int) == 0)=false:=by rw[beq_eq_false_iff_ne];omega
  rw[show vpl 5 _ _ _ _ _ _=false from by simp[vpl,hM]];clear hM;go_enter Tryz.func150,Tryz.ntmps150;go_wp2_with fail;go_ret;exact ⟨rfl,by first|exact below_new _ _|exact below_step (below_new _ _) (below_new _ _)⟩
 case pos =>
 subst hM;rw[show vpl 5 _ _ _ _ _ _=true from by simp[vpl]];go_enter Tryz.func150,Tryz.ntmps150;go_wp2_with fail;go_ret;exact ⟨rfl,by first|exact below_new _ _|exact below_step (below_new _ _) (below_new _ _)⟩
theorem plain6_any (SA:ByteArray)(b:Bool)(n:Nat)(lo:Option Addr)(ll lc:Nat)(mo:Option Addr)(lm mc:Nat)(IA UA:ByteArray)(w:World) :
  Calls Tryz.prog 150 #[.agg #[.int .i64 6,.string SA,.bool b,.int .u64 n,.slice lo ll lc,.slice mo lm mc,.string IA,.string UA]] w fun e w'=>e = .returned (.bool (vpl 6 SA.data.toList.isEmpty b n ll lm IA.data.toList.isEmpty))∧Below w.heap.size w w':=by
 by_cases hS:SA.data.toList=[]
 case neg =>
  obtain ⟨d1,d2,d3,d4⟩:=text_not hS;have hd:¬SA.data=#[]:=fun e=>hS (by rw[e])
  rw[show vpl 6 _ _ _ _ _ _=false from by simp[vpl,hd]];clear hS hd;go_enter Tryz.func150,Tryz.ntmps150;go_wp2_with fail;go_ret;exact ⟨rfl,by first|exact below_new _ _|exact below_step (below_new _ _) (below_new _ _)⟩
 case pos =>
 obtain rfl:=empty_ba hS
 cases b with
 | true =>
  rw[show vpl 6 _ _ _ _ _ _=false from by simp[vpl]];go_enter Tryz.func150,Tryz.ntmps150;go_wp2_with fail;go_ret;exact ⟨rfl,by first|exact below_new _ _|exact below_step (below_new _ _) (below_new _ _)⟩
 | false =>
 by_cases hN:n=0
 case neg =>
  have d1:((n:Int) == 0)=false:=by rw[beq_eq_false_iff_ne];omega
  rw[show vpl 6 _ _ _ _ _ _=false from by simp[vpl,hN]];clear hN;go_enter Tryz.func150,Tryz.ntmps150;go_wp2_with fail;go_ret;exact ⟨rfl,by first|exact below_new _ _|exact below_step (below_new _ _) (below_new _ _)⟩
 case pos =>
 subst hN
 by_cases hL:ll=0
 case neg =>
  have d1:((ll:Int) == 0)=false:=by rw[beq_eq_false_iff_ne];omega
  rw[show vpl 6 _ _ _ _ _ _=false from by simp[vpl,hL]];clear hL;go_enter Tryz.func150,Tryz.ntmps150;go_wp2_with fail;go_ret;exact ⟨rfl,by first|exact below_new _ _|exact below_step (below_new _ _) (below_new _ _)⟩
 case pos =>
 subst hL;rw[show vpl 6 _ _ _ _ _ _=true from by simp[vpl]];go_enter Tryz.func150,Tryz.ntmps150;go_wp2_with fail;go_ret;exact ⟨rfl,by first|exact below_new _ _|exact below_step (below_new _ _) (below_new _ _)⟩
theorem plain7_any (SA:ByteArray)(b:Bool)(n:Nat)(lo:Option Addr)(ll lc:Nat)(mo:Option Addr)(lm mc:Nat)(IA UA:ByteArray)(w:World) :
  Calls Tryz.prog 150 #[.agg #[.int .i64 7,.string SA,.bool b,.int .u64 n,.slice lo ll lc,.slice mo lm mc,.string IA,.string UA]] w fun e w'=>e = .returned (.bool (vpl 7 SA.data.toList.isEmpty b n ll lm IA.data.toList.isEmpty))∧Below w.heap.size w w':=by
 cases b with
 | true =>
  rw[show vpl 7 _ _ _ _ _ _=false from by simp[vpl]];go_enter Tryz.func150,Tryz.ntmps150;go_wp2_with fail;go_ret;exact ⟨rfl,by first|exact below_new _ _|exact below_step (below_new _ _) (below_new _ _)⟩
 | false =>
 by_cases hN:n=0
 case neg =>
  have d1:((n:Int) == 0)=false:=by rw[beq_eq_false_iff_ne];omega
  rw[show vpl 7 _ _ _ _ _ _=false from by simp[vpl,hN]];clear hN;go_enter Tryz.func150,Tryz.ntmps150;go_wp2_with fail;go_ret;exact ⟨rfl,by first|exact below_new _ _|exact below_step (below_new _ _) (below_new _ _)⟩
 case pos =>
 subst hN
 by_cases hL:ll=0
 case neg =>
  have d1:((ll:Int) == 0)=false:=by rw[beq_eq_false_iff_ne];omega
  rw[show vpl 7 _ _ _ _ _ _=false from by simp[vpl,hL]];clear hL;go_enter Tryz.func150,Tryz.ntmps150;go_wp2_with fail;go_ret;exact ⟨rfl,by first|exact below_new _ _|exact below_step (below_new _ _) (below_new _ _)⟩
 case pos =>
 subst hL
 by_cases hM:lm=0
 case neg =>
  have d1:((lm:Int) == 0)=false:=by rw[beq_eq_false_iff_ne];omega
  rw[show vpl 7 _ _ _ _ _ _=false from by simp[vpl,hM]];clear hM;go_enter Tryz.func150,Tryz.ntmps150;go_wp2_with fail;go_ret;exact ⟨rfl,by first|exact below_new _ _|exact below_step (below_new _ _) (below_new _ _)⟩
 case pos =>
 subst hM
 by_cases hI:IA.data.toList=[]
 case neg =>
  obtain ⟨d1,d2,d3,d4⟩:=text_not hI;have hd:¬IA.data=#[]:=fun e=>hI (by rw[e])
  rw[show vpl 7 _ _ _ _ _ _=false from by simp[vpl,hd]];clear hI hd;go_enter Tryz.func150,Tryz.ntmps150;go_wp2_with fail;go_ret;exact ⟨rfl,by first|exact below_new _ _|exact below_step (below_new _ _) (below_new _ _)⟩
 case pos =>
 obtain rfl:=empty_ba hI;rw[show vpl 7 _ _ _ _ _ _=true from by simp[vpl]];go_enter Tryz.func150,Tryz.ntmps150;go_wp2_with fail;go_ret;exact ⟨rfl,by first|exact below_new _ _|exact below_step (below_new _ _) (below_new _ _)⟩
theorem plainX_any (k:Int)(hk:¬(0≤k∧k≤7))(SA:ByteArray)(b:Bool)(n:Nat)(lo:Option Addr)(ll lc:Nat)(mo:Option Addr)(lm mc:Nat)(IA UA:ByteArray)(w:World) :
  Calls Tryz.prog 150 #[.agg #[.int .i64 k,.string SA,.bool b,.int .u64 n,.slice lo ll lc,.slice mo lm mc,.string IA,.string UA]] w fun e w'=>e = .returned (.bool (vpl k SA.data.toList.isEmpty b n ll lm IA.data.toList.isEmpty))∧Below w.heap.size w w':=by
 have d0:(k == 0)=false:=by rw[beq_eq_false_iff_ne];omega
 have d1:(k == 1)=false:=by rw[beq_eq_false_iff_ne];omega
 have d2:(k == 2)=false:=by rw[beq_eq_false_iff_ne];omega
 have d3:(k == 3)=false:=by rw[beq_eq_false_iff_ne];omega
 have d4:(k == 4)=false:=by rw[beq_eq_false_iff_ne];omega
 have d5:(k == 5)=false:=by rw[beq_eq_false_iff_ne];omega
 have d6:(k == 6)=false:=by rw[beq_eq_false_iff_ne];omega
 have d7:(k == 7)=false:=by rw[beq_eq_false_iff_ne];omega
 rw[show vpl k _ _ _ _ _ _=false from by unfold vpl;rw[decide_eq_false hk];simp];clear hk;go_enter Tryz.func150,Tryz.ntmps150;go_wp2_with fail;go_ret;exact ⟨rfl,by first|exact below_new _ _|skip⟩
end Go.Proofs.YtficgfemmijaaaaGreatDoor
