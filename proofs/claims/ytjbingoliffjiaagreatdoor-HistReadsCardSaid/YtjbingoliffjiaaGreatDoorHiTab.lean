/-
  ExTakes, HiTab
-/
import Derived.Test.YtjbingoliffjiaaGreatDoorExBack
import Derived.Test.YtjbingoliffjiaaGreatDoorRefMsg
import Derived.Test.YtjbingoliffjiaaGreatDoorHiBack
set_option maxRecDepth 1000000
set_option maxHeartbeats 16000000
namespace Go.Proofs.YtjbingoliffjiaaGreatDoor
open Go.RowKit
open Lib (hid)
theorem extakes_any (r:Rec)(w:World):Calls Tryz.prog 124 #[.int .i64 (r.num:Int),.int .i64 (r.ty:Int)] w fun e w'=>e = .returned (.bool (exF.tk r))∧w=w':=by
 obtain ⟨num,ty,n,s,raw⟩:=r
 have hq:=exF_tk ⟨num,ty,n,s,raw⟩
 dsimp only at hq
 obtain ⟨q,hqe⟩:∃ q,exF.tk ⟨num,ty,n,s,raw⟩=q:=⟨_,rfl⟩
 rw[hqe] at hq ⊢
 clear hqe
 by_cases h2:num=2
 ·subst h2
  have hb:Hid (q=((ty:Int) == (1:Int))):=hid (by rw[show ((1:Int))=((1:Nat):Int) from rfl,ibeq,hq];exact decide_eq_decide.2 (by omega))
  clear hq
  go_enter Tryz.func124,Tryz.ntmps124
  go_wp2_with fail
  go_ret
  exact ⟨by rw[hb.out];rfl,rfl⟩
 by_cases h6:num=6
 ·subst h6
  have hb:Hid (q=((ty:Int) == (1:Int))):=hid (by rw[show ((1:Int))=((1:Nat):Int) from rfl,ibeq,hq];exact decide_eq_decide.2 (by omega))
  clear hq
  go_enter Tryz.func124,Tryz.ntmps124
  go_wp2_with fail
  go_ret
  exact ⟨by rw[hb.out];rfl,rfl⟩
 by_cases h3:num=3
 ·subst h3
  have hb:Hid (q=((ty:Int) == (1:Int))):=hid (by rw[show ((1:Int))=((1:Nat):Int) from rfl,ibeq,hq];exact decide_eq_decide.2 (by omega))
  clear hq
  go_enter Tryz.func124,Tryz.ntmps124
  go_wp2_with fail
  go_ret
  exact ⟨by rw[hb.out];rfl,rfl⟩
 by_cases h4:num=4
 ·subst h4
  have hb:Hid (q=((ty:Int) == (2:Int))):=hid (by rw[show ((2:Int))=((2:Nat):Int) from rfl,ibeq,hq];exact decide_eq_decide.2 (by omega))
  clear hq
  go_enter Tryz.func124,Tryz.ntmps124
  go_wp2_with fail
  go_ret
  exact ⟨by rw[hb.out];rfl,rfl⟩
 by_cases h5:num=5
 ·subst h5
  have hb:Hid (q=((ty:Int) == (2:Int))):=hid (by rw[show ((2:Int))=((2:Nat):Int) from rfl,ibeq,hq];exact decide_eq_decide.2 (by omega))
  clear hq
  go_enter Tryz.func124,Tryz.ntmps124
  go_wp2_with fail
  go_ret
  exact ⟨by rw[hb.out];rfl,rfl⟩
 by_cases h7:num=7
 ·subst h7
  have hb:Hid (q=((ty:Int) == (2:Int))):=hid (by rw[show ((2:Int))=((2:Nat):Int) from rfl,ibeq,hq];exact decide_eq_decide.2 (by omega))
  clear hq
  go_enter Tryz.func124,Tryz.ntmps124
  go_wp2_with fail
  go_ret
  exact ⟨by rw[hb.out];rfl,rfl⟩
 have d2:((num:Int) == (2:Int))=false:=by rw[beq_eq_false_iff_ne];omega
 have d6:((num:Int) == (6:Int))=false:=by rw[beq_eq_false_iff_ne];omega
 have d3:((num:Int) == (3:Int))=false:=by rw[beq_eq_false_iff_ne];omega
 have d4:((num:Int) == (4:Int))=false:=by rw[beq_eq_false_iff_ne];omega
 have d5:((num:Int) == (5:Int))=false:=by rw[beq_eq_false_iff_ne];omega
 have d7:((num:Int) == (7:Int))=false:=by rw[beq_eq_false_iff_ne];omega
 have hb:Hid (q=false):=hid (by rw[hq];exact decide_eq_false (by omega))
 clear h2 h6 h3 h4 h5 h7 hq
 go_enter Tryz.func124,Tryz.ntmps124
 go_wp2_with fail
 go_ret
 exact ⟨by rw[hb.out];rfl,rfl⟩
open Go.RowKit
theorem nats_tab13 (w:World)(a0 a1 a2 a3 a4 a5 a6 a7 a8 a9 a10 a11 a12:Nat):Nats .i64 (w.alloc (.cells #[.int .i64 (a0:Int),.int .i64 (a1:Int),.int .i64 (a2:Int),.int .i64 (a3:Int),.int .i64 (a4:Int),.int .i64 (a5:Int),.int .i64 (a6:Int),.int .i64 (a7:Int),.int .i64 (a8:Int),.int .i64 (a9:Int),.int .i64 (a10:Int),.int .i64 (a11:Int),.int .i64 (a12:Int)] 3)) (some ⟨w.heap.size,0,none⟩) [a0,a1,a2,a3,a4,a5,a6,a7,a8,a9,a10,a11,a12]:=by
 intro _
 refine ⟨w.heap.size,0,rfl,by simp,fun j hj=>?_⟩
 have:j=0∨j=1∨j=2∨j=3∨j=4∨j=5∨j=6∨j=7∨j=8∨j=9∨j=10∨j=11∨j=12:=by simp at hj;omega
 rcases this with rfl|rfl|rfl|rfl|rfl|rfl|rfl|rfl|rfl|rfl|rfl|rfl|rfl
 ·exact row_cell (heap_alloc_new w _) (j:=0) rfl
 ·exact row_cell (heap_alloc_new w _) (j:=1) rfl
 ·exact row_cell (heap_alloc_new w _) (j:=2) rfl
 ·exact row_cell (heap_alloc_new w _) (j:=3) rfl
 ·exact row_cell (heap_alloc_new w _) (j:=4) rfl
 ·exact row_cell (heap_alloc_new w _) (j:=5) rfl
 ·exact row_cell (heap_alloc_new w _) (j:=6) rfl
 ·exact row_cell (heap_alloc_new w _) (j:=7) rfl
 ·exact row_cell (heap_alloc_new w _) (j:=8) rfl
 ·exact row_cell (heap_alloc_new w _) (j:=9) rfl
 ·exact row_cell (heap_alloc_new w _) (j:=10) rfl
 ·exact row_cell (heap_alloc_new w _) (j:=11) rfl
 ·exact row_cell (heap_alloc_new w _) (j:=12) rfl
theorem hi_tab (w:World):Calls Tryz.prog 84 #[] w fun e w'=>∃ ao,e = .returned (.slice ao 13 13)∧Hid (Nats .i64 w' ao [17,25,33,41,49,50,57,58,66,74,80,89,97])∧Below w.heap.size w w':=by
 have HN:=hid (nats_tab13 w 17 25 33 41 49 50 57 58 66 74 80 89 97)
 go_enter Tryz.func84,Tryz.ntmps84
 go_wp2_with fail
 go_ret
 exact ⟨_,rfl,HN,below_new _ _⟩
theorem hi_rtk (r:Rec):hiF.tk r=rtk [17,25,33,41,49,50,57,58,66,74,80,89,97] r:=by
 rw[hiF_tk]
 unfold rtk
 simp only[List.any_cons,List.any_nil,Bool.or_false,Nat.reduceDiv,Nat.reduceMod]
 rw[Bool.eq_iff_iff]
 simp only[decide_eq_true_eq,Bool.or_eq_true]
 constructor
 ·rintro (⟨h1,h2⟩|⟨h1,h2⟩|⟨h1,h2⟩|⟨h1,h2⟩|⟨h1,h2|h2⟩|⟨h1,h2|h2⟩|⟨h1,h2⟩|⟨h1,h2⟩|⟨h1,h2⟩|⟨h1,h2⟩|⟨h1,h2⟩)
  all_goals simp[h1,h2]
 ·rintro (⟨h1,h2⟩|⟨h1,h2⟩|⟨h1,h2⟩|⟨h1,h2⟩|⟨h1,h2⟩|⟨h1,h2⟩|⟨h1,h2⟩|⟨h1,h2⟩|⟨h1,h2⟩|⟨h1,h2⟩|⟨h1,h2⟩|⟨h1,h2⟩|⟨h1,h2⟩)
  all_goals simp[←h1,←h2]
end Go.Proofs.YtjbingoliffjiaaGreatDoor
