/-
  HiTakes, RefTab
-/
import Derived.Test.YtjbingoliffjiaaGreatDoorHiBack
import Derived.Test.YtjbingoliffjiaaGreatDoorRefMsg
import Derived.Test.YtjbingoliffjiaaGreatDoorExBack
import Derived.Test.YtjbingoliffjiaaGreatDoorValKey
import Derived.Test.YtjbingoliffjiaaGreatDoorExRead
import Derived.Test.YtjbingoliffjiaaGreatDoorVal
import Derived.Test.YtjbingoliffjiaaGreatDoorUtfRefW
set_option maxRecDepth 1000000
set_option maxHeartbeats 16000000
namespace Go.Proofs.YtjbingoliffjiaaGreatDoor
open Go.RowKit
open Lib (hid)
theorem hitakes_any (r:Rec)(w:World):Calls Tryz.prog 81 #[.int .i64 (r.num:Int),.int .i64 (r.ty:Int)] w fun e w'=>e = .returned (.bool (hiF.tk r))∧w=w':=by
  obtain ⟨num,ty,n,s,raw⟩:=r
  have hq:=hiF_tk ⟨num,ty,n,s,raw⟩
  dsimp only at hq
  obtain ⟨q,hqe⟩:∃ q,hiF.tk ⟨num,ty,n,s,raw⟩=q:=⟨_,rfl⟩
  rw[hqe] at hq ⊢
  clear hqe
  by_cases h2:num=2
  · subst h2
    have hb:Hid (q=((ty:Int) == (1:Int))):=hid (by rw[show ((1:Int))=((1:Nat):Int) from rfl,ibeq,hq];exact decide_eq_decide.2 (by omega))
    clear hq
    go_enter Tryz.func81,Tryz.ntmps81
    go_wp2_with fail
    go_ret
    exact ⟨by rw[hb.out];rfl,rfl⟩
  by_cases h3:num=3
  · subst h3
    have hb:Hid (q=((ty:Int) == (1:Int))):=hid (by rw[show ((1:Int))=((1:Nat):Int) from rfl,ibeq,hq];exact decide_eq_decide.2 (by omega))
    clear hq
    go_enter Tryz.func81,Tryz.ntmps81
    go_wp2_with fail
    go_ret
    exact ⟨by rw[hb.out];rfl,rfl⟩
  by_cases h4:num=4
  · subst h4
    have hb:Hid (q=((ty:Int) == (1:Int))):=hid (by rw[show ((1:Int))=((1:Nat):Int) from rfl,ibeq,hq];exact decide_eq_decide.2 (by omega))
    clear hq
    go_enter Tryz.func81,Tryz.ntmps81
    go_wp2_with fail
    go_ret
    exact ⟨by rw[hb.out];rfl,rfl⟩
  by_cases h5:num=5
  · subst h5
    have hb:Hid (q=((ty:Int) == (1:Int))):=hid (by rw[show ((1:Int))=((1:Nat):Int) from rfl,ibeq,hq];exact decide_eq_decide.2 (by omega))
    clear hq
    go_enter Tryz.func81,Tryz.ntmps81
    go_wp2_with fail
    go_ret
    exact ⟨by rw[hb.out];rfl,rfl⟩
  by_cases h6:num=6
  · subst h6
    by_cases h2t:ty=2
    · have hb:Hid (q=true):=hid (by rw[hq];exact decide_eq_true (by omega))
      have dt:((ty:Int) == 2)=true:=by rw[beq_iff_eq];omega
      clear hq
      go_enter Tryz.func81,Tryz.ntmps81
      go_wp2_with fail
      go_ret
      exact ⟨by rw[hb.out];rfl,rfl⟩
    · have hb:Hid (q=((ty:Int) == (1:Int))):=hid (by rw[show ((1:Int))=((1:Nat):Int) from rfl,ibeq,hq];exact decide_eq_decide.2 (by omega))
      have dt:((ty:Int) == 2)=false:=by rw[beq_eq_false_iff_ne];omega
      clear hq h2t
      go_enter Tryz.func81,Tryz.ntmps81
      go_wp2_with fail
      go_ret
      exact ⟨by rw[hb.out];rfl,rfl⟩
  by_cases h7:num=7
  · subst h7
    by_cases h2t:ty=2
    · have hb:Hid (q=true):=hid (by rw[hq];exact decide_eq_true (by omega))
      have dt:((ty:Int) == 2)=true:=by rw[beq_iff_eq];omega
      clear hq
      go_enter Tryz.func81,Tryz.ntmps81
      go_wp2_with fail
      go_ret
      exact ⟨by rw[hb.out];rfl,rfl⟩
    · have hb:Hid (q=((ty:Int) == (1:Int))):=hid (by rw[show ((1:Int))=((1:Nat):Int) from rfl,ibeq,hq];exact decide_eq_decide.2 (by omega))
      have dt:((ty:Int) == 2)=false:=by rw[beq_eq_false_iff_ne];omega
      clear hq h2t
      go_enter Tryz.func81,Tryz.ntmps81
      go_wp2_with fail
      go_ret
      exact ⟨by rw[hb.out];rfl,rfl⟩
  by_cases h8:num=8
  · subst h8
    have hb:Hid (q=((ty:Int) == (2:Int))):=hid (by rw[show ((2:Int))=((2:Nat):Int) from rfl,ibeq,hq];exact decide_eq_decide.2 (by omega))
    clear hq
    go_enter Tryz.func81,Tryz.ntmps81
    go_wp2_with fail
    go_ret
    exact ⟨by rw[hb.out];rfl,rfl⟩
  by_cases h9:num=9
  · subst h9
    have hb:Hid (q=((ty:Int) == (2:Int))):=hid (by rw[show ((2:Int))=((2:Nat):Int) from rfl,ibeq,hq];exact decide_eq_decide.2 (by omega))
    clear hq
    go_enter Tryz.func81,Tryz.ntmps81
    go_wp2_with fail
    go_ret
    exact ⟨by rw[hb.out];rfl,rfl⟩
  by_cases h10:num=10
  · subst h10
    have hb:Hid (q=((ty:Int) == (0:Int))):=hid (by rw[show ((0:Int))=((0:Nat):Int) from rfl,ibeq,hq];exact decide_eq_decide.2 (by omega))
    clear hq
    go_enter Tryz.func81,Tryz.ntmps81
    go_wp2_with fail
    go_ret
    exact ⟨by rw[hb.out];rfl,rfl⟩
  by_cases h11:num=11
  · subst h11
    have hb:Hid (q=((ty:Int) == (1:Int))):=hid (by rw[show ((1:Int))=((1:Nat):Int) from rfl,ibeq,hq];exact decide_eq_decide.2 (by omega))
    clear hq
    go_enter Tryz.func81,Tryz.ntmps81
    go_wp2_with fail
    go_ret
    exact ⟨by rw[hb.out];rfl,rfl⟩
  by_cases h12:num=12
  · subst h12
    have hb:Hid (q=((ty:Int) == (1:Int))):=hid (by rw[show ((1:Int))=((1:Nat):Int) from rfl,ibeq,hq];exact decide_eq_decide.2 (by omega))
    clear hq
    go_enter Tryz.func81,Tryz.ntmps81
    go_wp2_with fail
    go_ret
    exact ⟨by rw[hb.out];rfl,rfl⟩
  have d2:((num:Int) == (2:Int))=false:=by rw[beq_eq_false_iff_ne];omega
  have d3:((num:Int) == (3:Int))=false:=by rw[beq_eq_false_iff_ne];omega
  have d4:((num:Int) == (4:Int))=false:=by rw[beq_eq_false_iff_ne];omega
  have d5:((num:Int) == (5:Int))=false:=by rw[beq_eq_false_iff_ne];omega
  have d6:((num:Int) == (6:Int))=false:=by rw[beq_eq_false_iff_ne];omega
  have d7:((num:Int) == (7:Int))=false:=by rw[beq_eq_false_iff_ne];omega
  have d8:((num:Int) == (8:Int))=false:=by rw[beq_eq_false_iff_ne];omega
  have d9:((num:Int) == (9:Int))=false:=by rw[beq_eq_false_iff_ne];omega
  have d10:((num:Int) == (10:Int))=false:=by rw[beq_eq_false_iff_ne];omega
  have d11:((num:Int) == (11:Int))=false:=by rw[beq_eq_false_iff_ne];omega
  have d12:((num:Int) == (12:Int))=false:=by rw[beq_eq_false_iff_ne];omega
  have hb:Hid (q=false):=hid (by rw[hq];exact decide_eq_false (by omega))
  clear h2 h3 h4 h5 h6 h7 h8 h9 h10 h11 h12 hq
  go_enter Tryz.func81,Tryz.ntmps81
  go_wp2_with fail
  go_ret
  exact ⟨by rw[hb.out];rfl,rfl⟩
open Go.RowKit
theorem nats_tab6 (w:World)(a0 a1 a2 a3 a4 a5:Nat):Nats .i64 (w.alloc (.cells #[.int .i64 (a0:Int),.int .i64 (a1:Int),.int .i64 (a2:Int),.int .i64 (a3:Int),.int .i64 (a4:Int),.int .i64 (a5:Int)] 3)) (some ⟨w.heap.size,0,none⟩) [a0,a1,a2,a3,a4,a5]:=by
 intro _
 refine ⟨w.heap.size,0,rfl,by simp,fun j hj=>?_⟩
 have:j=0∨j=1∨j=2∨j=3∨j=4∨j=5:=by simp at hj;omega
 rcases this with rfl|rfl|rfl|rfl|rfl|rfl
 ·exact row_cell (heap_alloc_new w _) (j:=0) rfl
 ·exact row_cell (heap_alloc_new w _) (j:=1) rfl
 ·exact row_cell (heap_alloc_new w _) (j:=2) rfl
 ·exact row_cell (heap_alloc_new w _) (j:=3) rfl
 ·exact row_cell (heap_alloc_new w _) (j:=4) rfl
 ·exact row_cell (heap_alloc_new w _) (j:=5) rfl
theorem ex_tab (w:World):Calls Tryz.prog 111 #[] w fun e w'=>∃ ao,e = .returned (.slice ao 6 6)∧Hid (Nats .i64 w' ao [17,25,34,42,49,58])∧Below w.heap.size w w':=by
 have HN:=hid (nats_tab6 w 17 25 34 42 49 58)
 go_enter Tryz.func111,Tryz.ntmps111
 go_wp2_with fail
 go_ret
 exact ⟨_,rfl,HN,below_new _ _⟩
theorem ex_rtk (r:Rec):exF.tk r=rtk [17,25,34,42,49,58] r:=by
 rw[exF_tk]
 unfold rtk
 rw[Bool.eq_iff_iff]
 simp
 omega
open Go.RowKit
theorem ex_un (X:ByteArray)(d:Int)(w:World)(hX:X.size≤500000)(hd:-9223372036854775808≤d∧d≤9223372036854775807) :
    Calls Tryz.prog 107 #[.string X,.int .i64 d] w (RdPost exCel exzero (exrd X.data.toList d) X.size w):=unex_if X d (hid (fun _ _ _=>ukey_any)) w hX hd
open Go.RowKit
theorem nats_new (w:World)(l:List Nat)(T:TypeId):Nats .i64 (w.alloc (.cells (l.map fun n:Nat=>Value.int .i64 (n:Int)).toArray T)) (some ⟨w.heap.size,0,none⟩) l:=fun _ =>
  ⟨w.heap.size,0,rfl,by simp,fun j hj=>row_cell (heap_alloc_new w _) (by rw[Nat.zero_add];simp[List.getElem?_eq_getElem hj])⟩
theorem tabV_any (w:World):Calls Tryz.prog 163 #[] w fun e w'=>∃ ao,e = .returned (.slice ao 7 7)∧Hid (Nats .i64 w' ao [10,16,24,33,42,50,58])∧Below w.heap.size w w':=by
  have HN:=hid (nats_new w [10,16,24,33,42,50,58] 3)
  go_enter Tryz.func163,Tryz.ntmps163
  go_wp2_with fail
  go_ret
  exact ⟨_,rfl,HN,below_new _ _⟩
theorem tabK_any (w:World):Calls Tryz.prog 112 #[] w fun e w'=>∃ ao,e = .returned (.slice ao 2 2)∧Hid (Nats .i64 w' ao [10,18])∧Below w.heap.size w w':=by
  have HN:=hid (nats_new w [10,18] 3)
  go_enter Tryz.func112,Tryz.ntmps112
  go_wp2_with fail
  go_ret
  exact ⟨_,rfl,HN,below_new _ _⟩
theorem tabI_any (w:World):Calls Tryz.prog 195 #[] w fun e w'=>∃ ao,e = .returned (.slice ao 1 1)∧Hid (Nats .i64 w' ao [10])∧Below w.heap.size w w':=by
  have HN:=hid (nats_new w [10] 3)
  go_enter Tryz.func195,Tryz.ntmps195
  go_wp2_with fail
  go_ret
  exact ⟨_,rfl,HN,below_new _ _⟩
theorem vtk_rtk (r:Rec):vtk r=rtk [10,16,24,33,42,50,58] r:=by
  unfold vtk rtk
  rw[Bool.eq_iff_iff]
  simp
  omega
theorem ktk_rtk (r:Rec):ktk r=rtk [10,18] r:=by
  unfold ktk rtk
  rw[Bool.eq_iff_iff]
  simp
  omega
theorem itk_rtk (r:Rec):itk r=rtk [10] r:=by
  unfold itk rtk
  rw[Bool.eq_iff_iff]
  simp
  omega
theorem ba_eta8 (X:ByteArray):(⟨X.data.toList.toArray⟩:ByteArray)=X:=ByteArray.ext (by simp)
theorem text8_key (X:ByteArray)(w:World)(hX:X.size≤1000000):Calls Tryz.prog 113 #[.string X] w fun e w'=>e = .returned (.bool (uvalid X.data.toList))∧w=w':=by
  have HB:=hid (rbad_any X w hX)
  go_enter Tryz.func113,Tryz.ntmps113
  go_wp2_with fail
  refine HB.out.mono ?_;rintro e w' ⟨rfl,rfl⟩
  go_wp2_with fail
  go_ret
  exact ⟨rfl,rfl⟩
end Go.Proofs.YtjbingoliffjiaaGreatDoor
