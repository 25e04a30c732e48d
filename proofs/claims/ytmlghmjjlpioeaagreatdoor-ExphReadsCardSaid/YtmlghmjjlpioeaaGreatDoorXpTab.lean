/-
  XpKMar, XpTab
-/
import Derived.Test.YtmlghmjjlpioeaaGreatDoorXpRel
import Derived.Deep.Cut
import Derived.Deep.MidRow
import Derived.Test.YtmlghmjjlpioeaaGreatDoorRefBuk
set_option maxRecDepth 1000000
set_option maxHeartbeats 16000000
namespace Go.Proofs.YtmlghmjjlpioeaaGreatDoor
open Go.RowKit
open Lib (hid)
theorem jg {w:World}{g:Nat}{cs:List Value}{T:TypeId}{fr:Nat × Nat}(h:w.heap[g]?=some (.cells cs.toArray T fr)):w.rangeAt g 0 cs:=fun j v hj=>by
 rw[Nat.zero_add];exact za h (by simpa using hj)
theorem zax (w:World)(a0 a1 a2 a3 a4 a5 a6 a7 a8 a9 a10 a11 a12 a13:Nat):Nats .i64 (w.alloc (.cells #[.int .i64 a0,.int .i64 a1,.int .i64 a2,.int .i64 a3,.int .i64 a4,.int .i64 a5,.int .i64 a6,.int .i64 a7,.int .i64 a8,.int .i64 a9,.int .i64 a10,.int .i64 a11,.int .i64 a12,.int .i64 a13] 3)) (some ⟨w.heap.size,0,none⟩) [a0,a1,a2,a3,a4,a5,a6,a7,a8,a9,a10,a11,a12,a13]:=by
 intro _;refine⟨w.heap.size,0,rfl,by simp,fun j hj=>?_⟩;have:j=0∨j=1∨j=2∨j=3∨j=4∨j=5∨j=6∨j=7∨j=8∨j=9∨j=10∨j=11∨j=12∨j=13:=by simp at hj;omega
 rcases this with rfl|rfl|rfl|rfl|rfl|rfl|rfl|rfl|rfl|rfl|rfl|rfl|rfl|rfl
 ·exact za (heap_alloc_new w _) (j:=0) rfl
 ·exact za (heap_alloc_new w _) (j:=1) rfl
 ·exact za (heap_alloc_new w _) (j:=2) rfl
 ·exact za (heap_alloc_new w _) (j:=3) rfl
 ·exact za (heap_alloc_new w _) (j:=4) rfl
 ·exact za (heap_alloc_new w _) (j:=5) rfl
 ·exact za (heap_alloc_new w _) (j:=6) rfl
 ·exact za (heap_alloc_new w _) (j:=7) rfl
 ·exact za (heap_alloc_new w _) (j:=8) rfl
 ·exact za (heap_alloc_new w _) (j:=9) rfl
 ·exact za (heap_alloc_new w _) (j:=10) rfl
 ·exact za (heap_alloc_new w _) (j:=11) rfl
 ·exact za (heap_alloc_new w _) (j:=12) rfl
 ·exact za (heap_alloc_new w _) (j:=13) rfl
theorem xp_tab (w:World):Calls Tryz.prog 24 #[] w fun e w'=>∃ao,e=.returned (.slice ao 14 14)/\Hid (Nats .i64 w' ao [10,17,25,33,41,48,57,66,74,80,90,97,105,113])/\Below w.heap.size w w':=by
 have HN:=hid (zax w 10 17 25 33 41 48 57 66 74 80 90 97 105 113);go_enter Tryz.func24,Tryz.ntmps24;go_wp2_with fail;go_ret;exact⟨_,rfl,HN,zd _ _⟩
theorem xp_rtk (r:Rec):xrF.tk r=rtk [10,17,25,33,41,48,57,66,74,80,90,97,105,113] r:=by
 rw[Jj];unfold rtk
 simp only[List.any_cons,List.any_nil,Bool.or_false,Nat.reduceDiv,Nat.reduceMod]
 rw[Bool.eq_iff_iff]
 simp only[decide_eq_true_eq,Bool.or_eq_true]
 constructor
 ·rintro(⟨h1,h2⟩|⟨h1,h2⟩|⟨h1,h2⟩|⟨h1,h2⟩|⟨h1,h2⟩|⟨h1,h2⟩|⟨h1,h2⟩|⟨h1,h2⟩|⟨h1,h2⟩|⟨h1,h2⟩|⟨h1,h2⟩|⟨h1,h2⟩|⟨h1,h2⟩|⟨h1,h2⟩)
  all_goals simp[h1,h2]
 ·rintro(⟨h1,h2⟩|⟨h1,h2⟩|⟨h1,h2⟩|⟨h1,h2⟩|⟨h1,h2⟩|⟨h1,h2⟩|⟨h1,h2⟩|⟨h1,h2⟩|⟨h1,h2⟩|⟨h1,h2⟩|⟨h1,h2⟩|⟨h1,h2⟩|⟨h1,h2⟩|⟨h1,h2⟩)
  all_goals simp[<-h1,<-h2]
end Go.Proofs.YtmlghmjjlpioeaaGreatDoor
