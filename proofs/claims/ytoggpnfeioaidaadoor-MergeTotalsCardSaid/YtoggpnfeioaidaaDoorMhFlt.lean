/-
  CkTot, MhFlt
-/
import Derived.Test.YtoggpnfeioaidaaDoorNumsK
import Derived.Test.YtoggpnfeioaidaaDoorFaddLess
import Derived.Test.YtoggpnfeioaidaaDoorWireRA
set_option maxRecDepth 1000000
set_option maxHeartbeats 16000000
namespace Go.Proofs.YtoggpnfeioaidaaDoor
open Go.RowKit
def Lists (w:World) (ao:Option Addr) (ls:List (List Nat)):Prop:=∀ j (h:j<ls.length),∃ g off bo cap,ao=some ⟨g,off,none⟩∧w.cell? ⟨g,off+j,none⟩=some (.slice bo ls[j].length cap)∧Nats .u64 w bo ls[j]
def lessF (a b:Nat):Bool:=decide (Fm.cls a≠4)&&(decide (Fm.cls b≠4)&&decide (Fm.num a<Fm.num b))
theorem number_nan (a:Nat) (w:World) (ha:a<2^64) {c:Int} (C:Hid (c=(Fm.cls a:Nat))) (h4:(c == 4)=true) :
  Calls Tryd.prog 67 #[.int .u64 a] w fun x w'=>x = .returned (.tuple #[.int .i64 0,.bool false])∧w=w':=by
 go_enter Tryd.func67,Tryd.ntmps67
 go_wp2_with fail
 refine (class_is a _ ha C).mono ?_;rintro e w' ⟨rfl,rfl⟩
 go_wp2_with fail
 go_ret2
 exact ⟨rfl,rfl⟩
theorem number_all (a:Nat) (w:World) (ha:a<2^64):Calls Tryd.prog 67 #[.int .u64 a] w fun x w'=>(∃ v:Int,Hid (Fm.cls a≠4→v=Fm.num a)∧x = .returned (.tuple #[.int .i64 v,.bool (decide (Fm.cls a≠4))]))∧w=w':=by
 by_cases h:Fm.cls a=4
 ·refine (number_nan a w ha (Lib.hid (rfl:((Fm.cls a:Nat):Int)=_)) (by rw[h];rfl)).mono ?_
  rintro e w' ⟨rfl,rfl⟩
  exact ⟨⟨0,Lib.hid (fun h'=>absurd h h'),by rw[decide_eq_false (by simpa using h)]⟩,rfl⟩
 ·refine (number_at a _ w ha (Lib.hid h) (Lib.hid rfl)).mono ?_
  rintro e w' ⟨rfl,rfl⟩
  exact ⟨⟨_,Lib.hid (fun _=>rfl),by rw[decide_eq_true h]⟩,rfl⟩
theorem less_any (a b:Nat) (w:World) (ha:a<2^64) (hb:b<2^64) {r:Bool} (hr:Hid (lessF a b=r)) :
  Calls Tryd.prog 47 #[.int .u64 a,.int .u64 b] w fun x w'=>x = .returned (.bool r)∧w=w':=by
 obtain ⟨p,HP⟩:∃ p,Hid (decide (Fm.cls a≠4)=p):=⟨_,Lib.hid rfl⟩
 obtain ⟨q,HQ⟩:∃ q,Hid (decide (Fm.cls b≠4)=q):=⟨_,Lib.hid rfl⟩
 go_enter Tryd.func47,Tryd.ntmps47
 go_wp2_with fail
 refine (number_all a _ ha).mono ?_;rintro e w' ⟨⟨v,HV,rfl⟩,rfl⟩
 rw[HP.out]
 go_wp2_with fail
 refine (number_all b _ hb).mono ?_;rintro e w' ⟨⟨u,HU,rfl⟩,rfl⟩
 rw[HQ.out]
 have hr2:(p&&(q&&decide (v<u)))=r:=by
  rw[←hr.out];unfold lessF
  rw[HP.out,HQ.out]
  cases p with
  | false=>rfl
  | true =>
   cases q with
   | false=>rfl
   | true =>
    have h1:=HV.out (of_decide_eq_true HP.out)
    have h2:=HU.out (of_decide_eq_true HQ.out)
    rw[h1,h2]
 cases p with
 | false =>
  go_wp2_with fail
  go_ret
  exact ⟨ret_bool (by simpa using hr2),rfl⟩
 | true =>
  cases q with
  | false =>
   go_wp2_with fail
   go_ret
   exact ⟨ret_bool (by simpa using hr2),rfl⟩
  | true =>
   go_wp2_with fail
   go_ret
   exact ⟨ret_bool (by simpa using hr2),rfl⟩
open Go.RowKit
def instF (a b:Nat):Bool:=decide (Fm.cls a=4)&&decide (Fm.cls b≠4)
def minF (a b:Nat):Nat:=if (lessF b a||instF a b)=true then b else a
def maxF (a b:Nat):Nat:=if (lessF a b||instF a b)=true then b else a
theorem inst_any (a b:Nat) (w:World) (ha:a<2^64) (hb:b<2^64) {r:Bool} (hr:Hid (instF a b=r)) :
  Calls Tryd.prog 48 #[.int .u64 a,.int .u64 b] w fun x w'=>x = .returned (.bool r)∧w=w':=by
 obtain ⟨c,C⟩:∃ c:Int,Hid (c=(Fm.cls a:Nat)):=⟨_,Lib.hid rfl⟩
 obtain ⟨d,D⟩:∃ c:Int,Hid (c=(Fm.cls b:Nat)):=⟨_,Lib.hid rfl⟩
 by_cases h:Fm.cls a=4
 ·have e1:(c == 4)=true:=by rw[beq_iff_eq,C.out,h];rfl
  have hr2:(d != 4)=r:=by
   rw[←hr.out];unfold instF
   rw[decide_eq_true h,Bool.true_and,D.out]
   by_cases h2:Fm.cls b=4
   ·rw[h2];rfl
   ·rw[decide_eq_true h2,bne_iff_ne];omega
  clear h
  go_enter Tryd.func48,Tryd.ntmps48
  go_wp2_with fail
  refine (class_is a _ ha C).mono ?_;rintro e w' ⟨rfl,rfl⟩
  go_wp2_with fail
  refine (class_is b _ hb D).mono ?_;rintro e w' ⟨rfl,rfl⟩
  go_wp2_with fail
  go_ret
  exact ⟨ret_bool (by simp),rfl⟩
 ·have e1:(c == 4)=false:=by rw[beq_eq_false_iff_ne,C.out];omega
  obtain rfl:r=false:=by rw[←hr.out];unfold instF;rw[decide_eq_false h,Bool.false_and]
  clear h
  go_enter Tryd.func48,Tryd.ntmps48
  go_wp2_with fail
  refine (class_is a _ ha C).mono ?_;rintro e w' ⟨rfl,rfl⟩
  go_wp2_with fail
  go_ret
  exact ⟨rfl,rfl⟩
theorem min_any (a b:Nat) (w:World) (ha:a<2^64) (hb:b<2^64) {R:Nat} (hR:Hid (minF a b=R)) :
  Calls Tryd.prog 24 #[.int .u64 a,.int .u64 b] w fun x w'=>x = .returned (.int .u64 (R:Int))∧w=w':=by
 obtain ⟨p,HP⟩:∃ p,Hid (lessF b a=p):=⟨_,Lib.hid rfl⟩
 obtain ⟨q,HQ⟩:∃ q,Hid (instF a b=q):=⟨_,Lib.hid rfl⟩
 have HRR:Hid ((if (p||q)=true then b else a)=R):=Lib.hid (by have h:=hR.out;unfold minF at h;rw[HP.out,HQ.out] at h;exact h)
 go_enter Tryd.func24,Tryd.ntmps24
 go_wp2_with fail
 refine (less_any b a _ hb ha HP).mono ?_;rintro e w' ⟨rfl,rfl⟩
 cases p with
 | true =>
  have hb2:b=R:=HRR.out
  subst hb2
  go_wp2_with fail
  go_ret
  exact ⟨rfl,rfl⟩
 | false =>
  go_wp2_with fail
  refine (inst_any a b _ ha hb HQ).mono ?_;rintro e w' ⟨rfl,rfl⟩
  cases q with
  | true =>
   have hb2:b=R:=HRR.out
   subst hb2
   go_wp2_with fail
   go_ret
   exact ⟨rfl,rfl⟩
  | false =>
   have hb2:a=R:=HRR.out
   subst hb2
   go_wp2_with fail
   go_ret
   exact ⟨rfl,rfl⟩
theorem max_any (a b:Nat) (w:World) (ha:a<2^64) (hb:b<2^64) {R:Nat} (hR:Hid (maxF a b=R)) :
  Calls Tryd.prog 25 #[.int .u64 a,.int .u64 b] w fun x w'=>x = .returned (.int .u64 (R:Int))∧w=w':=by
 obtain ⟨p,HP⟩:∃ p,Hid (lessF a b=p):=⟨_,Lib.hid rfl⟩
 obtain ⟨q,HQ⟩:∃ q,Hid (instF a b=q):=⟨_,Lib.hid rfl⟩
 have HRR:Hid ((if (p||q)=true then b else a)=R):=Lib.hid (by have h:=hR.out;unfold maxF at h;rw[HP.out,HQ.out] at h;exact h)
 go_enter Tryd.func25,Tryd.ntmps25
 go_wp2_with fail
 refine (less_any a b _ ha hb HP).mono ?_;rintro e w' ⟨rfl,rfl⟩
 cases p with
 | true =>
  have hb2:b=R:=HRR.out
  subst hb2
  go_wp2_with fail
  go_ret
  exact ⟨rfl,rfl⟩
 | false =>
  go_wp2_with fail
  refine (inst_any a b _ ha hb HQ).mono ?_;rintro e w' ⟨rfl,rfl⟩
  cases q with
  | true =>
   have hb2:b=R:=HRR.out
   subst hb2
   go_wp2_with fail
   go_ret
   exact ⟨rfl,rfl⟩
  | false =>
   have hb2:a=R:=HRR.out
   subst hb2
   go_wp2_with fail
   go_ret
   exact ⟨rfl,rfl⟩
def bothO (f:Nat→Nat→Nat) (a b:Bool × Nat):Bool × Nat:=if (a.1&&b.1)=true then (true,f a.2 b.2) else (false,0)
theorem both_o (f:Nat→Nat→Nat) (F:Nat) (b1 b2:Bool) (n1 n2:Nat) (hF:Hid (∀ w,Calls Tryd.prog F #[.int .u64 (n1:Int),.int .u64 (n2:Int)] w fun e w'=>e = .returned (.int .u64 (f n1 n2:Int))∧w=w'))
  (HE:∀ (args:Array Value) (w:World),(callFunc F args).run Tryd.prog w = .ok (.enter F args) w) (w:World) :
  Calls Tryd.prog 22 #[.agg #[.bool b1,.int .u64 (n1:Int)],.agg #[.bool b2,.int .u64 (n2:Int)],.func (.func F) #[] #[]] w fun e w'=>e = .returned (.agg #[.bool (bothO f (b1,n1) (b2,n2)).1,.int .u64 ((bothO f (b1,n1) (b2,n2)).2:Int)])∧Below w.heap.size w w':=by
 obtain ⟨a1,HA1⟩:∃ b,Hid (w.heap.size=b):=⟨_,Lib.hid rfl⟩
 obtain ⟨a3,HA3⟩:∃ b,Hid (a1+1+1=b):=⟨_,Lib.hid rfl⟩
 obtain ⟨W1,HW1⟩:∃ W,Hid ((w.alloc (.cells #[.bool b1,.int .u64 (n1:Int)] 25)).alloc (.cells #[.bool b2,.int .u64 (n2:Int)] 25)=W):=⟨_,Lib.hid rfl⟩
 obtain ⟨W,HW⟩:∃ W,Hid (W1.alloc (.cells #[.bool false,.int .u64 0] 25)=W):=⟨_,Lib.hid rfl⟩
 have hb1:Below w.heap.size w W1:=by rw[←HW1.out];exact below_step (below_new _ _) (below_new _ _)
 have hs1:W1.heap.size=a1+1+1:=by rw[←HW1.out,←HA1.out];simp
 have hb2:Below W1.heap.size W1 W:=by rw[←HW.out];exact below_new _ _
 have HB:Hid (Below w.heap.size w W):=Lib.hid (below_step hb1 hb2)
 have h1:W1.heap[a1]? = some (.cells #[.bool b1,.int .u64 (n1:Int)] 25 (0,0)):=by rw[←HW1.out,←HA1.out];exact (Below.heap_alloc _ _ _ (by simp)).trans (heap_alloc_new w _)
 have h2:W1.heap[a1+1]? = some (.cells #[.bool b2,.int .u64 (n2:Int)] 25 (0,0)):=by
  rw[←HW1.out,←HA1.out]
  have h:=heap_alloc_new (w.alloc (.cells #[.bool b1,.int .u64 (n1:Int)] 25)) (.cells #[.bool b2,.int .u64 (n2:Int)] 25)
  rwa [show (w.alloc (.cells #[.bool b1,.int .u64 (n1:Int)] 25)).heap.size=w.heap.size+1 by simp] at h
 have HX1:=Lib.hid ((hb2.block _ (row_lt h1)).trans h1)
 have HX2:=Lib.hid ((hb2.block _ (row_lt h2)).trans h2)
 have HX3:Hid (W.heap[a3]? = some (.cells #[.bool false,.int .u64 0] 25 (0,0))):=Lib.hid (by rw[←HW.out,←HA3.out,←hs1];exact heap_alloc_new W1 _)
 clear hb1 hs1 hb2 h1 h2
 go_enter Tryd.func22,Tryd.ntmps22
 go_upto_region 1 with fail
 (try rw[HW1.out,HA1.out])
 (try rw[HW.out,HA3.out])
 have e10:W.cell? ⟨a1,0,none⟩=some (.bool b1):=row_cell HX1.out (j:=0) rfl
 have e20:W.cell? ⟨a1+1,0,none⟩=some (.bool b2):=row_cell HX2.out (j:=0) rfl
 have HGE:Hid (w.heap.size≤a3∧a3<W.heap.size):=Lib.hid ⟨by have:=HA1.out;have:=HA3.out;omega,row_lt HX3.out⟩
 have HSET:∀ {w':World} {x y:Value},w'.heap[a3]? = some (.cells #[.bool false,.int .u64 0] 25 (0,0))→Below w.heap.size w w'→((w'.setCell ⟨a3,0,none⟩ x).setCell ⟨a3,1,none⟩ y).heap[a3]? = some (.cells #[x,y] 25 (0,0))∧Below w.heap.size w ((w'.setCell ⟨a3,0,none⟩ x).setCell ⟨a3,1,none⟩ y):=fun {w' x y} h hb=>by
  have h1:(w'.setCell ⟨a3,0,none⟩ x).heap[a3]? = some (.cells #[x,.int .u64 0] 25 (0,0)):=row_set h 0 x
  have h2:((w'.setCell ⟨a3,0,none⟩ x).setCell ⟨a3,1,none⟩ y).heap[a3]? = some (.cells #[x,y] 25 (0,0)):=row_set h1 1 y
  have hu:Upd (fun k=>k=a3) w' ((w'.setCell ⟨a3,0,none⟩ x).setCell ⟨a3,1,none⟩ y):=(Upd.set w' ⟨a3,0,none⟩ x).trans (Upd.set _ ⟨a3,1,none⟩ y)
  exact ⟨h2,hb.trans (hu.below hb.size (fun k _ hk=>by have hk:k=a3:=hk;have:=HGE.out;omega))⟩
 cases b1 with
 | false =>
  have z0:W.frozen? ⟨a3,0,none⟩=false:=row_thaw HX3.out 0
  have z1:W.frozen? ⟨a3,1,none⟩=false:=row_thaw HX3.out 1
  have g0:W.cell? ⟨a3,0,none⟩=some (.bool false):=row_cell HX3.out (j:=0) rfl
  have g1:W.cell? ⟨a3,1,none⟩=some (.int .u64 0):=row_cell HX3.out (j:=1) rfl
  have HQ:=HSET (x := .bool false) (y := .int .u64 0) HX3.out HB.out
  go_wp2_with fail
  (try simp only[Exit.inBlock,Exit.then])
  refine body_cell1 rfl rfl (run_loadVar_row _ a3 25 25 _ (0,0) _ HQ.1 Tryd.underlying25 rfl (by kernel_rfl)) rfl ?_
  exact ⟨rfl,HQ.2⟩
 | true =>
 cases b2 with
 | false =>
  have z0:W.frozen? ⟨a3,0,none⟩=false:=row_thaw HX3.out 0
  have z1:W.frozen? ⟨a3,1,none⟩=false:=row_thaw HX3.out 1
  have g0:W.cell? ⟨a3,0,none⟩=some (.bool false):=row_cell HX3.out (j:=0) rfl
  have g1:W.cell? ⟨a3,1,none⟩=some (.int .u64 0):=row_cell HX3.out (j:=1) rfl
  have HQ:=HSET (x := .bool false) (y := .int .u64 0) HX3.out HB.out
  go_wp2_with fail
  (try simp only[Exit.inBlock,Exit.then])
  refine body_cell1 rfl rfl (run_loadVar_row _ a3 25 25 _ (0,0) _ HQ.1 Tryd.underlying25 rfl (by kernel_rfl)) rfl ?_
  exact ⟨rfl,HQ.2⟩
 | true =>
  have e11:W.cell? ⟨a1,1,none⟩=some (.int .u64 (n1:Int)):=row_cell HX1.out (j:=1) rfl
  have e21:W.cell? ⟨a1+1,1,none⟩=some (.int .u64 (n2:Int)):=row_cell HX2.out (j:=1) rfl
  go_wp2_with fail
  refine (hF.out W).mono ?_;rintro e w' ⟨rfl,rfl⟩
  have z0:W.frozen? ⟨a3,0,none⟩=false:=row_thaw HX3.out 0
  have z1:W.frozen? ⟨a3,1,none⟩=false:=row_thaw HX3.out 1
  have g0:W.cell? ⟨a3,0,none⟩=some (.bool false):=row_cell HX3.out (j:=0) rfl
  have g1:W.cell? ⟨a3,1,none⟩=some (.int .u64 0):=row_cell HX3.out (j:=1) rfl
  have HQ:=HSET (x := .bool true) (y := .int .u64 (f n1 n2:Int)) HX3.out HB.out
  go_wp2_with fail
  (try simp only[Exit.inBlock,Exit.then])
  refine body_cell1 rfl rfl (run_loadVar_row _ a3 25 25 _ (0,0) _ HQ.1 Tryd.underlying25 rfl (by kernel_rfl)) rfl ?_
  exact ⟨rfl,HQ.2⟩
end Go.Proofs.YtoggpnfeioaidaaDoor
