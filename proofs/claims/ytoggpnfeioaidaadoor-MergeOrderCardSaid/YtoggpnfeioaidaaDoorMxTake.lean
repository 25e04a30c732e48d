/-
  MhFlt, MxTake
-/
import Derived.Test.YtoggpnfeioaidaaDoorCkTot
import Derived.Test.YtoggpnfeioaidaaDoorWireRA
import Derived.Test.YtoggpnfeioaidaaDoorHiBack
import Derived.Test.YtoggpnfeioaidaaDoorBukRef
import Derived.Test.YtoggpnfeioaidaaDoorMgAdd1
import Derived.Test.YtoggpnfeioaidaaDoorMgPlaces
import Derived.Test.YtoggpnfeioaidaaDoorFrXp
set_option maxRecDepth 1000000
set_option maxHeartbeats 16000000
namespace Go.Proofs.YtoggpnfeioaidaaDoor
open Go.RowKit
def instF (a b:Nat):Bool:=decide (Fm.cls a=4)&&decide (Fm.cls b≠4)
def minF (a b:Nat):Nat:=if (lessF b a||instF a b)=true then b else a
def maxF (a b:Nat):Nat:=if (lessF a b||instF a b)=true then b else a
theorem min_lt {a b:Nat} (ha:a<2^64) (hb:b<2^64):minF a b<2^64:=by unfold minF;split<;>assumption
theorem max_lt {a b:Nat} (ha:a<2^64) (hb:b<2^64):maxF a b<2^64:=by unfold maxF;split<;>assumption
theorem inst_any (a b:Nat) (w:World) (ha:a<2^64) (hb:b<2^64) {r:Bool} (hr:Hid (instF a b=r)) :
  Calls Tryd.prog 48 #[.int .u64 a,.int .u64 b] w fun x w'=>x = .returned (.bool r)∧w=w':=by
 obtain ⟨c,C⟩:∃ c:Int,Hid (c=(Fm.cls a:Nat)):=⟨_,Lib.hid rfl⟩
 obtain ⟨d,D⟩:∃ c:Int,Hid (c=(Fm.cls b:Nat)):=⟨_,Lib.hid rfl⟩
 by_cases h:Fm.cls a=4
 ·have e1:(c == 4)=true:=by rw[beq_iff_eq,C.out,h];rfl
  have hr2:(d != 4)=r:=by
   rw[←hr.out];unfold instF
   rw[decide_eq_true h,Bool.true_and,D.out]
   by_cases h2:Fm.cls b=4
   ·rw[h2];rfl
   ·rw[decide_eq_true h2,bne_iff_ne];omega
  clear h
  go_enter Tryd.func48,Tryd.ntmps48
  go_wp2_with fail
  refine (class_is a _ ha C).mono ?_;rintro e w' ⟨rfl,rfl⟩
  go_wp2_with fail
  refine (class_is b _ hb D).mono ?_;rintro e w' ⟨rfl,rfl⟩
  go_wp2_with fail
  go_ret
  exact ⟨ret_bool (by simp),rfl⟩
 ·have e1:(c == 4)=false:=by rw[beq_eq_false_iff_ne,C.out];omega
  obtain rfl:r=false:=by rw[←hr.out];unfold instF;rw[decide_eq_false h,Bool.false_and]
  clear h
  go_enter Tryd.func48,Tryd.ntmps48
  go_wp2_with fail
  refine (class_is a _ ha C).mono ?_;rintro e w' ⟨rfl,rfl⟩
  go_wp2_with fail
  go_ret
  exact ⟨rfl,rfl⟩
theorem min_any (a b:Nat) (w:World) (ha:a<2^64) (hb:b<2^64) {R:Nat} (hR:Hid (minF a b=R)) :
  Calls Tryd.prog 24 #[.int .u64 a,.int .u64 b] w fun x w'=>x = .returned (.int .u64 (R:Int))∧w=w':=by
 obtain ⟨p,HP⟩:∃ p,Hid (lessF b a=p):=⟨_,Lib.hid rfl⟩
 obtain ⟨q,HQ⟩:∃ q,Hid (instF a b=q):=⟨_,Lib.hid rfl⟩
 have HRR:Hid ((if (p||q)=true then b else a)=R):=Lib.hid (by have h:=hR.out;unfold minF at h;rw[HP.out,HQ.out] at h;exact h)
 go_enter Tryd.func24,Tryd.ntmps24
 go_wp2_with fail
 refine (less_any b a _ hb ha HP).mono ?_;rintro e w' ⟨rfl,rfl⟩
 cases p with
 | true =>
  have hb2:b=R:=HRR.out
  subst hb2
  go_wp2_with fail
  go_ret
  exact ⟨rfl,rfl⟩
 | false =>
  go_wp2_with fail
  refine (inst_any a b _ ha hb HQ).mono ?_;rintro e w' ⟨rfl,rfl⟩
  cases q with
  | true =>
   have hb2:b=R:=HRR.out
   subst hb2
   go_wp2_with fail
   go_ret
   exact ⟨rfl,rfl⟩
  | false =>
   have hb2:a=R:=HRR.out
   subst hb2
   go_wp2_with fail
   go_ret
   exact ⟨rfl,rfl⟩
theorem max_any (a b:Nat) (w:World) (ha:a<2^64) (hb:b<2^64) {R:Nat} (hR:Hid (maxF a b=R)) :
  Calls Tryd.prog 25 #[.int .u64 a,.int .u64 b] w fun x w'=>x = .returned (.int .u64 (R:Int))∧w=w':=by
 obtain ⟨p,HP⟩:∃ p,Hid (lessF a b=p):=⟨_,Lib.hid rfl⟩
 obtain ⟨q,HQ⟩:∃ q,Hid (instF a b=q):=⟨_,Lib.hid rfl⟩
 have HRR:Hid ((if (p||q)=true then b else a)=R):=Lib.hid (by have h:=hR.out;unfold maxF at h;rw[HP.out,HQ.out] at h;exact h)
 go_enter Tryd.func25,Tryd.ntmps25
 go_wp2_with fail
 refine (less_any a b _ ha hb HP).mono ?_;rintro e w' ⟨rfl,rfl⟩
 cases p with
 | true =>
  have hb2:b=R:=HRR.out
  subst hb2
  go_wp2_with fail
  go_ret
  exact ⟨rfl,rfl⟩
 | false =>
  go_wp2_with fail
  refine (inst_any a b _ ha hb HQ).mono ?_;rintro e w' ⟨rfl,rfl⟩
  cases q with
  | true =>
   have hb2:b=R:=HRR.out
   subst hb2
   go_wp2_with fail
   go_ret
   exact ⟨rfl,rfl⟩
  | false =>
   have hb2:a=R:=HRR.out
   subst hb2
   go_wp2_with fail
   go_ret
   exact ⟨rfl,rfl⟩
def bothO (f:Nat→Nat→Nat) (a b:Bool × Nat):Bool × Nat:=if (a.1&&b.1)=true then (true,f a.2 b.2) else (false,0)
theorem both_o (f:Nat→Nat→Nat) (F:Nat) (b1 b2:Bool) (n1 n2:Nat) (hF:Hid (∀ w,Calls Tryd.prog F #[.int .u64 (n1:Int),.int .u64 (n2:Int)] w fun e w'=>e = .returned (.int .u64 (f n1 n2:Int))∧w=w'))
  (HE:∀ (args:Array Value) (w:World),(callFunc F args).run Tryd.prog w = .ok (.enter F args) w) (w:World) :
  Calls Tryd.prog 22 #[.agg #[.bool b1,.int .u64 (n1:Int)],.agg #[.bool b2,.int .u64 (n2:Int)],.func (.func F) #[] #[]] w fun e w'=>e = .returned (.agg #[.bool (bothO f (b1,n1) (b2,n2)).1,.int .u64 ((bothO f (b1,n1) (b2,n2)).2:Int)])∧Below w.heap.size w w':=by
 obtain ⟨a1,HA1⟩:∃ b,Hid (w.heap.size=b):=⟨_,Lib.hid rfl⟩
 obtain ⟨a3,HA3⟩:∃ b,Hid (a1+1+1=b):=⟨_,Lib.hid rfl⟩
 obtain ⟨W1,HW1⟩:∃ W,Hid ((w.alloc (.cells #[.bool b1,.int .u64 (n1:Int)] 25)).alloc (.cells #[.bool b2,.int .u64 (n2:Int)] 25)=W):=⟨_,Lib.hid rfl⟩
 obtain ⟨W,HW⟩:∃ W,Hid (W1.alloc (.cells #[.bool false,.int .u64 0] 25)=W):=⟨_,Lib.hid rfl⟩
 have hb1:Below w.heap.size w W1:=by rw[←HW1.out];exact below_step (below_new _ _) (below_new _ _)
 have hs1:W1.heap.size=a1+1+1:=by rw[←HW1.out,←HA1.out];simp
 have hb2:Below W1.heap.size W1 W:=by rw[←HW.out];exact below_new _ _
 have HB:Hid (Below w.heap.size w W):=Lib.hid (below_step hb1 hb2)
 have h1:W1.heap[a1]? = some (.cells #[.bool b1,.int .u64 (n1:Int)] 25 (0,0)):=by rw[←HW1.out,←HA1.out];exact (Below.heap_alloc _ _ _ (by simp)).trans (heap_alloc_new w _)
 have h2:W1.heap[a1+1]? = some (.cells #[.bool b2,.int .u64 (n2:Int)] 25 (0,0)):=by
  rw[←HW1.out,←HA1.out]
  have h:=heap_alloc_new (w.alloc (.cells #[.bool b1,.int .u64 (n1:Int)] 25)) (.cells #[.bool b2,.int .u64 (n2:Int)] 25)
  rwa [show (w.alloc (.cells #[.bool b1,.int .u64 (n1:Int)] 25)).heap.size=w.heap.size+1 by simp] at h
 have HX1:=Lib.hid ((hb2.block _ (row_lt h1)).trans h1)
 have HX2:=Lib.hid ((hb2.block _ (row_lt h2)).trans h2)
 have HX3:Hid (W.heap[a3]? = some (.cells #[.bool false,.int .u64 0] 25 (0,0))):=Lib.hid (by rw[←HW.out,←HA3.out,←hs1];exact heap_alloc_new W1 _)
 clear hb1 hs1 hb2 h1 h2
 go_enter Tryd.func22,Tryd.ntmps22
 go_upto_region 1 with fail
 (try rw[HW1.out,HA1.out])
 (try rw[HW.out,HA3.out])
 have e10:W.cell? ⟨a1,0,none⟩=some (.bool b1):=row_cell HX1.out (j:=0) rfl
 have e20:W.cell? ⟨a1+1,0,none⟩=some (.bool b2):=row_cell HX2.out (j:=0) rfl
 have HGE:Hid (w.heap.size≤a3∧a3<W.heap.size):=Lib.hid ⟨by have:=HA1.out;have:=HA3.out;omega,row_lt HX3.out⟩
 have HSET:∀ {w':World} {x y:Value},w'.heap[a3]? = some (.cells #[.bool false,.int .u64 0] 25 (0,0))→Below w.heap.size w w'→((w'.setCell ⟨a3,0,none⟩ x).setCell ⟨a3,1,none⟩ y).heap[a3]? = some (.cells #[x,y] 25 (0,0))∧Below w.heap.size w ((w'.setCell ⟨a3,0,none⟩ x).setCell ⟨a3,1,none⟩ y):=fun {w' x y} h hb=>by
  have h1:(w'.setCell ⟨a3,0,none⟩ x).heap[a3]? = some (.cells #[x,.int .u64 0] 25 (0,0)):=row_set h 0 x
  have h2:((w'.setCell ⟨a3,0,none⟩ x).setCell ⟨a3,1,none⟩ y).heap[a3]? = some (.cells #[x,y] 25 (0,0)):=row_set h1 1 y
  have hu:Upd (fun k=>k=a3) w' ((w'.setCell ⟨a3,0,none⟩ x).setCell ⟨a3,1,none⟩ y):=(Upd.set w' ⟨a3,0,none⟩ x).trans (Upd.set _ ⟨a3,1,none⟩ y)
  exact ⟨h2,hb.trans (hu.below hb.size (fun k _ hk=>by have hk:k=a3:=hk;have:=HGE.out;omega))⟩
 cases b1 with
 | false =>
  have z0:W.frozen? ⟨a3,0,none⟩=false:=row_thaw HX3.out 0
  have z1:W.frozen? ⟨a3,1,none⟩=false:=row_thaw HX3.out 1
  have g0:W.cell? ⟨a3,0,none⟩=some (.bool false):=row_cell HX3.out (j:=0) rfl
  have g1:W.cell? ⟨a3,1,none⟩=some (.int .u64 0):=row_cell HX3.out (j:=1) rfl
  have HQ:=HSET (x := .bool false) (y := .int .u64 0) HX3.out HB.out
  go_wp2_with fail
  (try simp only[Exit.inBlock,Exit.then])
  refine body_cell1 rfl rfl (run_loadVar_row _ a3 25 25 _ (0,0) _ HQ.1 Tryd.underlying25 rfl (by kernel_rfl)) rfl ?_
  exact ⟨rfl,HQ.2⟩
 | true =>
 cases b2 with
 | false =>
  have z0:W.frozen? ⟨a3,0,none⟩=false:=row_thaw HX3.out 0
  have z1:W.frozen? ⟨a3,1,none⟩=false:=row_thaw HX3.out 1
  have g0:W.cell? ⟨a3,0,none⟩=some (.bool false):=row_cell HX3.out (j:=0) rfl
  have g1:W.cell? ⟨a3,1,none⟩=some (.int .u64 0):=row_cell HX3.out (j:=1) rfl
  have HQ:=HSET (x := .bool false) (y := .int .u64 0) HX3.out HB.out
  go_wp2_with fail
  (try simp only[Exit.inBlock,Exit.then])
  refine body_cell1 rfl rfl (run_loadVar_row _ a3 25 25 _ (0,0) _ HQ.1 Tryd.underlying25 rfl (by kernel_rfl)) rfl ?_
  exact ⟨rfl,HQ.2⟩
 | true =>
  have e11:W.cell? ⟨a1,1,none⟩=some (.int .u64 (n1:Int)):=row_cell HX1.out (j:=1) rfl
  have e21:W.cell? ⟨a1+1,1,none⟩=some (.int .u64 (n2:Int)):=row_cell HX2.out (j:=1) rfl
  go_wp2_with fail
  refine (hF.out W).mono ?_;rintro e w' ⟨rfl,rfl⟩
  have z0:W.frozen? ⟨a3,0,none⟩=false:=row_thaw HX3.out 0
  have z1:W.frozen? ⟨a3,1,none⟩=false:=row_thaw HX3.out 1
  have g0:W.cell? ⟨a3,0,none⟩=some (.bool false):=row_cell HX3.out (j:=0) rfl
  have g1:W.cell? ⟨a3,1,none⟩=some (.int .u64 0):=row_cell HX3.out (j:=1) rfl
  have HQ:=HSET (x := .bool true) (y := .int .u64 (f n1 n2:Int)) HX3.out HB.out
  go_wp2_with fail
  (try simp only[Exit.inBlock,Exit.then])
  refine body_cell1 rfl rfl (run_loadVar_row _ a3 25 25 _ (0,0) _ HQ.1 Tryd.underlying25 rfl (by kernel_rfl)) rfl ?_
  exact ⟨rfl,HQ.2⟩
open Go.RowKit
def AlP (r:Bool) (w:World) (E:Ending) (w':World):Prop:=Below w.heap.size w w'∧((r=true→E = .returned .nilIface)∧(r=false→∃ T v,E = .returned (.iface T v)∧EC w' (.iface T v) 13))
theorem alikeh_any (a1 t1 k1:Nat) (ph1:Bool) (pn1:Nat) (nc1 nb1:List Nat) (es1:List Ex) (l1:List KV) (f1:Nat) (mh1:Bool) (mn1:Nat) (gh1:Bool) (gn1:Nat) (u1:List UInt8) (lo1:Option Addr) (lc1:Nat) (nco1:Option Addr) (ncc1:Nat) (nbo1:Option Addr) (nbc1:Nat) (eo1:Option Addr) (ec1:Nat) (a2 t2 k2:Nat) (ph2:Bool) (pn2:Nat) (nc2 nb2:List Nat) (es2:List Ex) (l2:List KV) (f2:Nat) (mh2:Bool) (mn2:Nat) (gh2:Bool) (gn2:Nat) (u2:List UInt8) (lo2:Option Addr) (lc2:Nat) (nco2:Option Addr) (ncc2:Nat) (nbo2:Option Addr) (nbc2:Nat) (eo2:Option Addr) (ec2:Nat) (w:World) (hN1:Hid (Nats .u64 w nbo1 nb1)) (hN2:Hid (Nats .u64 w nbo2 nb2)) (hl:nb1.length≤1000000) {r:Bool} (hr:Hid (decide (nb1=nb2∧nc1.length=nc2.length)=r)) :
  Calls Tryd.prog 30 #[.agg #[.slice lo1 l1.length lc1,.int .u64 (a1:Int),.int .u64 (t1:Int),.int .u64 (k1:Int),.bool ph1,.int .u64 (pn1:Int),.bool mh1,.int .u64 (mn1:Int),.bool gh1,.int .u64 (gn1:Int),.slice nco1 nc1.length ncc1,.slice nbo1 nb1.length nbc1,.slice eo1 es1.length ec1,.int .u32 (f1:Int),strV u1],.agg #[.slice lo2 l2.length lc2,.int .u64 (a2:Int),.int .u64 (t2:Int),.int .u64 (k2:Int),.bool ph2,.int .u64 (pn2:Int),.bool mh2,.int .u64 (mn2:Int),.bool gh2,.int .u64 (gn2:Int),.slice nco2 nc2.length ncc2,.slice nbo2 nb2.length nbc2,.slice eo2 es2.length ec2,.int .u32 (f2:Int),strV u2]] w (AlP r w):=by
 obtain ⟨b1,HNb1⟩:∃ b,Hid (w.heap.size=b):=⟨_,Lib.hid rfl⟩
 obtain ⟨b2,HNb2⟩:∃ b,Hid (b1+1=b):=⟨_,Lib.hid rfl⟩
 obtain ⟨W_0,HW_0⟩:∃ X,Hid (w.alloc (.cells #[.slice lo1 l1.length lc1,.int .u64 (a1:Int),.int .u64 (t1:Int),.int .u64 (k1:Int),.bool ph1,.int .u64 (pn1:Int),.bool mh1,.int .u64 (mn1:Int),.bool gh1,.int .u64 (gn1:Int),.slice nco1 nc1.length ncc1,.slice nbo1 nb1.length nbc1,.slice eo1 es1.length ec1,.int .u32 (f1:Int),strV u1] 48)=X):=⟨_,Lib.hid rfl⟩
 have hbW_0:Below w.heap.size w W_0:=by rw[←HW_0.out];exact below_new _ _
 have hzW_0:W_0.heap.size=b1+1:=by rw[←HW_0.out];simp;exact HNb1.out
 have hxb1:W_0.heap[b1]? = some (.cells #[.slice lo1 l1.length lc1,.int .u64 (a1:Int),.int .u64 (t1:Int),.int .u64 (k1:Int),.bool ph1,.int .u64 (pn1:Int),.bool mh1,.int .u64 (mn1:Int),.bool gh1,.int .u64 (gn1:Int),.slice nco1 nc1.length ncc1,.slice nbo1 nb1.length nbc1,.slice eo1 es1.length ec1,.int .u32 (f1:Int),strV u1] 48 (0,0)):=by rw[←HW_0.out,←HNb1.out];exact heap_alloc_new w _
 obtain ⟨W,HW⟩:∃ X,Hid (W_0.alloc (.cells #[.slice lo2 l2.length lc2,.int .u64 (a2:Int),.int .u64 (t2:Int),.int .u64 (k2:Int),.bool ph2,.int .u64 (pn2:Int),.bool mh2,.int .u64 (mn2:Int),.bool gh2,.int .u64 (gn2:Int),.slice nco2 nc2.length ncc2,.slice nbo2 nb2.length nbc2,.slice eo2 es2.length ec2,.int .u32 (f2:Int),strV u2] 48)=X):=⟨_,Lib.hid rfl⟩
 have hbW:Below W_0.heap.size W_0 W:=by rw[←HW.out];exact below_new _ _
 have hzW:W.heap.size=b1+1+1:=by rw[←HW.out];simp;exact hzW_0
 have hxb2:W.heap[b2]? = some (.cells #[.slice lo2 l2.length lc2,.int .u64 (a2:Int),.int .u64 (t2:Int),.int .u64 (k2:Int),.bool ph2,.int .u64 (pn2:Int),.bool mh2,.int .u64 (mn2:Int),.bool gh2,.int .u64 (gn2:Int),.slice nco2 nc2.length ncc2,.slice nbo2 nb2.length nbc2,.slice eo2 es2.length ec2,.int .u32 (f2:Int),strV u2] 48 (0,0)):=by rw[←HW.out,←HNb2.out,←hzW_0];exact heap_alloc_new W_0 _
 have hxb1':=(hbW.block _ (row_lt hxb1)).trans hxb1
 have HXb1:=Lib.hid hxb1'
 have HXb2:=Lib.hid hxb2
 have HBW:Hid (Below w.heap.size w W):=Lib.hid (below_step hbW_0 hbW)
 clear hbW_0 hzW_0 hbW hzW hxb1 hxb1' hxb2
 obtain ⟨q,HQ⟩:∃ q,Hid (decide (nb1=nb2)=q):=⟨_,Lib.hid rfl⟩
 go_enter Tryd.func30,Tryd.ntmps30
 go_upto_region 1 with fail
 (try rw[HW_0.out])
 (try rw[HW.out])
 rw[HNb1.out,HNb2.out]
 have c10:W.cell? ⟨b1,10,none⟩=some (.slice nco1 nc1.length ncc1):=row_cell HXb1.out (j:=10) rfl
 have c11:W.cell? ⟨b1,11,none⟩=some (.slice nbo1 nb1.length nbc1):=row_cell HXb1.out (j:=11) rfl
 have d10:W.cell? ⟨b2,10,none⟩=some (.slice nco2 nc2.length ncc2):=row_cell HXb2.out (j:=10) rfl
 have d11:W.cell? ⟨b2,11,none⟩=some (.slice nbo2 nb2.length nbc2):=row_cell HXb2.out (j:=11) rfl
 have HM1:=Lib.hid (hN1.out.below HBW.out)
 have HM2:=Lib.hid (hN2.out.below HBW.out)
 go_wp2_with fail
 refine (equal_any nbo1 nbo2 nbc1 nbc2 nb1 nb2 W HM1 HM2 (by omega) HQ).mono ?_
 rintro E w1 ⟨rfl,hb⟩
 have HB1:=Lib.hid (below_step HBW.out hb)
 have HY1:=Lib.hid ((hb.block _ (row_lt HXb1.out)).trans HXb1.out)
 have HY2:=Lib.hid ((hb.block _ (row_lt HXb2.out)).trans HXb2.out)
 clear hb c10 c11 d10 d11
 have c10:w1.cell? ⟨b1,10,none⟩=some (.slice nco1 nc1.length ncc1):=row_cell HY1.out (j:=10) rfl
 have d10:w1.cell? ⟨b2,10,none⟩=some (.slice nco2 nc2.length ncc2):=row_cell HY2.out (j:=10) rfl
 by_cases hq:q=true∧nc1.length=nc2.length
 ·have hr2:r=true:=by rw[←hr.out];exact decide_eq_true ⟨of_decide_eq_true (HQ.out.trans hq.1),hq.2⟩
  obtain ⟨rfl,hl2⟩:=hq
  have d1:((nc1.length:Int) != (nc2.length:Int))=false:=by rw[bne_eq_false_iff_eq];omega
  clear hl2
  go_wp2_with fail
  go_ret
  exact ⟨HB1.out,fun _=>rfl,fun h=>(by rw[hr2] at h;cases h)⟩
 ·have HR2:Hid (r=false):=Lib.hid (by rw[←hr.out];exact decide_eq_false fun h=>hq ⟨HQ.out.symm.trans (decide_eq_true h.1),h.2⟩)
  cases q with
  | false =>
   clear hq
   go_wp2_with fail
   refine (in_any 7 _ _ w1).mono ?_;rintro E w2 ⟨rfl,hw2⟩
   have HB2:Hid (Below w.heap.size w w2):=Lib.hid (below_step HB1.out (by rw[hw2];exact below_new _ _))
   have HF2:Hid (EC w2 (.iface 97 (.pointer (some ⟨w1.heap.size,0,none⟩))) 13):=Lib.hid (by rw[hw2];exact ec_field ⟨[],rfl⟩)
   clear hw2
   go_wp2_with fail
   go_ret
   exact ⟨HB2.out,fun h=>(by rw[HR2.out] at h;cases h),fun _=>⟨_,_,rfl,HF2.out⟩⟩
  | true =>
   have d1:((nc1.length:Int) != (nc2.length:Int))=true:=by rw[bne_iff_ne];intro h;exact hq ⟨rfl,by omega⟩
   clear hq
   go_wp2_with fail
   refine (in_any 7 _ _ w1).mono ?_;rintro E w2 ⟨rfl,hw2⟩
   have HB2:Hid (Below w.heap.size w w2):=Lib.hid (below_step HB1.out (by rw[hw2];exact below_new _ _))
   have HF2:Hid (EC w2 (.iface 97 (.pointer (some ⟨w1.heap.size,0,none⟩))) 13):=Lib.hid (by rw[hw2];exact ec_field ⟨[],rfl⟩)
   clear hw2
   go_wp2_with fail
   go_ret
   exact ⟨HB2.out,fun h=>(by rw[HR2.out] at h;cases h),fun _=>⟨_,_,rfl,HF2.out⟩⟩
open Go.RowKit
theorem wp_app1x {P:Program} {w:World} {o:Oper} {a:Act} {K:Act→World→Prop} {Q:Exit→Act→World→Prop} (s x:Operand) (t:TypeId)
  (ho:o.op = .call { callee := .builtin .append,args:=#[s,x],argTypes:=#[t,t] })
  {base:Nat} {e:TypeId} {z:Value} {size bytes:Nat} (he:Elem P t e z size bytes) (hsz:0<size)
  {v:Value} {n:Nat} {xs:List Value} (hown:w.ownsRow base e size v n xs) (hs:a.eval s=v)
  {A c:Nat} {cs:List Value} {T:TypeId} {fr:Nat × Nat} (hx:a.eval x = .slice (some ⟨A,0,none⟩) 1 c) (hA:w.heap[A]? = some (.cells cs.toArray T fr)) (hcs:cs.length=size) (h1:∀ u∈cs,u.oneCell'=true)
  (h63:n+1≤maxLen) (hbytes:(n+1) * bytes≤140737488355328) (hbase:base≤w.heap.size)
  (h:∀ v' w',w'.ownsRow base e size v' (n+1) (xs++cs)→w.grownBy w' v.ownBlock→(v'.ownBlock=v.ownBlock∨v'.ownBlock=some w.heap.size)→K (a.put o.dst v') w'):o.wp P a w K Q:=by
 obtain ⟨ht,hi0,hzs⟩:=he
 obtain ⟨i,hi,hz,hsize,hby⟩:=info_parts hi0
 obtain ⟨v',w',hr,h2,h3,h4,h5⟩:=run_append_own_at (P:=P) w base t o.type e i z size bytes ht hi hz hsize hby hzs hsz v n xs hown ⟨A,0,none⟩ 1 c cs (by simp[hcs]) (fun j y hy=>by
  have hadd:(⟨A,0,none⟩:Addr).add j=⟨A,j,none⟩:=by unfold Addr.add;split<;>simp_all
  rw[hadd]
  exact row_cell hA (by simpa using hy)) h1 h63 hbytes hbase
 unfold Oper.wp execOp
 simp only[ho,resolve,invoke,builtin,Sem.run_bind,Sem.run_pure,Result.andThen_ok,List.map_toArray,List.map_cons,List.map_nil,hs,hx,hr]
 exact h _ _ h2 h3 h5
def ptCel:Cel Pt where
 R w P x cs:=∃ bo cap U,cs=[.int .i32 x.off,.slice bo x.cs.length cap,.string U,.int .i64 (x.sh:Int)]∧CRels natCel w P x.cs bo
 size:=4
 len:=by rintro w P x cs ⟨bo,cap,U,rfl,_⟩;rfl
 upd:=by rintro w w' S P Q x cs hu hs hq ⟨bo,cap,U,h,h0⟩;exact ⟨bo,cap,U,h,CRels.upd hu hs hq h0⟩
 lt:=by rintro w P x cs ⟨bo,cap,U,h,h0⟩;exact ⟨bo,cap,U,h,CRels.lt h0⟩
theorem parts_of {w:World} {P:Nat→Prop} {ps:List Pt} {lo:Option Addr} (h:CRels ptCel w P ps lo):PartsAt w lo ps:=fun j hj=>by
 obtain ⟨g,off,cs,h1,_,h3,h4,bo,cap,U,rfl,h5⟩:=h j hj
 have h4':∀ i (h:i<4),w.cell? ⟨g,off+ptCel.size * j+i,none⟩=some ([.int .i32 ps[j].off,.slice bo ps[j].cs.length cap,.string U,.int .i64 (ps[j].sh:Int)]:List Value)[i]:=fun i hi=>h4 i (by simpa using hi)
 have e:off+ptCel.size * j=off+j * 4:=by show off+4 * j=_;omega
 rw[e] at h4'
 exact ⟨g,off,bo,cap,U,h1,h3,h4' 0 (by decide),h4' 1 (by decide),h4' 2 (by decide),h4' 3 (by decide),nats_of_rels h5⟩
theorem Tryd.elPart:Elem Tryd.prog 66 65 (.agg #[.int .i32 0,.slice none 0 0,.string ⟨#[]⟩,.int .i64 0]) 4 56:=⟨Tryd.underlying66,by kernel_rfl,by decide⟩
def SdAt (base:Nat) (v:Value) (ps:List Pt) (w:World):Prop:=∃ css:List (List Value),w.ownsRow base 65 4 v ps.length css.flatten∧css.length=ps.length∧∀ j (h1:j<ps.length) (h2:j<css.length),ptCel.R w (fun k=>k<base) ps[j] css[j]
theorem SdAt.upd {S:Nat→Prop} {base:Nat} {v:Value} {ps:List Pt} {w w':World} (h:SdAt base v ps w) (hu:Upd S w w') (hs:∀ k,S k→base≤k) (hv:∀ k,v.ownBlock=some k→¬S k):SdAt base v ps w':=by
 obtain ⟨css,h1,h2,h3⟩:=h
 exact ⟨css,hu.own h1 hv,h2,fun j a b=>ptCel.upd hu (fun k hk hh=>by have:=hs k hh;omega) (fun _ h=>h) (h3 j a b)⟩
theorem SdAt.nil (base:Nat) (w:World):SdAt base (.slice none 0 0) [] w:=⟨[],World.ownsRow_nil _ _ _ _,rfl,fun j h=>by simp at h⟩
theorem SdAt.slice {base:Nat} {v:Value} {ps:List Pt} {w:World} (h:SdAt base v ps w):∃ lo cap,v = .slice lo ps.length cap:=by
 obtain ⟨css,h1,_⟩:=h
 rcases h1.2 with ⟨rfl,h⟩|⟨g,cap,cur,rfl,_⟩
 ·exact ⟨none,0,by rw[h]⟩
 ·exact ⟨_,_,rfl⟩
theorem SdAt.parts {base:Nat} {lo:Option Addr} {cap:Nat} {ps:List Pt} {w:World} (h:SdAt base (.slice lo ps.length cap) ps w):PartsAt w lo ps:=by
 obtain ⟨css,h1,h2,h3⟩:=h
 exact parts_of (P:=fun k=>(Value.slice lo ps.length cap).ownBlock=some k∨k<base) (CRels.own h1 h2 (fun j a b=>ptCel.upd (Upd.refl (fun _=>False) w) (fun _ _ h=>h) (fun _ h => .inr h) (h3 j a b)) (fun k hk => .inl hk))
end Go.Proofs.YtoggpnfeioaidaaDoor
