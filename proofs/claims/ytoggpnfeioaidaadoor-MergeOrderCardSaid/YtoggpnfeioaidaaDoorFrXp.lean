/-
  fresh.Exp.
-/
import Derived.Test.YtoggpnfeioaidaaDoorMxDoor
import Derived.Test.YtoggpnfeioaidaaDoorXpOpen
set_option maxRecDepth 1000000
set_option maxHeartbeats 16000000
namespace Go.Proofs.YtoggpnfeioaidaaDoor
open Go.RowKit
def XpCp (l:List KV) (a t k:Nat) (bp:Bool) (vp:Nat) (bm:Bool) (vm:Nat) (bg:Bool) (vg:Nat) (sc:Int) (zc:Nat) (gp:Bool) (po:Int) (pc:List Nat) (pu:ByteArray) (gn:Bool) (no:Int) (nc:List Nat) (nu:ByteArray) (es:List Ex) (f th:Nat) (u:List UInt8) (w:World) (e:Ending) (w':World):Prop:=Below w.heap.size w w'∧∃ lo lc pco pcc nco ncc eo ec,e = .returned (.agg #[.slice lo l.length lc,.int .u64 (a:Int),.int .u64 (t:Int),.int .u64 (k:Int),.bool bp,.int .u64 (vp:Int),.bool bm,.int .u64 (vm:Int),.bool bg,.int .u64 (vg:Int),.int .i32 sc,.int .u64 (zc:Int),.bool gp,.int .i32 po,.slice pco pc.length pcc,.string pu,.bool gn,.int .i32 no,.slice nco nc.length ncc,.string nu,.slice eo es.length ec,.int .u32 (f:Int),.int .u64 (th:Int),strV u]) ∧
 KRels w' (fun k=>w.heap.size≤k) l lo 0∧CRels natCel w' (fun k=>w.heap.size≤k) pc pco∧CRels natCel w' (fun k=>w.heap.size≤k) nc nco∧CRels exCel w' (fun k=>w.heap.size≤k) es eo
theorem frex_anyX (x:Ex) (hw:ksw x.1.2.2≤1000000):CpOne exCel 52 x:=by
 obtain ⟨⟨t,⟨⟨⟨k,n⟩,⟨a,b⟩⟩,l⟩⟩,u⟩:=x
 exact frex_step t k n a b l u hw
theorem crels_weak {α:Type} {C:Cel α} {w:World} {B:Nat} {l:List α} {lo:Option Addr} (h:CRels C w (fun k=>B≤k∧k<w.heap.size) l lo):CRels C w (fun k=>B≤k) l lo:=CRels.upd (Upd.refl (fun _=>False) w) (fun _ _ h=>h) (fun _ h=>h.1) h
theorem frexp_any (l:List KV) (a t k:Nat) (bp:Bool) (vp:Nat) (bm:Bool) (vm:Nat) (bg:Bool) (vg:Nat) (sc:Int) (zc:Nat) (gp:Bool) (po:Int) (pc:List Nat) (pu:ByteArray) (gn:Bool) (no:Int) (nc:List Nat) (nu:ByteArray) (es:List Ex) (f th:Nat) (u:List UInt8) (lo:Option Addr) (lc:Nat) (pco:Option Addr) (pcc:Nat) (nco:Option Addr) (ncc:Nat) (eo:Option Addr) (ec:Nat) (P:Nat→Prop) (w:World) (hw:ksw l≤1000000) (hpc:pc.length≤1000000) (hnc:nc.length≤1000000) (hes:es.length≤1000000) (hew:Hid (∀ x∈es,ksw x.1.2.2≤1000000)) (H0:Hid (KRels w P l lo 0)) (H13:Hid (Nats .u64 w pco pc)) (H17:Hid (Nats .u64 w nco nc)) (H20:Hid (CRels exCel w P es eo)) :
  Calls Tryd.prog 28 #[.agg #[.slice lo l.length lc,.int .u64 (a:Int),.int .u64 (t:Int),.int .u64 (k:Int),.bool bp,.int .u64 (vp:Int),.bool bm,.int .u64 (vm:Int),.bool bg,.int .u64 (vg:Int),.int .i32 sc,.int .u64 (zc:Int),.bool gp,.int .i32 po,.slice pco pc.length pcc,.string pu,.bool gn,.int .i32 no,.slice nco nc.length ncc,.string nu,.slice eo es.length ec,.int .u32 (f:Int),.int .u64 (th:Int),strV u]] w (XpCp l a t k bp vp bm vm bg vg sc zc gp po pc pu gn no nc nu es f th u w):=by
 obtain ⟨b1,HBA⟩:∃ b,Hid (w.heap.size=b):=⟨_,Lib.hid rfl⟩
 obtain ⟨b2,HBB⟩:∃ b,Hid (b1+1=b):=⟨_,Lib.hid rfl⟩
 obtain ⟨W,HW⟩:∃ W,Hid ((w.alloc (.cells #[.slice lo l.length lc,.int .u64 (a:Int),.int .u64 (t:Int),.int .u64 (k:Int),.bool bp,.int .u64 (vp:Int),.bool bm,.int .u64 (vm:Int),.bool bg,.int .u64 (vg:Int),.int .i32 sc,.int .u64 (zc:Int),.bool gp,.int .i32 po,.slice pco pc.length pcc,.string pu,.bool gn,.int .i32 no,.slice nco nc.length ncc,.string nu,.slice eo es.length ec,.int .u32 (f:Int),.int .u64 (th:Int),strV u] 32)).alloc (.cells #[.slice none 0 0,.int .u64 0,.int .u64 0,.int .u64 0,.bool false,.int .u64 0,.bool false,.int .u64 0,.bool false,.int .u64 0,.int .i32 0,.int .u64 0,.bool false,.int .i32 0,.slice none 0 0,.string ⟨#[]⟩,.bool false,.int .i32 0,.slice none 0 0,.string ⟨#[]⟩,.slice none 0 0,.int .u32 0,.int .u64 0,.string ⟨#[]⟩] 32)=W):=⟨_,Lib.hid rfl⟩
 have HB:Hid (Below w.heap.size w W):=Lib.hid (by rw[←HW.out];exact below_step (below_new _ _) (below_new _ _))
 have HX1:Hid (W.heap[b1]? = some (.cells #[.slice lo l.length lc,.int .u64 (a:Int),.int .u64 (t:Int),.int .u64 (k:Int),.bool bp,.int .u64 (vp:Int),.bool bm,.int .u64 (vm:Int),.bool bg,.int .u64 (vg:Int),.int .i32 sc,.int .u64 (zc:Int),.bool gp,.int .i32 po,.slice pco pc.length pcc,.string pu,.bool gn,.int .i32 no,.slice nco nc.length ncc,.string nu,.slice eo es.length ec,.int .u32 (f:Int),.int .u64 (th:Int),strV u] 32 (0,0))):=Lib.hid (by rw[←HW.out,←HBA.out];exact (Below.heap_alloc _ _ _ (by simp)).trans (heap_alloc_new w _))
 have HX2:Hid (W.heap[b2]? = some (.cells #[.slice none 0 0,.int .u64 0,.int .u64 0,.int .u64 0,.bool false,.int .u64 0,.bool false,.int .u64 0,.bool false,.int .u64 0,.int .i32 0,.int .u64 0,.bool false,.int .i32 0,.slice none 0 0,.string ⟨#[]⟩,.bool false,.int .i32 0,.slice none 0 0,.string ⟨#[]⟩,.slice none 0 0,.int .u32 0,.int .u64 0,.string ⟨#[]⟩] 32 (0,0))):=Lib.hid (by
  rw[←HW.out,←HBB.out,←HBA.out]
  have h:=heap_alloc_new (w.alloc (.cells #[.slice lo l.length lc,.int .u64 (a:Int),.int .u64 (t:Int),.int .u64 (k:Int),.bool bp,.int .u64 (vp:Int),.bool bm,.int .u64 (vm:Int),.bool bg,.int .u64 (vg:Int),.int .i32 sc,.int .u64 (zc:Int),.bool gp,.int .i32 po,.slice pco pc.length pcc,.string pu,.bool gn,.int .i32 no,.slice nco nc.length ncc,.string nu,.slice eo es.length ec,.int .u32 (f:Int),.int .u64 (th:Int),strV u] 32)) (.cells #[.slice none 0 0,.int .u64 0,.int .u64 0,.int .u64 0,.bool false,.int .u64 0,.bool false,.int .u64 0,.bool false,.int .u64 0,.int .i32 0,.int .u64 0,.bool false,.int .i32 0,.slice none 0 0,.string ⟨#[]⟩,.bool false,.int .i32 0,.slice none 0 0,.string ⟨#[]⟩,.slice none 0 0,.int .u32 0,.int .u64 0,.string ⟨#[]⟩] 32)
  rwa [show (w.alloc (.cells #[.slice lo l.length lc,.int .u64 (a:Int),.int .u64 (t:Int),.int .u64 (k:Int),.bool bp,.int .u64 (vp:Int),.bool bm,.int .u64 (vm:Int),.bool bg,.int .u64 (vg:Int),.int .i32 sc,.int .u64 (zc:Int),.bool gp,.int .i32 po,.slice pco pc.length pcc,.string pu,.bool gn,.int .i32 no,.slice nco nc.length ncc,.string nu,.slice eo es.length ec,.int .u32 (f:Int),.int .u64 (th:Int),strV u] 32)).heap.size=w.heap.size+1 by simp] at h)
 have hn12:b1≠b2:=by have:=HBB.out;omega
 have HGE:Hid (w.heap.size≤b1∧w.heap.size≤b2∧b1<W.heap.size∧b2<W.heap.size):=Lib.hid ⟨by have:=HBA.out;omega,by have:=HBA.out;have:=HBB.out;omega,row_lt HX1.out,row_lt HX2.out⟩
 go_enter Tryd.func28,Tryd.ntmps28
 go_upto_region 1 with fail
 rw[HW.out,HBA.out,HBB.out]
 have e0:W.cell? ⟨b1,0,none⟩=some (.slice lo l.length lc):=row_cell HX1.out (j:=0) rfl
 go_wp2_with fail
 refine (frkeys_any l hw lo lc P W (Lib.hid (H0.out.below HB.out))).mono ?_
 rintro E v0 ⟨hb,lo4,lc4,rfl,hk⟩
 have HV0:=Lib.hid hb
 have HB0:=Lib.hid (below_step HB.out hb)
 have HP0:=Lib.hid ((hb.block _ (row_lt HX1.out)).trans HX1.out)
 have HQ0:=Lib.hid ((hb.block _ (row_lt HX2.out)).trans HX2.out)
 have HK0:=Lib.hid hk
 clear hb hk e0
 have e0:v0.cell? ⟨b1,0,none⟩=some (.slice lo l.length lc):=row_cell HP0.out (j:=0) rfl
 have z0:v0.frozen? ⟨b1,0,none⟩=false:=row_thaw HP0.out 0
 go_upto_region 2 with fail
 obtain ⟨w0,HW0⟩:∃ W,Hid ((v0.setCell ⟨b1,0,none⟩ (.slice lo4 l.length lc4))=W):=⟨_,Lib.hid rfl⟩
 rw[HW0.out]
 have HU0:Hid (Upd (fun k=>k=b1) v0 w0):=Lib.hid (by rw[←HW0.out];exact Upd.set v0 ⟨b1,0,none⟩ (.slice lo4 l.length lc4))
 have hr0:(v0.setCell ⟨b1,0,none⟩ (.slice lo4 l.length lc4)).heap[b1]? = some (.cells #[.slice lo4 l.length lc4,.int .u64 (a:Int),.int .u64 (t:Int),.int .u64 (k:Int),.bool bp,.int .u64 (vp:Int),.bool bm,.int .u64 (vm:Int),.bool bg,.int .u64 (vg:Int),.int .i32 sc,.int .u64 (zc:Int),.bool gp,.int .i32 po,.slice pco pc.length pcc,.string pu,.bool gn,.int .i32 no,.slice nco nc.length ncc,.string nu,.slice eo es.length ec,.int .u32 (f:Int),.int .u64 (th:Int),strV u] 32 (0,0)):=row_set HP0.out 0 (.slice lo4 l.length lc4)
 have HC0:Hid (w0.heap[b1]? = some (.cells #[.slice lo4 l.length lc4,.int .u64 (a:Int),.int .u64 (t:Int),.int .u64 (k:Int),.bool bp,.int .u64 (vp:Int),.bool bm,.int .u64 (vm:Int),.bool bg,.int .u64 (vg:Int),.int .i32 sc,.int .u64 (zc:Int),.bool gp,.int .i32 po,.slice pco pc.length pcc,.string pu,.bool gn,.int .i32 no,.slice nco nc.length ncc,.string nu,.slice eo es.length ec,.int .u32 (f:Int),.int .u64 (th:Int),strV u] 32 (0,0))):=Lib.hid (by rw[←HW0.out];exact hr0)
 clear hr0
 have HD0:=Lib.hid ((HU0.out.block _ (row_lt HQ0.out) (fun h=>hn12 h.symm)).trans HQ0.out)
 have HA0:Hid (Below w.heap.size w w0):=Lib.hid (HB0.out.trans (HU0.out.below HB0.out.size (fun k _ hk=>by have hk:k=b1:=hk;have:=HGE.out;omega)))
 clear e0 z0
 have e13:w0.cell? ⟨b1,13,none⟩=some (.int .i32 po):=row_cell HC0.out (j:=13) rfl
 have e14:w0.cell? ⟨b1,14,none⟩=some (.slice pco pc.length pcc):=row_cell HC0.out (j:=14) rfl
 have e15:w0.cell? ⟨b1,15,none⟩=some (.string pu):=row_cell HC0.out (j:=15) rfl
 go_wp2_with fail
 refine (frbuk_any po pc pu pco pcc w0 hpc (Lib.hid (H13.out.below HA0.out))).mono ?_
 rintro E v1 ⟨hb,lo5,lc5,rfl,hk⟩
 have HV1:=Lib.hid hb
 have HB1:=Lib.hid (below_step HA0.out hb)
 have HP1:=Lib.hid ((hb.block _ (row_lt HC0.out)).trans HC0.out)
 have HQ1:=Lib.hid ((hb.block _ (row_lt HD0.out)).trans HD0.out)
 have HK1:=Lib.hid hk
 clear hb hk e13 e14 e15
 have e13:v1.cell? ⟨b1,13,none⟩=some (.int .i32 po):=row_cell HP1.out (j:=13) rfl
 have e14:v1.cell? ⟨b1,14,none⟩=some (.slice pco pc.length pcc):=row_cell HP1.out (j:=14) rfl
 have e15:v1.cell? ⟨b1,15,none⟩=some (.string pu):=row_cell HP1.out (j:=15) rfl
 have z13:v1.frozen? ⟨b1,13,none⟩=false:=row_thaw HP1.out 13
 have z14:v1.frozen? ⟨b1,14,none⟩=false:=row_thaw HP1.out 14
 have z15:v1.frozen? ⟨b1,15,none⟩=false:=row_thaw HP1.out 15
 go_upto_region 3 with fail
 obtain ⟨w1,HW1⟩:∃ W,Hid ((((v1.setCell ⟨b1,13,none⟩ (.int .i32 po)).setCell ⟨b1,14,none⟩ (.slice lo5 pc.length lc5)).setCell ⟨b1,15,none⟩ (.string pu))=W):=⟨_,Lib.hid rfl⟩
 rw[HW1.out]
 have HU1:Hid (Upd (fun k=>k=b1) v1 w1):=Lib.hid (by rw[←HW1.out];exact ((Upd.set v1 ⟨b1,13,none⟩ (.int .i32 po)).trans (Upd.set _ ⟨b1,14,none⟩ (.slice lo5 pc.length lc5))).trans (Upd.set _ ⟨b1,15,none⟩ (.string pu)))
 have hr0:(v1.setCell ⟨b1,13,none⟩ (.int .i32 po)).heap[b1]? = some (.cells #[.slice lo4 l.length lc4,.int .u64 (a:Int),.int .u64 (t:Int),.int .u64 (k:Int),.bool bp,.int .u64 (vp:Int),.bool bm,.int .u64 (vm:Int),.bool bg,.int .u64 (vg:Int),.int .i32 sc,.int .u64 (zc:Int),.bool gp,.int .i32 po,.slice pco pc.length pcc,.string pu,.bool gn,.int .i32 no,.slice nco nc.length ncc,.string nu,.slice eo es.length ec,.int .u32 (f:Int),.int .u64 (th:Int),strV u] 32 (0,0)):=row_set HP1.out 13 (.int .i32 po)
 have hr1:((v1.setCell ⟨b1,13,none⟩ (.int .i32 po)).setCell ⟨b1,14,none⟩ (.slice lo5 pc.length lc5)).heap[b1]? = some (.cells #[.slice lo4 l.length lc4,.int .u64 (a:Int),.int .u64 (t:Int),.int .u64 (k:Int),.bool bp,.int .u64 (vp:Int),.bool bm,.int .u64 (vm:Int),.bool bg,.int .u64 (vg:Int),.int .i32 sc,.int .u64 (zc:Int),.bool gp,.int .i32 po,.slice lo5 pc.length lc5,.string pu,.bool gn,.int .i32 no,.slice nco nc.length ncc,.string nu,.slice eo es.length ec,.int .u32 (f:Int),.int .u64 (th:Int),strV u] 32 (0,0)):=row_set hr0 14 (.slice lo5 pc.length lc5)
 have hr2:(((v1.setCell ⟨b1,13,none⟩ (.int .i32 po)).setCell ⟨b1,14,none⟩ (.slice lo5 pc.length lc5)).setCell ⟨b1,15,none⟩ (.string pu)).heap[b1]? = some (.cells #[.slice lo4 l.length lc4,.int .u64 (a:Int),.int .u64 (t:Int),.int .u64 (k:Int),.bool bp,.int .u64 (vp:Int),.bool bm,.int .u64 (vm:Int),.bool bg,.int .u64 (vg:Int),.int .i32 sc,.int .u64 (zc:Int),.bool gp,.int .i32 po,.slice lo5 pc.length lc5,.string pu,.bool gn,.int .i32 no,.slice nco nc.length ncc,.string nu,.slice eo es.length ec,.int .u32 (f:Int),.int .u64 (th:Int),strV u] 32 (0,0)):=row_set hr1 15 (.string pu)
 have HC1:Hid (w1.heap[b1]? = some (.cells #[.slice lo4 l.length lc4,.int .u64 (a:Int),.int .u64 (t:Int),.int .u64 (k:Int),.bool bp,.int .u64 (vp:Int),.bool bm,.int .u64 (vm:Int),.bool bg,.int .u64 (vg:Int),.int .i32 sc,.int .u64 (zc:Int),.bool gp,.int .i32 po,.slice lo5 pc.length lc5,.string pu,.bool gn,.int .i32 no,.slice nco nc.length ncc,.string nu,.slice eo es.length ec,.int .u32 (f:Int),.int .u64 (th:Int),strV u] 32 (0,0))):=Lib.hid (by rw[←HW1.out];exact hr2)
 clear hr0 hr1 hr2
 have HD1:=Lib.hid ((HU1.out.block _ (row_lt HQ1.out) (fun h=>hn12 h.symm)).trans HQ1.out)
 have HA1:Hid (Below w.heap.size w w1):=Lib.hid (HB1.out.trans (HU1.out.below HB1.out.size (fun k _ hk=>by have hk:k=b1:=hk;have:=HGE.out;omega)))
 clear e13 z13 e14 z14 e15 z15
 have e17:w1.cell? ⟨b1,17,none⟩=some (.int .i32 no):=row_cell HC1.out (j:=17) rfl
 have e18:w1.cell? ⟨b1,18,none⟩=some (.slice nco nc.length ncc):=row_cell HC1.out (j:=18) rfl
 have e19:w1.cell? ⟨b1,19,none⟩=some (.string nu):=row_cell HC1.out (j:=19) rfl
 go_wp2_with fail
 refine (frbuk_any no nc nu nco ncc w1 hnc (Lib.hid (H17.out.below HA1.out))).mono ?_
 rintro E v2 ⟨hb,lo6,lc6,rfl,hk⟩
 have HV2:=Lib.hid hb
 have HB2:=Lib.hid (below_step HA1.out hb)
 have HP2:=Lib.hid ((hb.block _ (row_lt HC1.out)).trans HC1.out)
 have HQ2:=Lib.hid ((hb.block _ (row_lt HD1.out)).trans HD1.out)
 have HK2:=Lib.hid hk
 clear hb hk e17 e18 e19
 have e17:v2.cell? ⟨b1,17,none⟩=some (.int .i32 no):=row_cell HP2.out (j:=17) rfl
 have e18:v2.cell? ⟨b1,18,none⟩=some (.slice nco nc.length ncc):=row_cell HP2.out (j:=18) rfl
 have e19:v2.cell? ⟨b1,19,none⟩=some (.string nu):=row_cell HP2.out (j:=19) rfl
 have z17:v2.frozen? ⟨b1,17,none⟩=false:=row_thaw HP2.out 17
 have z18:v2.frozen? ⟨b1,18,none⟩=false:=row_thaw HP2.out 18
 have z19:v2.frozen? ⟨b1,19,none⟩=false:=row_thaw HP2.out 19
 go_upto_region 4 with fail
 obtain ⟨w2,HW2⟩:∃ W,Hid ((((v2.setCell ⟨b1,17,none⟩ (.int .i32 no)).setCell ⟨b1,18,none⟩ (.slice lo6 nc.length lc6)).setCell ⟨b1,19,none⟩ (.string nu))=W):=⟨_,Lib.hid rfl⟩
 rw[HW2.out]
 have HU2:Hid (Upd (fun k=>k=b1) v2 w2):=Lib.hid (by rw[←HW2.out];exact ((Upd.set v2 ⟨b1,17,none⟩ (.int .i32 no)).trans (Upd.set _ ⟨b1,18,none⟩ (.slice lo6 nc.length lc6))).trans (Upd.set _ ⟨b1,19,none⟩ (.string nu)))
 have hr0:(v2.setCell ⟨b1,17,none⟩ (.int .i32 no)).heap[b1]? = some (.cells #[.slice lo4 l.length lc4,.int .u64 (a:Int),.int .u64 (t:Int),.int .u64 (k:Int),.bool bp,.int .u64 (vp:Int),.bool bm,.int .u64 (vm:Int),.bool bg,.int .u64 (vg:Int),.int .i32 sc,.int .u64 (zc:Int),.bool gp,.int .i32 po,.slice lo5 pc.length lc5,.string pu,.bool gn,.int .i32 no,.slice nco nc.length ncc,.string nu,.slice eo es.length ec,.int .u32 (f:Int),.int .u64 (th:Int),strV u] 32 (0,0)):=row_set HP2.out 17 (.int .i32 no)
 have hr1:((v2.setCell ⟨b1,17,none⟩ (.int .i32 no)).setCell ⟨b1,18,none⟩ (.slice lo6 nc.length lc6)).heap[b1]? = some (.cells #[.slice lo4 l.length lc4,.int .u64 (a:Int),.int .u64 (t:Int),.int .u64 (k:Int),.bool bp,.int .u64 (vp:Int),.bool bm,.int .u64 (vm:Int),.bool bg,.int .u64 (vg:Int),.int .i32 sc,.int .u64 (zc:Int),.bool gp,.int .i32 po,.slice lo5 pc.length lc5,.string pu,.bool gn,.int .i32 no,.slice lo6 nc.length lc6,.string nu,.slice eo es.length ec,.int .u32 (f:Int),.int .u64 (th:Int),strV u] 32 (0,0)):=row_set hr0 18 (.slice lo6 nc.length lc6)
 have hr2:(((v2.setCell ⟨b1,17,none⟩ (.int .i32 no)).setCell ⟨b1,18,none⟩ (.slice lo6 nc.length lc6)).setCell ⟨b1,19,none⟩ (.string nu)).heap[b1]? = some (.cells #[.slice lo4 l.length lc4,.int .u64 (a:Int),.int .u64 (t:Int),.int .u64 (k:Int),.bool bp,.int .u64 (vp:Int),.bool bm,.int .u64 (vm:Int),.bool bg,.int .u64 (vg:Int),.int .i32 sc,.int .u64 (zc:Int),.bool gp,.int .i32 po,.slice lo5 pc.length lc5,.string pu,.bool gn,.int .i32 no,.slice lo6 nc.length lc6,.string nu,.slice eo es.length ec,.int .u32 (f:Int),.int .u64 (th:Int),strV u] 32 (0,0)):=row_set hr1 19 (.string nu)
 have HC2:Hid (w2.heap[b1]? = some (.cells #[.slice lo4 l.length lc4,.int .u64 (a:Int),.int .u64 (t:Int),.int .u64 (k:Int),.bool bp,.int .u64 (vp:Int),.bool bm,.int .u64 (vm:Int),.bool bg,.int .u64 (vg:Int),.int .i32 sc,.int .u64 (zc:Int),.bool gp,.int .i32 po,.slice lo5 pc.length lc5,.string pu,.bool gn,.int .i32 no,.slice lo6 nc.length lc6,.string nu,.slice eo es.length ec,.int .u32 (f:Int),.int .u64 (th:Int),strV u] 32 (0,0))):=Lib.hid (by rw[←HW2.out];exact hr2)
 clear hr0 hr1 hr2
 have HD2:=Lib.hid ((HU2.out.block _ (row_lt HQ2.out) (fun h=>hn12 h.symm)).trans HQ2.out)
 have HA2:Hid (Below w.heap.size w w2):=Lib.hid (HB2.out.trans (HU2.out.below HB2.out.size (fun k _ hk=>by have hk:k=b1:=hk;have:=HGE.out;omega)))
 clear e17 z17 e18 z18 e19 z19
 have e20:w2.cell? ⟨b1,20,none⟩=some (.slice eo es.length ec):=row_cell HC2.out (j:=20) rfl
 go_wp2_with fail
 refine (frE_any es (Lib.hid (fun x hx=>frex_anyX x (hew.out x hx))) eo ec P w2 hes (Lib.hid (H20.out.below HA2.out))).mono ?_
 rintro E v3 ⟨hb,lo7,lc7,rfl,hk⟩
 have HV3:=Lib.hid hb
 have HB3:=Lib.hid (below_step HA2.out hb)
 have HP3:=Lib.hid ((hb.block _ (row_lt HC2.out)).trans HC2.out)
 have HQ3:=Lib.hid ((hb.block _ (row_lt HD2.out)).trans HD2.out)
 have HK3:=Lib.hid hk
 clear hb hk e20
 have e20:v3.cell? ⟨b1,20,none⟩=some (.slice eo es.length ec):=row_cell HP3.out (j:=20) rfl
 have z20:v3.frozen? ⟨b1,20,none⟩=false:=row_thaw HP3.out 20
 go_upto_region 5 with fail
 obtain ⟨w3,HW3⟩:∃ W,Hid ((v3.setCell ⟨b1,20,none⟩ (.slice lo7 es.length lc7))=W):=⟨_,Lib.hid rfl⟩
 rw[HW3.out]
 have HU3:Hid (Upd (fun k=>k=b1) v3 w3):=Lib.hid (by rw[←HW3.out];exact Upd.set v3 ⟨b1,20,none⟩ (.slice lo7 es.length lc7))
 have hr0:(v3.setCell ⟨b1,20,none⟩ (.slice lo7 es.length lc7)).heap[b1]? = some (.cells #[.slice lo4 l.length lc4,.int .u64 (a:Int),.int .u64 (t:Int),.int .u64 (k:Int),.bool bp,.int .u64 (vp:Int),.bool bm,.int .u64 (vm:Int),.bool bg,.int .u64 (vg:Int),.int .i32 sc,.int .u64 (zc:Int),.bool gp,.int .i32 po,.slice lo5 pc.length lc5,.string pu,.bool gn,.int .i32 no,.slice lo6 nc.length lc6,.string nu,.slice lo7 es.length lc7,.int .u32 (f:Int),.int .u64 (th:Int),strV u] 32 (0,0)):=row_set HP3.out 20 (.slice lo7 es.length lc7)
 have HC3:Hid (w3.heap[b1]? = some (.cells #[.slice lo4 l.length lc4,.int .u64 (a:Int),.int .u64 (t:Int),.int .u64 (k:Int),.bool bp,.int .u64 (vp:Int),.bool bm,.int .u64 (vm:Int),.bool bg,.int .u64 (vg:Int),.int .i32 sc,.int .u64 (zc:Int),.bool gp,.int .i32 po,.slice lo5 pc.length lc5,.string pu,.bool gn,.int .i32 no,.slice lo6 nc.length lc6,.string nu,.slice lo7 es.length lc7,.int .u32 (f:Int),.int .u64 (th:Int),strV u] 32 (0,0))):=Lib.hid (by rw[←HW3.out];exact hr0)
 clear hr0
 have HD3:=Lib.hid ((HU3.out.block _ (row_lt HQ3.out) (fun h=>hn12 h.symm)).trans HQ3.out)
 have HA3:Hid (Below w.heap.size w w3):=Lib.hid (HB3.out.trans (HU3.out.below HB3.out.size (fun k _ hk=>by have hk:k=b1:=hk;have:=HGE.out;omega)))
 clear e20 z20
 refine wp_region_lit ?_
 refine wpList_load_mid rfl 32 (.tmp 1) rfl b1 0 rfl [.slice lo4 l.length lc4,.int .u64 (a:Int),.int .u64 (t:Int),.int .u64 (k:Int),.bool bp,.int .u64 (vp:Int),.bool bm,.int .u64 (vm:Int),.bool bg,.int .u64 (vg:Int),.int .i32 sc,.int .u64 (zc:Int),.bool gp,.int .i32 po,.slice lo5 pc.length lc5,.string pu,.bool gn,.int .i32 no,.slice lo6 nc.length lc6,.string nu,.slice lo7 es.length lc7,.int .u32 (f:Int),.int .u64 (th:Int),strV u] _ (range_rowf HC3.out) Tryd.underlying32 rfl (by kernel_rfl) ?_
 refine wpList_store_row rfl 32 (.tmp 2) (.tmp 19) rfl b2 #[.slice lo4 l.length lc4,.int .u64 (a:Int),.int .u64 (t:Int),.int .u64 (k:Int),.bool bp,.int .u64 (vp:Int),.bool bm,.int .u64 (vm:Int),.bool bg,.int .u64 (vg:Int),.int .i32 sc,.int .u64 (zc:Int),.bool gp,.int .i32 po,.slice lo5 pc.length lc5,.string pu,.bool gn,.int .i32 no,.slice lo6 nc.length lc6,.string nu,.slice lo7 es.length lc7,.int .u32 (f:Int),.int .u64 (th:Int),strV u] rfl rfl 32 _ HD3.out (by kernel_rfl) rfl (by simp[Value.oneCell',strV]) ?_
 obtain ⟨wz,HWZ⟩:∃ W,Hid (w3.setRow b2 #[.slice lo4 l.length lc4,.int .u64 (a:Int),.int .u64 (t:Int),.int .u64 (k:Int),.bool bp,.int .u64 (vp:Int),.bool bm,.int .u64 (vm:Int),.bool bg,.int .u64 (vg:Int),.int .i32 sc,.int .u64 (zc:Int),.bool gp,.int .i32 po,.slice lo5 pc.length lc5,.string pu,.bool gn,.int .i32 no,.slice lo6 nc.length lc6,.string nu,.slice lo7 es.length lc7,.int .u32 (f:Int),.int .u64 (th:Int),strV u]=W):=⟨_,Lib.hid rfl⟩
 rw[HWZ.out]
 have HXZ:Hid (wz.heap[b2]? = some (.cells #[.slice lo4 l.length lc4,.int .u64 (a:Int),.int .u64 (t:Int),.int .u64 (k:Int),.bool bp,.int .u64 (vp:Int),.bool bm,.int .u64 (vm:Int),.bool bg,.int .u64 (vg:Int),.int .i32 sc,.int .u64 (zc:Int),.bool gp,.int .i32 po,.slice lo5 pc.length lc5,.string pu,.bool gn,.int .i32 no,.slice lo6 nc.length lc6,.string nu,.slice lo7 es.length lc7,.int .u32 (f:Int),.int .u64 (th:Int),strV u] 32 (0,0))):=Lib.hid (by rw[←HWZ.out];exact setRow_heap _ _ _ _ _ _ HD3.out)
 have HUZ:Hid (Upd (fun k=>k=b2) w3 wz):=Lib.hid (by rw[←HWZ.out];exact upd_setRow _ _ _)
 go_wp2_with fail
 (try simp only[Exit.inBlock,Exit.then])
 refine body_cell1 rfl rfl (run_loadVar_row _ b2 32 32 _ (0,0) _ HXZ.out Tryd.underlying32 rfl (by kernel_rfl)) rfl ?_
 have HBZ:Hid (Below w.heap.size w wz):=Lib.hid (HA3.out.trans (HUZ.out.below HA3.out.size (fun k _ hk=>by have hk:k=b2:=hk;have:=HGE.out;omega)))
 refine ⟨HBZ.out,lo4,lc4,lo5,lc5,lo6,lc6,lo7,lc7,rfl,?_,?_,?_,?_⟩
 ·exact k_crels (crels_weak (crels_new HK0.out (((((HU0.out.mono (fun k _ hk=>(.inl hk:k=b1∨k=b2))).trans ((Upd.of_new (S:=fun k=>k=b1∨k=b2) HV1.out).trans (HU1.out.mono (fun k _ hk=>(.inl hk:k=b1∨k=b2))))).trans ((Upd.of_new (S:=fun k=>k=b1∨k=b2) HV2.out).trans (HU2.out.mono (fun k _ hk=>(.inl hk:k=b1∨k=b2))))).trans ((Upd.of_new (S:=fun k=>k=b1∨k=b2) HV3.out).trans (HU3.out.mono (fun k _ hk=>(.inl hk:k=b1∨k=b2))))).trans (HUZ.out.mono (fun k _ hk=>(.inr hk:k=b1∨k=b2)))) (fun k hk=>by have h:=HGE.out;have h2:=Nat.le_refl W.heap.size;rcases hk with hk|hk<;>omega) (HB.out.size)))
 ·exact crels_weak (crels_new HK1.out ((((HU1.out.mono (fun k _ hk=>(.inl hk:k=b1∨k=b2))).trans ((Upd.of_new (S:=fun k=>k=b1∨k=b2) HV2.out).trans (HU2.out.mono (fun k _ hk=>(.inl hk:k=b1∨k=b2))))).trans ((Upd.of_new (S:=fun k=>k=b1∨k=b2) HV3.out).trans (HU3.out.mono (fun k _ hk=>(.inl hk:k=b1∨k=b2))))).trans (HUZ.out.mono (fun k _ hk=>(.inr hk:k=b1∨k=b2)))) (fun k hk=>by have h:=HGE.out;have h2:=Nat.le_trans HV0.out.size HU0.out.size;rcases hk with hk|hk<;>omega) ((HA0.out.size)))
 ·exact crels_weak (crels_new HK2.out (((HU2.out.mono (fun k _ hk=>(.inl hk:k=b1∨k=b2))).trans ((Upd.of_new (S:=fun k=>k=b1∨k=b2) HV3.out).trans (HU3.out.mono (fun k _ hk=>(.inl hk:k=b1∨k=b2))))).trans (HUZ.out.mono (fun k _ hk=>(.inr hk:k=b1∨k=b2)))) (fun k hk=>by have h:=HGE.out;have h2:=Nat.le_trans (Nat.le_trans HV0.out.size HU0.out.size) (Nat.le_trans HV1.out.size HU1.out.size);rcases hk with hk|hk<;>omega) ((HA1.out.size)))
 ·exact crels_weak (crels_new HK3.out ((HU3.out.mono (fun k _ hk=>(.inl hk:k=b1∨k=b2))).trans (HUZ.out.mono (fun k _ hk=>(.inr hk:k=b1∨k=b2)))) (fun k hk=>by have h:=HGE.out;have h2:=Nat.le_trans (Nat.le_trans (Nat.le_trans HV0.out.size HU0.out.size) (Nat.le_trans HV1.out.size HU1.out.size)) (Nat.le_trans HV2.out.size HU2.out.size);rcases hk with hk|hk<;>omega) ((HA2.out.size)))
end Go.Proofs.YtoggpnfeioaidaaDoor
