/-
  FrHist, MxDoor
-/
import Derived.Test.YtoggpnfeioaidaaDoorFrEx
import Derived.Test.YtoggpnfeioaidaaDoorMgSat
import Derived.Test.YtoggpnfeioaidaaDoorMgEach
import Derived.Test.YtoggpnfeioaidaaDoorHiBack
import Derived.Test.YtoggpnfeioaidaaDoorMgPlaces
import Derived.Test.YtoggpnfeioaidaaDoorGet
import Derived.ProofKit
import Derived.OpenShut
import Derived.JoinedCond
import Derived.SizedLaws
import Derived.Carry
import Derived.Test.YtoggpnfeioaidaaDoorErrNew
import Derived.Test.YtoggpnfeioaidaaDoorCards
import Derived.Test.YtoggpnfeioaidaaDoorTie
import Derived.Deep.DeepHandedRow
import Derived.LaidLaws
import Derived.LaidHandle
import Derived.Stop.Joined
import Derived.Stop.LaidErr
import Derived.Deep.DeepLaidRun
set_option maxRecDepth 1000000
set_option maxHeartbeats 16000000
namespace Go.Proofs.YtoggpnfeioaidaaDoor
open Go.RowKit
def HiCp (a t k:Nat) (ph:Bool) (pn:Nat) (nc nb:List Nat) (es:List Ex) (l:List KV) (f:Nat) (mh:Bool) (mn:Nat) (gh:Bool) (gn:Nat) (u:List UInt8) (w:World) (e:Ending) (w':World):Prop :=
 Below w.heap.size w w'∧∃ lo lc nco ncc nbo nbc eo ec,e = .returned (.agg #[.slice lo l.length lc,.int .u64 (a:Int),.int .u64 (t:Int),.int .u64 (k:Int),.bool ph,.int .u64 (pn:Int),.bool mh,.int .u64 (mn:Int),.bool gh,.int .u64 (gn:Int),.slice nco nc.length ncc,.slice nbo nb.length nbc,.slice eo es.length ec,.int .u32 (f:Int),strV u])∧w'.ownsRow w.heap.size 23 1 (.slice nco nc.length ncc) nc.length (nvals nc) ∧
  KRels w' (fun k=>w.heap.size≤k∧k<w'.heap.size∧(Value.slice nco nc.length ncc).ownBlock≠some k) l lo 0∧CRels natCel w' (fun k=>w.heap.size≤k∧k<w'.heap.size∧(Value.slice nco nc.length ncc).ownBlock≠some k) nb nbo∧CRels exCel w' (fun k=>w.heap.size≤k∧k<w'.heap.size∧(Value.slice nco nc.length ncc).ownBlock≠some k) es eo
theorem frex_any (x:Ex) (hw:ksw x.1.2.2≤1000000):CpOne exCel 52 x:=by
 obtain ⟨⟨t,⟨⟨⟨k,n⟩,⟨a,b⟩⟩,l⟩⟩,u⟩:=x
 exact frex_step t k n a b l u hw
theorem nats_ownf {w:World} {base:Nat} {T:TypeId} {lo:Option Addr} {cap:Nat} {l:List Nat} (h:w.ownsRow base T 1 (.slice lo l.length cap) l.length (nvals l)):Nats .u64 w lo l:=fun hn=>by
 have hp:0<l.length:=List.length_pos_iff.2 hn
 have h':=h
 rcases h'.2 with ⟨_,h0⟩|⟨g,cap',cur,e,_,hh,_⟩
 ·omega
 ·simp only[Value.slice.injEq] at e
  obtain ⟨rfl,_⟩:=e
  refine ⟨g,0,rfl,row_lt hh,fun j hj=>?_⟩
  rw[Nat.zero_add]
  refine (h.cellAt j (by omega)).trans ?_
  rw[nvals_at l j hj,List.getD_eq_getElem?_getD,List.getElem?_eq_getElem hj]
  rfl
theorem nums_crels {w:World} {base:Nat} {lo:Option Addr} {cap:Nat} {l:List Nat} (h:w.ownsRow base 23 1 (.slice lo l.length cap) l.length (nvals l)):CRels natCel w (fun k=>base≤k∧k<w.heap.size) l lo :=
 rels_of_nats (nats_ownf h) (fun b off hb hlt=>by
  subst hb
  exact own_blk h rfl)
theorem frhist_any (a t k:Nat) (ph:Bool) (pn:Nat) (nc nb:List Nat) (es:List Ex) (l:List KV) (f:Nat) (mh:Bool) (mn:Nat) (gh:Bool) (gn:Nat) (u:List UInt8) (lo:Option Addr) (lc:Nat) (nco:Option Addr) (ncc:Nat) (nbo:Option Addr) (nbc:Nat) (eo:Option Addr) (ec:Nat) (P:Nat→Prop) (w:World) (hw:ksw l≤1000000) (hnc:nc.length≤1000000) (hnb:nb.length≤1000000) (hes:es.length≤1000000) (hew:Hid (∀ x∈es,ksw x.1.2.2≤1000000)) (H0:Hid (KRels w P l lo 0)) (H10:Hid (Nats .u64 w nco nc)) (H11:Hid (Nats .u64 w nbo nb)) (H12:Hid (CRels exCel w P es eo)) :
  Calls Tryd.prog 31 #[.agg #[.slice lo l.length lc,.int .u64 (a:Int),.int .u64 (t:Int),.int .u64 (k:Int),.bool ph,.int .u64 (pn:Int),.bool mh,.int .u64 (mn:Int),.bool gh,.int .u64 (gn:Int),.slice nco nc.length ncc,.slice nbo nb.length nbc,.slice eo es.length ec,.int .u32 (f:Int),strV u]] w (HiCp a t k ph pn nc nb es l f mh mn gh gn u w):=by
 obtain ⟨b1,HBA⟩:∃ b,Hid (w.heap.size=b):=⟨_,Lib.hid rfl⟩
 obtain ⟨b2,HBB⟩:∃ b,Hid (b1+1=b):=⟨_,Lib.hid rfl⟩
 obtain ⟨W,HW⟩:∃ W,Hid ((w.alloc (.cells #[.slice lo l.length lc,.int .u64 (a:Int),.int .u64 (t:Int),.int .u64 (k:Int),.bool ph,.int .u64 (pn:Int),.bool mh,.int .u64 (mn:Int),.bool gh,.int .u64 (gn:Int),.slice nco nc.length ncc,.slice nbo nb.length nbc,.slice eo es.length ec,.int .u32 (f:Int),strV u] 48)).alloc (.cells #[.slice none 0 0,.int .u64 0,.int .u64 0,.int .u64 0,.bool false,.int .u64 0,.bool false,.int .u64 0,.bool false,.int .u64 0,.slice none 0 0,.slice none 0 0,.slice none 0 0,.int .u32 0,.string ⟨#[]⟩] 48)=W):=⟨_,Lib.hid rfl⟩
 have HB:Hid (Below w.heap.size w W):=Lib.hid (by rw[←HW.out];exact below_step (below_new _ _) (below_new _ _))
 have HX1:Hid (W.heap[b1]? = some (.cells #[.slice lo l.length lc,.int .u64 (a:Int),.int .u64 (t:Int),.int .u64 (k:Int),.bool ph,.int .u64 (pn:Int),.bool mh,.int .u64 (mn:Int),.bool gh,.int .u64 (gn:Int),.slice nco nc.length ncc,.slice nbo nb.length nbc,.slice eo es.length ec,.int .u32 (f:Int),strV u] 48 (0,0))):=Lib.hid (by rw[←HW.out,←HBA.out];exact (Below.heap_alloc _ _ _ (by simp)).trans (heap_alloc_new w _))
 have HX2:Hid (W.heap[b2]? = some (.cells #[.slice none 0 0,.int .u64 0,.int .u64 0,.int .u64 0,.bool false,.int .u64 0,.bool false,.int .u64 0,.bool false,.int .u64 0,.slice none 0 0,.slice none 0 0,.slice none 0 0,.int .u32 0,.string ⟨#[]⟩] 48 (0,0))):=Lib.hid (by
  rw[←HW.out,←HBB.out,←HBA.out]
  have h:=heap_alloc_new (w.alloc (.cells #[.slice lo l.length lc,.int .u64 (a:Int),.int .u64 (t:Int),.int .u64 (k:Int),.bool ph,.int .u64 (pn:Int),.bool mh,.int .u64 (mn:Int),.bool gh,.int .u64 (gn:Int),.slice nco nc.length ncc,.slice nbo nb.length nbc,.slice eo es.length ec,.int .u32 (f:Int),strV u] 48)) (.cells #[.slice none 0 0,.int .u64 0,.int .u64 0,.int .u64 0,.bool false,.int .u64 0,.bool false,.int .u64 0,.bool false,.int .u64 0,.slice none 0 0,.slice none 0 0,.slice none 0 0,.int .u32 0,.string ⟨#[]⟩] 48)
  rwa [show (w.alloc (.cells #[.slice lo l.length lc,.int .u64 (a:Int),.int .u64 (t:Int),.int .u64 (k:Int),.bool ph,.int .u64 (pn:Int),.bool mh,.int .u64 (mn:Int),.bool gh,.int .u64 (gn:Int),.slice nco nc.length ncc,.slice nbo nb.length nbc,.slice eo es.length ec,.int .u32 (f:Int),strV u] 48)).heap.size=w.heap.size+1 by simp] at h)
 have hn12:b1≠b2:=by have:=HBB.out;omega
 have HGE:Hid (w.heap.size≤b1∧w.heap.size≤b2∧b1<W.heap.size∧b2<W.heap.size):=Lib.hid ⟨by have:=HBA.out;omega,by have:=HBA.out;have:=HBB.out;omega,row_lt HX1.out,row_lt HX2.out⟩
 go_enter Tryd.func31,Tryd.ntmps31
 go_upto_region 1 with fail
 rw[HW.out,HBA.out,HBB.out]
 have e0:W.cell? ⟨b1,0,none⟩=some (.slice lo l.length lc):=row_cell HX1.out (j:=0) rfl
 have z0:W.frozen? ⟨b1,0,none⟩=false:=row_thaw HX1.out 0
 go_wp2_with fail
 refine (frkeys_any l hw lo lc P W (Lib.hid (H0.out.below HB.out))).mono ?_
 rintro E v0 ⟨hb,lo4,lc4,rfl,hk⟩
 have HV0:=Lib.hid hb
 have HB0:=Lib.hid (below_step HB.out hb)
 have HP0:=Lib.hid ((hb.block _ (row_lt HX1.out)).trans HX1.out)
 have HQ0:=Lib.hid ((hb.block _ (row_lt HX2.out)).trans HX2.out)
 have HK0:=Lib.hid hk
 clear hb hk e0 z0
 have e0:v0.cell? ⟨b1,0,none⟩=some (.slice lo l.length lc):=row_cell HP0.out (j:=0) rfl
 have z0:v0.frozen? ⟨b1,0,none⟩=false:=row_thaw HP0.out 0
 go_upto_region 2 with fail
 obtain ⟨w0,HW0⟩:∃ W,Hid (v0.setCell ⟨b1,0,none⟩ (.slice lo4 l.length lc4)=W):=⟨_,Lib.hid rfl⟩
 rw[HW0.out]
 have HU0:Hid (Upd (fun k=>k=b1) v0 w0):=Lib.hid (by rw[←HW0.out];exact Upd.set v0 ⟨b1,0,none⟩ (.slice lo4 l.length lc4))
 have HC0:Hid (w0.heap[b1]? = some (.cells #[.slice lo4 l.length lc4,.int .u64 (a:Int),.int .u64 (t:Int),.int .u64 (k:Int),.bool ph,.int .u64 (pn:Int),.bool mh,.int .u64 (mn:Int),.bool gh,.int .u64 (gn:Int),.slice nco nc.length ncc,.slice nbo nb.length nbc,.slice eo es.length ec,.int .u32 (f:Int),strV u] 48 (0,0))):=Lib.hid (by rw[←HW0.out];exact row_set HP0.out 0 (.slice lo4 l.length lc4))
 have HD0:=Lib.hid ((HU0.out.block _ (row_lt HQ0.out) (fun h=>hn12 h.symm)).trans HQ0.out)
 have HA0:Hid (Below w.heap.size w w0):=Lib.hid (HB0.out.trans (HU0.out.below HB0.out.size (fun k _ hk=>by have hk:k=b1:=hk;have:=HGE.out;omega)))
 clear e0 z0
 have e10:w0.cell? ⟨b1,10,none⟩=some (.slice nco nc.length ncc):=row_cell HC0.out (j:=10) rfl
 have z10:w0.frozen? ⟨b1,10,none⟩=false:=row_thaw HC0.out 10
 go_wp2_with fail
 refine (frnums_any nc nco ncc w0 hnc (Lib.hid (H10.out.below HA0.out))).mono ?_
 rintro E v1 ⟨hb,lo5,lc5,rfl,hk⟩
 have HV1:=Lib.hid hb
 have HB1:=Lib.hid (below_step HA0.out hb)
 have HP1:=Lib.hid ((hb.block _ (row_lt HC0.out)).trans HC0.out)
 have HQ1:=Lib.hid ((hb.block _ (row_lt HD0.out)).trans HD0.out)
 have HK1:=Lib.hid hk
 clear hb hk e10 z10
 have e10:v1.cell? ⟨b1,10,none⟩=some (.slice nco nc.length ncc):=row_cell HP1.out (j:=10) rfl
 have z10:v1.frozen? ⟨b1,10,none⟩=false:=row_thaw HP1.out 10
 go_upto_region 3 with fail
 obtain ⟨w1,HW1⟩:∃ W,Hid (v1.setCell ⟨b1,10,none⟩ (.slice lo5 nc.length lc5)=W):=⟨_,Lib.hid rfl⟩
 rw[HW1.out]
 have HU1:Hid (Upd (fun k=>k=b1) v1 w1):=Lib.hid (by rw[←HW1.out];exact Upd.set v1 ⟨b1,10,none⟩ (.slice lo5 nc.length lc5))
 have HC1:Hid (w1.heap[b1]? = some (.cells #[.slice lo4 l.length lc4,.int .u64 (a:Int),.int .u64 (t:Int),.int .u64 (k:Int),.bool ph,.int .u64 (pn:Int),.bool mh,.int .u64 (mn:Int),.bool gh,.int .u64 (gn:Int),.slice lo5 nc.length lc5,.slice nbo nb.length nbc,.slice eo es.length ec,.int .u32 (f:Int),strV u] 48 (0,0))):=Lib.hid (by rw[←HW1.out];exact row_set HP1.out 10 (.slice lo5 nc.length lc5))
 have HD1:=Lib.hid ((HU1.out.block _ (row_lt HQ1.out) (fun h=>hn12 h.symm)).trans HQ1.out)
 have HA1:Hid (Below w.heap.size w w1):=Lib.hid (HB1.out.trans (HU1.out.below HB1.out.size (fun k _ hk=>by have hk:k=b1:=hk;have:=HGE.out;omega)))
 clear e10 z10
 have e11:w1.cell? ⟨b1,11,none⟩=some (.slice nbo nb.length nbc):=row_cell HC1.out (j:=11) rfl
 have z11:w1.frozen? ⟨b1,11,none⟩=false:=row_thaw HC1.out 11
 go_wp2_with fail
 refine (frnums_any nb nbo nbc w1 hnb (Lib.hid (H11.out.below HA1.out))).mono ?_
 rintro E v2 ⟨hb,lo6,lc6,rfl,hk⟩
 have HV2:=Lib.hid hb
 have HB2:=Lib.hid (below_step HA1.out hb)
 have HP2:=Lib.hid ((hb.block _ (row_lt HC1.out)).trans HC1.out)
 have HQ2:=Lib.hid ((hb.block _ (row_lt HD1.out)).trans HD1.out)
 have HK2:=Lib.hid hk
 clear hb hk e11 z11
 have e11:v2.cell? ⟨b1,11,none⟩=some (.slice nbo nb.length nbc):=row_cell HP2.out (j:=11) rfl
 have z11:v2.frozen? ⟨b1,11,none⟩=false:=row_thaw HP2.out 11
 go_upto_region 4 with fail
 obtain ⟨w2,HW2⟩:∃ W,Hid (v2.setCell ⟨b1,11,none⟩ (.slice lo6 nb.length lc6)=W):=⟨_,Lib.hid rfl⟩
 rw[HW2.out]
 have HU2:Hid (Upd (fun k=>k=b1) v2 w2):=Lib.hid (by rw[←HW2.out];exact Upd.set v2 ⟨b1,11,none⟩ (.slice lo6 nb.length lc6))
 have HC2:Hid (w2.heap[b1]? = some (.cells #[.slice lo4 l.length lc4,.int .u64 (a:Int),.int .u64 (t:Int),.int .u64 (k:Int),.bool ph,.int .u64 (pn:Int),.bool mh,.int .u64 (mn:Int),.bool gh,.int .u64 (gn:Int),.slice lo5 nc.length lc5,.slice lo6 nb.length lc6,.slice eo es.length ec,.int .u32 (f:Int),strV u] 48 (0,0))):=Lib.hid (by rw[←HW2.out];exact row_set HP2.out 11 (.slice lo6 nb.length lc6))
 have HD2:=Lib.hid ((HU2.out.block _ (row_lt HQ2.out) (fun h=>hn12 h.symm)).trans HQ2.out)
 have HA2:Hid (Below w.heap.size w w2):=Lib.hid (HB2.out.trans (HU2.out.below HB2.out.size (fun k _ hk=>by have hk:k=b1:=hk;have:=HGE.out;omega)))
 clear e11 z11
 have e12:w2.cell? ⟨b1,12,none⟩=some (.slice eo es.length ec):=row_cell HC2.out (j:=12) rfl
 have z12:w2.frozen? ⟨b1,12,none⟩=false:=row_thaw HC2.out 12
 go_wp2_with fail
 refine (frE_any es (Lib.hid (fun x hx=>frex_any x (hew.out x hx))) eo ec P w2 hes (Lib.hid (H12.out.below HA2.out))).mono ?_
 rintro E v3 ⟨hb,lo7,lc7,rfl,hk⟩
 have HV3:=Lib.hid hb
 have HB3:=Lib.hid (below_step HA2.out hb)
 have HP3:=Lib.hid ((hb.block _ (row_lt HC2.out)).trans HC2.out)
 have HQ3:=Lib.hid ((hb.block _ (row_lt HD2.out)).trans HD2.out)
 have HK3:=Lib.hid hk
 clear hb hk e12 z12
 have e12:v3.cell? ⟨b1,12,none⟩=some (.slice eo es.length ec):=row_cell HP3.out (j:=12) rfl
 have z12:v3.frozen? ⟨b1,12,none⟩=false:=row_thaw HP3.out 12
 go_upto_region 5 with fail
 obtain ⟨w3,HW3⟩:∃ W,Hid (v3.setCell ⟨b1,12,none⟩ (.slice lo7 es.length lc7)=W):=⟨_,Lib.hid rfl⟩
 rw[HW3.out]
 have HU3:Hid (Upd (fun k=>k=b1) v3 w3):=Lib.hid (by rw[←HW3.out];exact Upd.set v3 ⟨b1,12,none⟩ (.slice lo7 es.length lc7))
 have HC3:Hid (w3.heap[b1]? = some (.cells #[.slice lo4 l.length lc4,.int .u64 (a:Int),.int .u64 (t:Int),.int .u64 (k:Int),.bool ph,.int .u64 (pn:Int),.bool mh,.int .u64 (mn:Int),.bool gh,.int .u64 (gn:Int),.slice lo5 nc.length lc5,.slice lo6 nb.length lc6,.slice lo7 es.length lc7,.int .u32 (f:Int),strV u] 48 (0,0))):=Lib.hid (by rw[←HW3.out];exact row_set HP3.out 12 (.slice lo7 es.length lc7))
 have HD3:=Lib.hid ((HU3.out.block _ (row_lt HQ3.out) (fun h=>hn12 h.symm)).trans HQ3.out)
 have HA3:Hid (Below w.heap.size w w3):=Lib.hid (HB3.out.trans (HU3.out.below HB3.out.size (fun k _ hk=>by have hk:k=b1:=hk;have:=HGE.out;omega)))
 clear e12 z12
 refine wp_region_lit ?_
 refine wpList_load_mid rfl 48 (.tmp 1) rfl b1 0 rfl [.slice lo4 l.length lc4,.int .u64 (a:Int),.int .u64 (t:Int),.int .u64 (k:Int),.bool ph,.int .u64 (pn:Int),.bool mh,.int .u64 (mn:Int),.bool gh,.int .u64 (gn:Int),.slice lo5 nc.length lc5,.slice lo6 nb.length lc6,.slice lo7 es.length lc7,.int .u32 (f:Int),strV u] _ (range_rowf HC3.out) Tryd.underlying48 rfl (by kernel_rfl) ?_
 refine wpList_store_row rfl 48 (.tmp 2) (.tmp 19) rfl b2 #[.slice lo4 l.length lc4,.int .u64 (a:Int),.int .u64 (t:Int),.int .u64 (k:Int),.bool ph,.int .u64 (pn:Int),.bool mh,.int .u64 (mn:Int),.bool gh,.int .u64 (gn:Int),.slice lo5 nc.length lc5,.slice lo6 nb.length lc6,.slice lo7 es.length lc7,.int .u32 (f:Int),strV u] rfl rfl 48 _ HD3.out (by kernel_rfl) rfl (by simp[Value.oneCell',strV]) ?_
 obtain ⟨wz,HWZ⟩:∃ W,Hid (w3.setRow b2 #[.slice lo4 l.length lc4,.int .u64 (a:Int),.int .u64 (t:Int),.int .u64 (k:Int),.bool ph,.int .u64 (pn:Int),.bool mh,.int .u64 (mn:Int),.bool gh,.int .u64 (gn:Int),.slice lo5 nc.length lc5,.slice lo6 nb.length lc6,.slice lo7 es.length lc7,.int .u32 (f:Int),strV u]=W):=⟨_,Lib.hid rfl⟩
 rw[HWZ.out]
 have HXZ:Hid (wz.heap[b2]? = some (.cells #[.slice lo4 l.length lc4,.int .u64 (a:Int),.int .u64 (t:Int),.int .u64 (k:Int),.bool ph,.int .u64 (pn:Int),.bool mh,.int .u64 (mn:Int),.bool gh,.int .u64 (gn:Int),.slice lo5 nc.length lc5,.slice lo6 nb.length lc6,.slice lo7 es.length lc7,.int .u32 (f:Int),strV u] 48 (0,0))):=Lib.hid (by rw[←HWZ.out];exact setRow_heap _ _ _ _ _ _ HD3.out)
 have HUZ:Hid (Upd (fun k=>k=b2) w3 wz):=Lib.hid (by rw[←HWZ.out];exact upd_setRow _ _ _)
 go_wp2_with fail
 (try simp only[Exit.inBlock,Exit.then])
 refine body_cell1 rfl rfl (run_loadVar_row _ b2 48 48 _ (0,0) _ HXZ.out Tryd.underlying48 rfl (by kernel_rfl)) rfl ?_
 have HBZ:Hid (Below w.heap.size w wz):=Lib.hid (HA3.out.trans (HUZ.out.below HA3.out.size (fun k _ hk=>by have hk:k=b2:=hk;have:=HGE.out;omega)))
 have HSZ:Hid (v0.heap.size≤w0.heap.size∧v1.heap.size≤w1.heap.size∧w1.heap.size≤w2.heap.size∧W.heap.size≤w0.heap.size):=Lib.hid ⟨HU0.out.size,HU1.out.size,Nat.le_trans HV2.out.size HU2.out.size,Nat.le_trans HV0.out.size HU0.out.size⟩
 have HOWN:=HK1
 refine ⟨HBZ.out,lo4,lc4,lo5,lc5,lo6,lc6,lo7,lc7,rfl,?_,?_,?_,?_⟩
 ·exact own_mono9 (((((HU1.out.mono (fun k _ hk=>(.inl hk:k=b1∨k=b2))).trans ((Upd.of_new (S:=fun k=>k=b1∨k=b2) HV2.out).trans (HU2.out.mono (fun k _ hk=>(.inl hk:k=b1∨k=b2))))).trans ((Upd.of_new (S:=fun k=>k=b1∨k=b2) HV3.out).trans (HU3.out.mono (fun k _ hk=>(.inl hk:k=b1∨k=b2))))).trans (HUZ.out.mono (fun k _ hk=>(.inr hk:k=b1∨k=b2)))).own HOWN.out (fun k hk hh=>by have h1:=own_blk HOWN.out hk;have h2:=HGE.out;have h3:=HSZ.out;rcases hh with hh|hh<;>omega)) (HA0.out.size)
 ·exact k_crels (crels_newg HK0.out (((((HU0.out.mono (fun k _ hk=>(.inl hk:k=b1∨k=b2))).trans ((Upd.of_new (S:=fun k=>k=b1∨k=b2) HV1.out).trans (HU1.out.mono (fun k _ hk=>(.inl hk:k=b1∨k=b2))))).trans ((Upd.of_new (S:=fun k=>k=b1∨k=b2) HV2.out).trans (HU2.out.mono (fun k _ hk=>(.inl hk:k=b1∨k=b2))))).trans ((Upd.of_new (S:=fun k=>k=b1∨k=b2) HV3.out).trans (HU3.out.mono (fun k _ hk=>(.inl hk:k=b1∨k=b2))))).trans (HUZ.out.mono (fun k _ hk=>(.inr hk:k=b1∨k=b2)))) (fun k hk=>by have h:=HGE.out;have h2:=Nat.le_refl W.heap.size;rcases hk with hk|hk<;>omega) (HB.out.size) (fun k h1 h2 hk=>by have h3:=own_blk HOWN.out hk;have h4:=HSZ.out;omega))
 ·exact crels_newg (nums_crels HK2.out) (((HU2.out.mono (fun k _ hk=>(.inl hk:k=b1∨k=b2))).trans ((Upd.of_new (S:=fun k=>k=b1∨k=b2) HV3.out).trans (HU3.out.mono (fun k _ hk=>(.inl hk:k=b1∨k=b2))))).trans (HUZ.out.mono (fun k _ hk=>(.inr hk:k=b1∨k=b2)))) (fun k hk=>by have h:=HGE.out;have h2:=Nat.le_trans (Nat.le_trans HV0.out.size HU0.out.size) (Nat.le_trans HV1.out.size HU1.out.size);rcases hk with hk|hk<;>omega) ((HA1.out.size)) (fun k h1 h2 hk=>by have h3:=own_blk HOWN.out hk;have h4:=HSZ.out;omega)
 ·exact crels_newg HK3.out ((HU3.out.mono (fun k _ hk=>(.inl hk:k=b1∨k=b2))).trans (HUZ.out.mono (fun k _ hk=>(.inr hk:k=b1∨k=b2)))) (fun k hk=>by have h:=HGE.out;have h2:=Nat.le_trans (Nat.le_trans (Nat.le_trans HV0.out.size HU0.out.size) (Nat.le_trans HV1.out.size HU1.out.size)) (Nat.le_trans HV2.out.size HU2.out.size);rcases hk with hk|hk<;>omega) ((HA2.out.size)) (fun k h1 h2 hk=>by have h3:=own_blk HOWN.out hk;have h4:=HSZ.out;omega)
open Go.RowKit
def FbPost (o:Int) (cs:List Nat) (U:ByteArray) (w:World) (e:Ending) (w':World):Prop:=Below w.heap.size w w'∧∃ lo lc,e = .returned (.agg #[.int .i32 o,.slice lo cs.length lc,.string U])∧CRels natCel w' (fun k=>w.heap.size≤k∧k<w'.heap.size) cs lo
theorem frbuk_any (o:Int) (cs:List Nat) (U:ByteArray) (ao:Option Addr) (cap:Nat) (w:World) (hl:cs.length≤1000000) (hN:Hid (Nats .u64 w ao cs)) :
  Calls Tryd.prog 50 #[.agg #[.int .i32 o,.slice ao cs.length cap,.string U]] w (FbPost o cs U w):=by
 obtain ⟨b1,HBA⟩:∃ b,Hid (w.heap.size=b):=⟨_,Lib.hid rfl⟩
 obtain ⟨b2,HBB⟩:∃ b,Hid (b1+1=b):=⟨_,Lib.hid rfl⟩
 obtain ⟨W,HW⟩:∃ W,Hid ((w.alloc (.cells #[.int .i32 o,.slice ao cs.length cap,.string U] 28)).alloc (.cells #[.int .i32 0,.slice none 0 0,.string ⟨#[]⟩] 28)=W):=⟨_,Lib.hid rfl⟩
 have HB:Hid (Below w.heap.size w W):=Lib.hid (by rw[←HW.out];exact below_step (below_new _ _) (below_new _ _))
 have HX1:Hid (W.heap[b1]? = some (.cells #[.int .i32 o,.slice ao cs.length cap,.string U] 28 (0,0))):=Lib.hid (by rw[←HW.out,←HBA.out];exact (Below.heap_alloc _ _ _ (by simp)).trans (heap_alloc_new w _))
 have HX2:Hid (W.heap[b2]? = some (.cells #[.int .i32 0,.slice none 0 0,.string ⟨#[]⟩] 28 (0,0))):=Lib.hid (by
  rw[←HW.out,←HBB.out,←HBA.out]
  have h:=heap_alloc_new (w.alloc (.cells #[.int .i32 o,.slice ao cs.length cap,.string U] 28)) (.cells #[.int .i32 0,.slice none 0 0,.string ⟨#[]⟩] 28)
  rwa [show (w.alloc (.cells #[.int .i32 o,.slice ao cs.length cap,.string U] 28)).heap.size=w.heap.size+1 by simp] at h)
 have hn12:b1≠b2:=by have:=HBB.out;omega
 have HGE:Hid (w.heap.size≤b1∧w.heap.size≤b2∧b1<W.heap.size∧b2<W.heap.size):=Lib.hid ⟨by have:=HBA.out;omega,by have:=HBA.out;have:=HBB.out;omega,row_lt HX1.out,row_lt HX2.out⟩
 go_enter Tryd.func50,Tryd.ntmps50
 go_upto_region 1 with fail
 rw[HW.out,HBA.out,HBB.out]
 have e1:W.cell? ⟨b1,1,none⟩=some (.slice ao cs.length cap):=row_cell HX1.out (j:=1) rfl
 go_wp2_with fail
 refine (frnums_any cs ao cap W hl (Lib.hid (hN.out.below HB.out))).mono ?_
 rintro E v0 ⟨hb,lo4,lc4,rfl,hk⟩
 have HV0:=Lib.hid hb
 have HB0:=Lib.hid (below_step HB.out hb)
 have HP0:=Lib.hid ((hb.block _ (row_lt HX1.out)).trans HX1.out)
 have HQ0:=Lib.hid ((hb.block _ (row_lt HX2.out)).trans HX2.out)
 have HK0:=Lib.hid hk
 clear hb hk e1
 have e1:v0.cell? ⟨b1,1,none⟩=some (.slice ao cs.length cap):=row_cell HP0.out (j:=1) rfl
 have z1:v0.frozen? ⟨b1,1,none⟩=false:=row_thaw HP0.out 1
 go_upto_region 2 with fail
 obtain ⟨w0,HW0⟩:∃ W,Hid ((v0.setCell ⟨b1,1,none⟩ (.slice lo4 cs.length lc4))=W):=⟨_,Lib.hid rfl⟩
 rw[HW0.out]
 have HU0:Hid (Upd (fun k=>k=b1) v0 w0):=Lib.hid (by rw[←HW0.out];exact Upd.set v0 ⟨b1,1,none⟩ (.slice lo4 cs.length lc4))
 have hr0:(v0.setCell ⟨b1,1,none⟩ (.slice lo4 cs.length lc4)).heap[b1]? = some (.cells #[.int .i32 o,.slice lo4 cs.length lc4,.string U] 28 (0,0)):=row_set HP0.out 1 (.slice lo4 cs.length lc4)
 have HC0:Hid (w0.heap[b1]? = some (.cells #[.int .i32 o,.slice lo4 cs.length lc4,.string U] 28 (0,0))):=Lib.hid (by rw[←HW0.out];exact hr0)
 clear hr0
 have HD0:=Lib.hid ((HU0.out.block _ (row_lt HQ0.out) (fun h=>hn12 h.symm)).trans HQ0.out)
 have HA0:Hid (Below w.heap.size w w0):=Lib.hid (HB0.out.trans (HU0.out.below HB0.out.size (fun k _ hk=>by have hk:k=b1:=hk;have:=HGE.out;omega)))
 clear e1 z1
 refine wp_region_lit ?_
 refine wpList_load_mid rfl 28 (.tmp 1) rfl b1 0 rfl [.int .i32 o,.slice lo4 cs.length lc4,.string U] _ (range_rowf HC0.out) Tryd.underlying28 rfl (by kernel_rfl) ?_
 refine wpList_store_row rfl 28 (.tmp 2) (.tmp 7) rfl b2 #[.int .i32 o,.slice lo4 cs.length lc4,.string U] rfl rfl 28 _ HD0.out (by kernel_rfl) rfl (by simp[Value.oneCell']) ?_
 obtain ⟨wz,HWZ⟩:∃ W,Hid (w0.setRow b2 #[.int .i32 o,.slice lo4 cs.length lc4,.string U]=W):=⟨_,Lib.hid rfl⟩
 rw[HWZ.out]
 have HXZ:Hid (wz.heap[b2]? = some (.cells #[.int .i32 o,.slice lo4 cs.length lc4,.string U] 28 (0,0))):=Lib.hid (by rw[←HWZ.out];exact setRow_heap _ _ _ _ _ _ HD0.out)
 have HUZ:Hid (Upd (fun k=>k=b2) w0 wz):=Lib.hid (by rw[←HWZ.out];exact upd_setRow _ _ _)
 go_wp2_with fail
 (try simp only[Exit.inBlock,Exit.then])
 refine body_cell1 rfl rfl (run_loadVar_row _ b2 28 28 _ (0,0) _ HXZ.out Tryd.underlying28 rfl (by kernel_rfl)) rfl ?_
 have HBZ:Hid (Below w.heap.size w wz):=Lib.hid (HA0.out.trans (HUZ.out.below HA0.out.size (fun k _ hk=>by have hk:k=b2:=hk;have:=HGE.out;omega)))
 exact ⟨HBZ.out,lo4,lc4,rfl,crels_new (nums_crels HK0.out) ((HU0.out.mono (fun k _ hk=>(.inl hk:k=b1∨k=b2))).trans (HUZ.out.mono (fun k _ hk=>(.inr hk:k=b1∨k=b2)))) (fun k hk=>by have h:=HGE.out;have h2:=Nat.le_refl W.heap.size;rcases hk with hk|hk<;>omega) (HB.out.size)⟩
open Go.ChangeShapes Go.WideShapes Go.ChangeAt Go.RowKit
theorem trodAll_below {H:Type} {enc:TypeId × Value→H} {P:Program} (hl:laidOutB P=true) {W W':World} (hb:Below W.heap.size W W') :
  ∀ {ts:List TypeId} {vs:List Value} {ds:List (DataW H)} {ps:List MemPlace},(∀ t∈ts,P.readableRec t=true∧t<P.types.size) →
   DataW.TrodAll enc P W 0 (fun _=>true) true ts vs ds ps→(∀ x∈ps,x.block<W.heap.size)→DataW.TrodAll enc P W' 0 (fun b=>decide (b<W.heap.size)) true ts vs ds ps
 | [],[],[],_,_,h,_=>h
 | t::ts,v::vs,d::ds,ps,hr,h,hlt=>by
  obtain ⟨p,q,h1,h2,rfl⟩:=h
  exact ⟨p,q,Below.trod hl (hr t (by simp)).1 (hr t (by simp)).2 h1 hb (fun x hx=>hlt x (by simp[hx])),
   trodAll_below hl hb (fun u hu=>hr u (by simp[hu])) h2 (fun x hx=>hlt x (by simp[hx])),rfl⟩
 | [],_::_,_,_,_,h,_=>h.elim
 | [],[],_::_,_,_,h,_=>h.elim
 | _::_,[],_,_,_,h,_=>h.elim
 | _::_,_::_,[],_,_,h,_=>h.elim
theorem law_post {H:Type} {enc:TypeId × Value→H} {P:Program} {f:Func} {spec:ChangeSpec} {B:TypeId} {W W':World} {args:Array Value} {ds gs:List (DataW H)} {before:List MemPlace}
  (hl:laidOutB P=true) (hr:f.params.toList.all (fun t=>P.readableRec t&&decide (t<P.types.size))=true) (hres:f.resultTypes=#[B]) (hB:P.underlying B=some .bool) (hv:spec.vars=[])
  (hW:DataW.Whole enc P f.params.toList spec.vars false W args.toList ds gs before) (hfn:∀ ds,ds.length=f.params.size→spec.fn H ds={ results:=[.lit (.bool true)],args:=ds })
  (hb:Below W.heap.size W W'):spec.post enc P f false true false false W args (.bool true) W':=by
 have hW0:=hW
 obtain ⟨p,q,hA,hV,rfl,_,_⟩:=hW
 have hgs:gs=[]∧q=[]:=by
  rw[hv] at hV
  cases gs with
  | nil=>exact ⟨rfl,hV⟩
  | cons g r=>exact hV.elim
 obtain ⟨rfl,rfl⟩:=hgs
 have hlen:∀ {ts:List TypeId} {vs:List Value} {ds:List (DataW H)} {ps:List MemPlace},DataW.TrodAll enc P W 0 (fun _=>true) true ts vs ds ps→ds.length=ts.length:=by
  intro ts
  induction ts with
  | nil=>intro vs ds ps h;cases vs<;>cases ds<;>first|rfl|exact h.elim
  | cons t ts ih=>intro vs ds ps h;cases vs<;>cases ds<;>first|exact h.elim|(obtain ⟨_,_,_,h2,_⟩:=h;simp[ih h2])
 have hd:ds.length=f.params.size:=by rw[hlen hA];simp
 have e:=hfn ds hd
 have hr':∀ t∈f.params.toList,P.readableRec t=true∧t<P.types.size:=fun t ht=>by
  have:=List.all_eq_true.1 hr t ht
  simpa using this
 refine ⟨ds,[],p++[],[],p,[],hW0,?_,?_,?_,hb.frame _,fun h=>by cases h⟩
 ·rw[List.append_nil,e,hres];exact trodAll_mk1 (shut_bool hB true)
 ·rw[List.append_nil,e];exact trodAll_below hl hb hr' hA (fun x hx=>by simpa using hW0.lt x (by simpa using hx))
 ·rw[List.append_nil,e,hv];rfl
open Go.ChangeShapes Go.WideShapes Go.ChangeAt Go.RowKit
theorem Tryd.own:ownKnob Tryd.prog.godebug=none:=by kernel_rfl
theorem Tryd.et:Tryd.prog.globalNamed "errors.errorType" = some 1:=by kernel_rfl
theorem Tryd.rt:(Tryd.prog.cutTypes.find? (·.1 == "internal/reflectlite.rtype")).map (·.2)=some 147:=by kernel_rfl
theorem Tryd.oneRow:((List.range Tryd.prog.types.size).filter fun t=>Tryd.prog.rowNamed t [101,114,114,111,114])=[39]:=by kernel_rfl
def theLaid:List (String × DataW Unit):=[("errors.errorType",.iface "internal/reflectlite.rtype" (.agg [.ptr (.lit (.string [101,114,114,111,114]))]))]
theorem glob_of_laid {W:World} (h:laidMetH Tryd.prog theLaid W):Glob W:=by
 have h':laidMet Tryd.prog [] W∧handlesMet Tryd.prog theLaid W:=h
 obtain ⟨name,u,ty,e1,e2,e3,e4,e5⟩:=h'.2 _ (List.mem_singleton.2 rfl)
 have en:name=[101,114,114,111,114]:=(Option.some.inj e1).symm
 subst en
 obtain rfl:=Option.some.inj (Tryd.rt.symm.trans e2)
 have hm:ty∈(List.range Tryd.prog.types.size).filter fun t=>Tryd.prog.rowNamed t [101,114,114,111,114]:=List.mem_filter.2 ⟨List.mem_range.2 e3,e4⟩
 rw[Tryd.oneRow] at hm
 obtain rfl:=List.mem_singleton.1 hm
 have hh:typeHandle Tryd.prog 39 = .pointer (some ⟨2,39,none⟩):=by kernel_rfl
 rw[hh] at e5
 simpa [Glob] using World.var?_cell Tryd.et e5 0
noncomputable def laidWorld (os:Os):World :=
 let w0:=World.holding Tryd.prog os ⟨#[],#[],[]⟩
 { w0 with heap:=w0.heap.modify 1 fun
   | .cells _ t frozen => .cells #[.iface 147 (.agg #[.pointer (some ⟨2,39,none⟩)])] t frozen
   | o=>o }
open Go.ChangeShapes Go.WideShapes Go.ChangeAt Go.RowKit
def WideAt (a:Addr) (w:World):Prop:=w.cell? ⟨0,0,none⟩=some (.iface 165 (.pointer (some a)))
theorem Tryd.ew:Tryd.prog.globalNamed "hygrometer/merge.errWide" = some 0:=by kernel_rfl
def twoLaid:List (String × DataW Unit):=theLaid++[("hygrometer/merge.errWide",.iface "*errors.errorString" (.ptr (.agg [.lit (.string [116,111,111,32,119,105,100,101])])))]
theorem starEs : "*" ++ "errors.errorString" = "*errors.errorString" := by decide
theorem Tryd.oneName (u:TypeId) (h:Tryd.prog.typeName? 3 u=some "*errors.errorString"):u=165 :=
 typeName_ptr_named (nm := "errors.errorString") (by rw[starEs];kernel_rfl) (by kernel_rfl) (by decide) u (by rw[starEs];exact h)
theorem glob_of_two {W:World} (h:laidMetH Tryd.prog twoLaid W):Glob W∧∃ a,WideAt a W:=by
 have h':laidMet Tryd.prog [("hygrometer/merge.errWide",.iface "*errors.errorString" (.ptr (.agg [.lit (.string [116,111,111,32,119,105,100,101])])))] W∧handlesMet Tryd.prog theLaid W:=h
 refine ⟨glob_of_laid ⟨laidMet_nil _ _,h'.2⟩,?_⟩
 obtain ⟨a,s,h1,_⟩:=laid_sentinel (ti:=39) (tp:=165) (te:=186) (ts:=9) h'.1 Tryd.ew (by kernel_rfl) Tryd.underlying39 Tryd.oneName Tryd.underlying165 Tryd.underlying186 rfl rfl Tryd.underlying9 (by kernel_rfl) (by kernel_rfl)
 exact ⟨a,by simpa [WideAt] using World.var?_cell Tryd.ew h1 0⟩
noncomputable def twoWorld (os:Os):World :=
 let w0:=laidWorld os
 { w0 with heap:=(w0.heap.modify 0 fun
   | .cells _ t frozen => .cells #[.iface 165 (.pointer (some ⟨w0.heap.size,0,none⟩))] t frozen
   | o=>o).push (.cells #[.string ⟨#[116,111,111,32,119,105,100,101]⟩] 186 (0,0)) }
theorem twoWorld_met (os:Os) (args:Array Value):laidMetH Tryd.prog twoLaid ((twoWorld os).forCall (fun _ _=>0) ⟨#[],args,[]⟩).memory :=
 laidMetH_of_parts (laidMet_of_run3 8 (by kernel_rfl) (by kernel_rfl) (by kernel_rfl)) (by kernel_rfl)
end Go.Proofs.YtoggpnfeioaidaaDoor
