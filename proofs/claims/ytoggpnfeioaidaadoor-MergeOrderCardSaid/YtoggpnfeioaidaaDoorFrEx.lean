/-
  ExList, FrEx
-/
import Derived.Test.YtoggpnfeioaidaaDoorFmB
import Derived.Test.YtoggpnfeioaidaaDoorValTake
import Derived.Test.YtoggpnfeioaidaaDoorFrKey
import Derived.Test.YtoggpnfeioaidaaDoorFrV
import Derived.Test.YtoggpnfeioaidaaDoorErrNew
set_option maxRecDepth 1000000
set_option maxHeartbeats 16000000
namespace Go.Proofs.YtoggpnfeioaidaaDoor
open Go.RowKit
theorem Tryd.elExL:Elem Tryd.prog 29 112 (.agg #[.slice none 0 0,.int .u64 0,.int .i64 0,.int .u64 0,.string ⟨#[]⟩,.string ⟨#[]⟩,.string ⟨#[]⟩]) 7 96:=⟨Tryd.underlying29,by kernel_rfl,by decide⟩
open Go.RowKit
theorem frkeys_step (l:List KV) (hone:Hid (∀ x∈l,CpOne kcel 69 x)) (lo:Option Addr) (cap:Nat) (P:Nat→Prop) (w:World) (hl:l.length≤1000000) (h:Hid (CRels kcel w P l lo)) :
  Calls Tryd.prog 49 #[.slice lo l.length cap] w (CpsPost kcel l w):=by
 go_enter Tryd.func49,Tryd.ntmps49
 go_wp2_with fail
 refine (frK_any l hone lo cap P w hl h).mono ?_
 rintro E w1 ⟨hb,lo1,cap1,rfl,hr⟩
 have HB:=Lib.hid hb
 have HR:=Lib.hid hr
 clear hb hr
 go_wp2_with fail
 go_ret
 exact ⟨HB.out,lo1,cap1,rfl,HR.out⟩
theorem frval_step (k:Int) (s:List UInt8) (b:Bool) (n:Nat) (l:List Val) (m:List KV) (i u:List UInt8) (hv:Hid (∀ x∈l,CpOne vcel 74 x)) (hk:Hid (∀ x∈m,CpOne kcel 69 x)) (hl:l.length≤1000000) (hm:m.length≤1000000):CpOne vcel 74 (.mk k s b n l m i u):=by
 intro c P w h
 have h:VRel w P (.mk k s b n l m i u) c:=h
 rw[VRel] at h
 obtain ⟨lo,lc,mo,mc,rfl,h1,h2⟩:=h
 have H1:=Lib.hid (crels_v h1)
 have H2:=Lib.hid (crels_k h2)
 have HKK:=Lib.hid hk
 clear h1 h2 hk
 obtain ⟨b1,HBA⟩:∃ b,Hid (w.heap.size=b):=⟨_,Lib.hid rfl⟩
 obtain ⟨b2,HBB⟩:∃ b,Hid (b1+1=b):=⟨_,Lib.hid rfl⟩
 obtain ⟨W,HW⟩:∃ W,Hid ((w.alloc (.cells #[.int .i64 k,strV s,.bool b,.int .u64 (n:Int),.slice lo l.length lc,.slice mo m.length mc,strV i,strV u] 129)).alloc (.cells #[.int .i64 0,.string ⟨#[]⟩,.bool false,.int .u64 0,.slice none 0 0,.slice none 0 0,.string ⟨#[]⟩,.string ⟨#[]⟩] 129)=W):=⟨_,Lib.hid rfl⟩
 have HB:Hid (Below w.heap.size w W):=Lib.hid (by rw[←HW.out];exact below_step (below_new _ _) (below_new _ _))
 have HX1:Hid (W.heap[b1]? = some (.cells #[.int .i64 k,strV s,.bool b,.int .u64 (n:Int),.slice lo l.length lc,.slice mo m.length mc,strV i,strV u] 129 (0,0))):=Lib.hid (by rw[←HW.out,←HBA.out];exact (Below.heap_alloc _ _ _ (by simp)).trans (heap_alloc_new w _))
 have HX2:Hid (W.heap[b2]? = some (.cells #[.int .i64 0,.string ⟨#[]⟩,.bool false,.int .u64 0,.slice none 0 0,.slice none 0 0,.string ⟨#[]⟩,.string ⟨#[]⟩] 129 (0,0))):=Lib.hid (by
  rw[←HW.out,←HBB.out,←HBA.out]
  have h:=heap_alloc_new (w.alloc (.cells #[.int .i64 k,strV s,.bool b,.int .u64 (n:Int),.slice lo l.length lc,.slice mo m.length mc,strV i,strV u] 129)) (.cells #[.int .i64 0,.string ⟨#[]⟩,.bool false,.int .u64 0,.slice none 0 0,.slice none 0 0,.string ⟨#[]⟩,.string ⟨#[]⟩] 129)
  rwa [show (w.alloc (.cells #[.int .i64 k,strV s,.bool b,.int .u64 (n:Int),.slice lo l.length lc,.slice mo m.length mc,strV i,strV u] 129)).heap.size=w.heap.size+1 by simp] at h)
 have hn12:b1≠b2:=by have:=HBB.out;omega
 have HGE:Hid (w.heap.size≤b1∧w.heap.size≤b2∧b1<W.heap.size∧b2<W.heap.size):=Lib.hid ⟨by have:=HBA.out;omega,by have:=HBA.out;have:=HBB.out;omega,row_lt HX1.out,row_lt HX2.out⟩
 go_enter Tryd.func74,Tryd.ntmps74
 go_upto_region 1 with fail
 rw[HW.out,HBA.out,HBB.out]
 have e4:W.cell? ⟨b1,4,none⟩=some (.slice lo l.length lc):=row_cell HX1.out (j:=4) rfl
 have z4:W.frozen? ⟨b1,4,none⟩=false:=row_thaw HX1.out 4
 go_wp2_with fail
 refine (frV_any l hv lo lc P W hl (Lib.hid (H1.out.below HB.out))).mono ?_
 rintro E v0 ⟨hb,lo4,lc4,rfl,hk⟩
 have HV0:=Lib.hid hb
 have HB0:=Lib.hid (below_step HB.out hb)
 have HP0:=Lib.hid ((hb.block _ (row_lt HX1.out)).trans HX1.out)
 have HQ0:=Lib.hid ((hb.block _ (row_lt HX2.out)).trans HX2.out)
 have HK0:=Lib.hid hk
 clear hb hk e4 z4
 have e4:v0.cell? ⟨b1,4,none⟩=some (.slice lo l.length lc):=row_cell HP0.out (j:=4) rfl
 have z4:v0.frozen? ⟨b1,4,none⟩=false:=row_thaw HP0.out 4
 go_upto_region 2 with fail
 obtain ⟨w0,HW0⟩:∃ W,Hid (v0.setCell ⟨b1,4,none⟩ (.slice lo4 l.length lc4)=W):=⟨_,Lib.hid rfl⟩
 rw[HW0.out]
 have HU0:Hid (Upd (fun k=>k=b1) v0 w0):=Lib.hid (by rw[←HW0.out];exact Upd.set v0 ⟨b1,4,none⟩ (.slice lo4 l.length lc4))
 have HC0:Hid (w0.heap[b1]? = some (.cells #[.int .i64 k,strV s,.bool b,.int .u64 (n:Int),.slice lo4 l.length lc4,.slice mo m.length mc,strV i,strV u] 129 (0,0))):=Lib.hid (by rw[←HW0.out];exact row_set HP0.out 4 (.slice lo4 l.length lc4))
 have HD0:=Lib.hid ((HU0.out.block _ (row_lt HQ0.out) (fun h=>hn12 h.symm)).trans HQ0.out)
 have HA0:Hid (Below w.heap.size w w0):=Lib.hid (HB0.out.trans (HU0.out.below HB0.out.size (fun k _ hk=>by have hk:k=b1:=hk;have:=HGE.out;omega)))
 clear e4 z4
 have e5:w0.cell? ⟨b1,5,none⟩=some (.slice mo m.length mc):=row_cell HC0.out (j:=5) rfl
 have z5:w0.frozen? ⟨b1,5,none⟩=false:=row_thaw HC0.out 5
 go_wp2_with fail
 refine (frkeys_step m HKK.out mo mc P w0 hm (Lib.hid (H2.out.below HA0.out))).mono ?_
 rintro E v1 ⟨hb,lo5,lc5,rfl,hk⟩
 have HV1:=Lib.hid hb
 have HB1:=Lib.hid (below_step HA0.out hb)
 have HP1:=Lib.hid ((hb.block _ (row_lt HC0.out)).trans HC0.out)
 have HQ1:=Lib.hid ((hb.block _ (row_lt HD0.out)).trans HD0.out)
 have HK1:=Lib.hid hk
 clear hb hk e5 z5
 have e5:v1.cell? ⟨b1,5,none⟩=some (.slice mo m.length mc):=row_cell HP1.out (j:=5) rfl
 have z5:v1.frozen? ⟨b1,5,none⟩=false:=row_thaw HP1.out 5
 go_upto_region 3 with fail
 obtain ⟨w1,HW1⟩:∃ W,Hid (v1.setCell ⟨b1,5,none⟩ (.slice lo5 m.length lc5)=W):=⟨_,Lib.hid rfl⟩
 rw[HW1.out]
 have HU1:Hid (Upd (fun k=>k=b1) v1 w1):=Lib.hid (by rw[←HW1.out];exact Upd.set v1 ⟨b1,5,none⟩ (.slice lo5 m.length lc5))
 have HC1:Hid (w1.heap[b1]? = some (.cells #[.int .i64 k,strV s,.bool b,.int .u64 (n:Int),.slice lo4 l.length lc4,.slice lo5 m.length lc5,strV i,strV u] 129 (0,0))):=Lib.hid (by rw[←HW1.out];exact row_set HP1.out 5 (.slice lo5 m.length lc5))
 have HD1:=Lib.hid ((HU1.out.block _ (row_lt HQ1.out) (fun h=>hn12 h.symm)).trans HQ1.out)
 have HA1:Hid (Below w.heap.size w w1):=Lib.hid (HB1.out.trans (HU1.out.below HB1.out.size (fun k _ hk=>by have hk:k=b1:=hk;have:=HGE.out;omega)))
 clear e5 z5
 refine wp_region_lit ?_
 refine wpList_load_mid rfl 129 (.tmp 1) rfl b1 0 rfl [.int .i64 k,strV s,.bool b,.int .u64 (n:Int),.slice lo4 l.length lc4,.slice lo5 m.length lc5,strV i,strV u] _ (range_rowf HC1.out) Tryd.underlying129 rfl (by kernel_rfl) ?_
 refine wpList_store_row rfl 129 (.tmp 2) (.tmp 11) rfl b2 #[.int .i64 k,strV s,.bool b,.int .u64 (n:Int),.slice lo4 l.length lc4,.slice lo5 m.length lc5,strV i,strV u] rfl rfl 129 _ HD1.out (by kernel_rfl) rfl (by simp[Value.oneCell',strV]) ?_
 obtain ⟨wz,HWZ⟩:∃ W,Hid (w1.setRow b2 #[.int .i64 k,strV s,.bool b,.int .u64 (n:Int),.slice lo4 l.length lc4,.slice lo5 m.length lc5,strV i,strV u]=W):=⟨_,Lib.hid rfl⟩
 rw[HWZ.out]
 have HXZ:Hid (wz.heap[b2]? = some (.cells #[.int .i64 k,strV s,.bool b,.int .u64 (n:Int),.slice lo4 l.length lc4,.slice lo5 m.length lc5,strV i,strV u] 129 (0,0))):=Lib.hid (by rw[←HWZ.out];exact setRow_heap _ _ _ _ _ _ HD1.out)
 have HUZ:Hid (Upd (fun k=>k=b2) w1 wz):=Lib.hid (by rw[←HWZ.out];exact upd_setRow _ _ _)
 go_wp2_with fail
 (try simp only[Exit.inBlock,Exit.then])
 refine body_cell1 rfl rfl (run_loadVar_row _ b2 129 129 _ (0,0) _ HXZ.out Tryd.underlying129 rfl (by kernel_rfl)) rfl ?_
 have HBZ:Hid (Below w.heap.size w wz):=Lib.hid (HA1.out.trans (HUZ.out.below HA1.out.size (fun k _ hk=>by have hk:k=b2:=hk;have:=HGE.out;omega)))
 refine ⟨HBZ.out,_,rfl,?_⟩
 show VRel wz _ (.mk k s b n l m i u) _
 rw[VRel]
 exact ⟨lo4,lc4,lo5,lc5,rfl,v_crels (crels_new HK0.out (((HU0.out.mono (fun k _ hk=>(.inl hk:k=b1∨k=b2))).trans ((Upd.of_new (S:=fun k=>k=b1∨k=b2) HV1.out).trans (HU1.out.mono (fun k _ hk=>(.inl hk:k=b1∨k=b2))))).trans (HUZ.out.mono (fun k _ hk=>(.inr hk:k=b1∨k=b2)))) (fun k hk=>by have h:=HGE.out;have h2:=Nat.le_refl W.heap.size;rcases hk with hk|hk<;>omega) (HB.out.size)),k_crels (crels_new HK1.out ((HU1.out.mono (fun k _ hk=>(.inl hk:k=b1∨k=b2))).trans (HUZ.out.mono (fun k _ hk=>(.inr hk:k=b1∨k=b2)))) (fun k hk=>by have h:=HGE.out;have h2:=Nat.le_trans HV0.out.size HU0.out.size;rcases hk with hk|hk<;>omega) ((HA0.out.size)))⟩
open Go.RowKit
theorem eone {w:World} {P:Nat→Prop} {x:Ex} {c:List Value} (h:exCel.R w P x c):c.toArray.all (·.oneCell')=true:=by
 obtain ⟨⟨t,⟨⟨⟨k,n⟩,⟨a,b⟩⟩,l⟩⟩,u⟩:=x
 obtain ⟨lo,lc,rfl,_⟩:=h
 simp[Value.oneCell',strV]
theorem frE_any (l:List Ex) (hone:Hid (∀ x∈l,CpOne exCel 52 x)) (lo:Option Addr) (cap:Nat) (P:Nat→Prop) (w:World) (hl:l.length≤1000000) (h:Hid (CRels exCel w P l lo)) :
  Calls Tryd.prog 51 #[.slice lo l.length cap,.func (.func 52) #[] #[]] w (CpsPost exCel l w):=by
 by_cases h0:l.length=0
 ·obtain rfl:l=[]:=List.length_eq_zero_iff.1 h0
  have d1:(((([]:List Ex).length:Nat):Int) == 0)=true:=rfl
  go_enter Tryd.func51,Tryd.ntmps51
  go_wp2_with fail
  go_ret
  exact ⟨Below.refl _ _,none,0,rfl,CRels.nil _ _ _ _⟩
 ·have d1:((l.length:Int) == 0)=false:=by rw[beq_eq_false_iff_ne];omega
  have hpos:0<l.length:=by omega
  clear h0
  obtain ⟨i0,hi,hz0,hz1,hz2⟩:=info_parts Tryd.elExL.2.1
  go_enter Tryd.func51,Tryd.ntmps51
  go_wp2_with (at_make;refine wpList_make_full _ rfl _ _ 29 rfl w.heap.size 112 i0 _ 7 Tryd.underlying29 hi hz0 hz1 _ _ _ _ l.length rfl rfl rfl rfl (by rw[hz2];omega) (by unfold maxLen;omega) (Nat.le_refl _) ?_;intro w1 hown hgrow)
  have hb1:Below w.heap.size w w1:=(Upd.of_grown hgrow).below (Nat.le_refl _) (fun k _ hk=>by cases hk)
  have hs1:FrS exCel l w.heap.size w.heap.size w1 0:=by
   rcases there_own hown with ⟨h1,h2,h3⟩|h
   ·exact ⟨h2,Nat.le_refl _,h1,fun i _ h=>absurd h (by omega)⟩
   ·omega
  obtain ⟨g,HG⟩:∃ g,Hid (w.heap.size=g):=⟨_,Lib.hid rfl⟩
  rw[HG.out] at hs1 ⊢
  have HB1:=Lib.hid hb1
  have HS1:=Lib.hid hs1
  clear hown hgrow hb1 hs1
  go_loopg [16] l.length (fun k i wr=>∃ j:Nat,i = .int .i64 (j:Int)∧j+k=l.length∧Hid (Below g w wr)∧Hid (FrS exCel l g g wr j))
  case atStart=>exact ⟨0,rfl,by omega,Lib.hid (by rw[←HG.out];exact HB1.out),HS1⟩
  case round =>
   obtain ⟨j,rfl,hj,HB,HS⟩:=hrel
   have HJ:=Lib.hid hj
   clear hj
   by_cases hlt:j<l.length
   ·have hblw:Below w.heap.size w wr:=by rw[HG.out];exact HB.out
    obtain ⟨ga,oa,cs,rfl,_,hga,hca,hra⟩:=(h.out.below hblw) j hlt
    have HCA:=Lib.hid hca
    have HRA:=Lib.hid hra
    have HGA:=Lib.hid hga
    have HLEN:=Lib.hid (exCel.len hra)
    have HONE:=Lib.hid (eone hra)
    clear hca hra hga hblw
    go_upto_region 6 with fail
    refine wp_region_lit ?_
    refine wpList_plain rfl (fun K hK=>?_);go_simp;refine hK _ _ ?_;clear hK K
    refine wpList_plain rfl (fun K hK=>?_);go_simp;refine hK _ _ ?_;clear hK K
    refine wpList_load_mid rfl 112 (.tmp 19) rfl ga (oa+j * 7) rfl cs _ (range_cells (by have h:=HCA.out;rw[show oa+exCel.size * j=oa+j * 7 from by show oa+7 * j=_;omega] at h;exact h)) Tryd.underlying112 rfl (by rw[HLEN.out];kernel_rfl) ?_
    refine wpList_plain rfl (fun K hK=>?_);go_simp;refine hK _ _ ?_;clear hK K
    refine wpList_plain rfl (fun K hK=>?_);go_simp;refine hK _ _ ?_;clear hK K
    have HZ:=heap_alloc_new wr (.cells #[.slice none 0 0,.int .u64 0,.int .i64 0,.int .u64 0,.string ⟨#[]⟩,.string ⟨#[]⟩,.string ⟨#[]⟩] 112)
    refine wpList_store_row rfl 112 (.tmp 7) (.tmp 20) rfl wr.heap.size cs.toArray rfl rfl 112 _ HZ (by rw[List.size_toArray,HLEN.out];kernel_rfl) (by show 7=cs.toArray.size;rw[List.size_toArray,HLEN.out];rfl) HONE.out ?_
    obtain ⟨bx,HBX⟩:∃ x,Hid (wr.heap.size=x):=⟨_,Lib.hid rfl⟩
    obtain ⟨w2,hw⟩:∃ X,(wr.alloc (.cells #[.slice none 0 0,.int .u64 0,.int .i64 0,.int .u64 0,.string ⟨#[]⟩,.string ⟨#[]⟩,.string ⟨#[]⟩] 112)).setRow wr.heap.size cs.toArray=X:=⟨_,rfl⟩
    have hr:w2.heap[bx]? = some (.cells cs.toArray 112 (0,0)):=by rw[←hw,←HBX.out];exact setRow_heap _ _ _ _ _ _ HZ
    have hb:Below wr.heap.size wr w2:=by rw[←hw];exact below_setRow (below_new _ _) (Nat.le_refl _) _
    rw[hw,HBX.out]
    have HR2:=Lib.hid hr
    have HB2:=Lib.hid hb
    clear hr hb hw HZ
    have HS2:=Lib.hid (HS.out.below HB2.out)
    have HRA2:=Lib.hid (exCel.upd (Upd.of_new (S:=fun _=>False) HB2.out) (fun _ _ h=>h) (fun _ h=>h) HRA.out)
    go_upto_region 7 with fail
    refine wp_region_lit ?_
    iterate 3 (refine wpList_plain rfl (fun K hK=>?_);go_simp;refine hK _ _ ?_;clear hK K)
    refine wpList_load_mid rfl 112 (.tmp 7) rfl bx 0 rfl cs _ (range_rowf HR2.out) Tryd.underlying112 rfl (by rw[HLEN.out];kernel_rfl) ?_
    refine wpList_plain rfl (fun K hK=>?_);go_simp
    refine ((hone.out l[j] (List.getElem_mem hlt)) cs P w2 HRA2.out).mono ?_
    rintro E w3 ⟨hb3,cs3,rfl,hr3⟩
    go_simp
    refine hK _ _ ?_;clear hK K
    have HB3:=Lib.hid hb3
    have HS3:=Lib.hid (HS2.out.below hb3)
    have HR3:=Lib.hid hr3
    have HL3:=Lib.hid (exCel.len hr3)
    have HONE3:=Lib.hid (eone hr3)
    clear hb3 hr3
    refine wpList_plain rfl (fun K hK=>?_);go_simp;refine hK _ _ ?_;clear hK K
    refine wpList_store_mid rfl 112 (.tmp 26) (.tmp 25) rfl g (j * 7) cs3.toArray rfl rfl (by
     rw[List.size_toArray,HL3.out,show j * 7=exCel.size * j from by show _=7 * j;omega]
     exact there_part HS3.out.2.2.1 hlt) (by rw[List.size_toArray,HL3.out];kernel_rfl) HONE3.out ?_
    have HE3:Hid (Below wr.heap.size wr w3):=Lib.hid (below_step HB2.out HB3.out)
    obtain ⟨w4,HW4⟩:∃ W,Hid (w3.setCells g (j * 7) cs3.toArray.toList=W):=⟨_,Lib.hid rfl⟩
    have HS4:Hid (FrS exCel l g g w4 (j+1)):=Lib.hid (by
     have h:=HS3.out.store hlt (cs:=cs3) (exCel.upd (Upd.refl (fun _=>False) w3) (fun _ _ h=>h) (fun k hk=>⟨by have:=HS2.out.1;omega,hk.2,by have:=HS2.out.1;omega⟩) HR3.out)
     rw[←HW4.out,show j * 7=exCel.size * j from by show _=7 * j;omega]
     simpa using h)
    have HB4:Hid (Below g w w4):=Lib.hid (by
     have h:=HB.out.trans ((Upd.of_new (S:=fun _=>False) HE3.out).below (by have:=HS.out.1;omega) (fun _ _ h=>h.elim))
     have hu:=upd_setCells g cs3.toArray.toList (j * 7) w3
     rw[HW4.out] at hu
     exact h.trans (hu.below (by have:=HS3.out.1;omega) (fun k _ hk=>by have hk:k=g:=hk;omega)))
    rw[HW4.out]
    clear HS3 HS2 HE3 HW4
    go_wp2_with fail
    have hj:=HJ.out
    go_roundg (gk - 1)
    case measure=>omega
    case rel=>exact ⟨j+1,by simp,by omega,HB4,HS4⟩
   ·have hje:j=l.length:=by have:=HJ.out;omega
    subst hje
    go_wp2_with fail
    go_ret
    refine ⟨by rw[HG.out];exact HB.out,_,_,rfl,?_⟩
    rw[HG.out]
    exact HS.out.done
open Go.RowKit
theorem fvsw_at:∀ {l:List Val} {x:Val},x∈l→vw x≤vsw l
 | [],_,h=>by cases h
 | y::l,x,h=>by
  rw[vsw]
  rcases List.mem_cons.1 h with rfl|h
  ·omega
  ·have:=fvsw_at h;omega
theorem fksw_at:∀ {l:List KV} {x:KV},x∈l→kw x≤ksw l
 | [],_,h=>by cases h
 | y::l,x,h=>by
  rw[ksw]
  rcases List.mem_cons.1 h with rfl|h
  ·omega
  ·have:=fksw_at h;omega
theorem fvsw_len:∀ l:List Val,l.length≤vsw l
 | []=>Nat.zero_le _
 | .mk k s b n l m i u::r=>by
  rw[vsw,vw,List.length_cons]
  have:=fvsw_len r;omega
theorem fksw_len:∀ l:List KV,l.length≤ksw l
 | []=>Nat.zero_le _
 | .mk key has v u::r=>by
  rw[ksw,kw,List.length_cons]
  have:=fksw_len r;omega
theorem cp_all:∀ n:Nat,(∀ x:Val,SizeOf.sizeOf x<n→vw x≤1000000→CpOne vcel 74 x)∧(∀ x:KV,SizeOf.sizeOf x<n→kw x≤1000000→CpOne kcel 69 x)
 | 0=>⟨fun _ h=>by omega,fun _ h=>by omega⟩
 | n+1=>by
  obtain ⟨i1,i2⟩:=cp_all n
  refine ⟨fun x h hw=>?_,fun x h hw=>?_⟩
  ·cases x with|mk k s b n0 l m i u =>
   simp only[Val.mk.sizeOf_spec] at h
   rw[vw] at hw
   have h1:=fvsw_len l
   have h2:=fksw_len m
   exact frval_step k s b n0 l m i u (Lib.hid fun x hx=>i1 x (by have:=List.sizeOf_lt_of_mem hx;omega) (by have:=fvsw_at hx;omega)) (Lib.hid fun x hx=>i2 x (by have:=List.sizeOf_lt_of_mem hx;omega) (by have:=fksw_at hx;omega)) (by omega) (by omega)
  ·cases x with|mk key has v u =>
   simp only[KV.mk.sizeOf_spec] at h
   rw[kw] at hw
   exact frkey_step key has v u (Lib.hid (i1 v (by omega) (by omega)))
theorem frkeys_any (l:List KV) (hw:ksw l≤1000000) (lo:Option Addr) (cap:Nat) (P:Nat→Prop) (w:World) (h:Hid (KRels w P l lo 0)) :
  Calls Tryd.prog 49 #[.slice lo l.length cap] w (CpsPost kcel l w) :=
 frkeys_step l (Lib.hid fun x hx=>(cp_all (SizeOf.sizeOf x+1)).2 x (by omega) (by have:=fksw_at hx;omega)) lo cap P w (by have:=fksw_len l;omega) (Lib.hid (crels_k h.out))
open Go.RowKit
theorem frex_step (t:Nat) (k:Int) (n:Nat) (a b:List UInt8) (l:List KV) (u:List UInt8) (hw:ksw l≤1000000):CpOne exCel 52 ((t,(((k,n),(a,b)),l)),u):=by
 intro c P w h
 obtain ⟨lo,lc,rfl,h1⟩:=h
 have H1:=Lib.hid h1
 clear h1
 obtain ⟨b1,HBA⟩:∃ b,Hid (w.heap.size=b):=⟨_,Lib.hid rfl⟩
 obtain ⟨b2,HBB⟩:∃ b,Hid (b1+1=b):=⟨_,Lib.hid rfl⟩
 obtain ⟨W,HW⟩:∃ W,Hid ((w.alloc (.cells #[.slice lo l.length lc,.int .u64 (t:Int),.int .i64 k,.int .u64 (n:Int),strV a,strV b,strV u] 112)).alloc (.cells #[.slice none 0 0,.int .u64 0,.int .i64 0,.int .u64 0,.string ⟨#[]⟩,.string ⟨#[]⟩,.string ⟨#[]⟩] 112)=W):=⟨_,Lib.hid rfl⟩
 have HB:Hid (Below w.heap.size w W):=Lib.hid (by rw[←HW.out];exact below_step (below_new _ _) (below_new _ _))
 have HX1:Hid (W.heap[b1]? = some (.cells #[.slice lo l.length lc,.int .u64 (t:Int),.int .i64 k,.int .u64 (n:Int),strV a,strV b,strV u] 112 (0,0))):=Lib.hid (by rw[←HW.out,←HBA.out];exact (Below.heap_alloc _ _ _ (by simp)).trans (heap_alloc_new w _))
 have HX2:Hid (W.heap[b2]? = some (.cells #[.slice none 0 0,.int .u64 0,.int .i64 0,.int .u64 0,.string ⟨#[]⟩,.string ⟨#[]⟩,.string ⟨#[]⟩] 112 (0,0))):=Lib.hid (by
  rw[←HW.out,←HBB.out,←HBA.out]
  have h:=heap_alloc_new (w.alloc (.cells #[.slice lo l.length lc,.int .u64 (t:Int),.int .i64 k,.int .u64 (n:Int),strV a,strV b,strV u] 112)) (.cells #[.slice none 0 0,.int .u64 0,.int .i64 0,.int .u64 0,.string ⟨#[]⟩,.string ⟨#[]⟩,.string ⟨#[]⟩] 112)
  rwa [show (w.alloc (.cells #[.slice lo l.length lc,.int .u64 (t:Int),.int .i64 k,.int .u64 (n:Int),strV a,strV b,strV u] 112)).heap.size=w.heap.size+1 by simp] at h)
 have hn12:b1≠b2:=by have:=HBB.out;omega
 have HGE:Hid (w.heap.size≤b1∧w.heap.size≤b2∧b1<W.heap.size∧b2<W.heap.size):=Lib.hid ⟨by have:=HBA.out;omega,by have:=HBA.out;have:=HBB.out;omega,row_lt HX1.out,row_lt HX2.out⟩
 go_enter Tryd.func52,Tryd.ntmps52
 go_upto_region 1 with fail
 rw[HW.out,HBA.out,HBB.out]
 have e0:W.cell? ⟨b1,0,none⟩=some (.slice lo l.length lc):=row_cell HX1.out (j:=0) rfl
 have z0:W.frozen? ⟨b1,0,none⟩=false:=row_thaw HX1.out 0
 go_wp2_with fail
 refine (frkeys_any l hw lo lc P W (Lib.hid (H1.out.below HB.out))).mono ?_
 rintro E v0 ⟨hb,lo4,lc4,rfl,hk⟩
 have HV0:=Lib.hid hb
 have HB0:=Lib.hid (below_step HB.out hb)
 have HP0:=Lib.hid ((hb.block _ (row_lt HX1.out)).trans HX1.out)
 have HQ0:=Lib.hid ((hb.block _ (row_lt HX2.out)).trans HX2.out)
 have HK0:=Lib.hid hk
 clear hb hk e0 z0
 have e0:v0.cell? ⟨b1,0,none⟩=some (.slice lo l.length lc):=row_cell HP0.out (j:=0) rfl
 have z0:v0.frozen? ⟨b1,0,none⟩=false:=row_thaw HP0.out 0
 go_upto_region 2 with fail
 obtain ⟨w0,HW0⟩:∃ W,Hid (v0.setCell ⟨b1,0,none⟩ (.slice lo4 l.length lc4)=W):=⟨_,Lib.hid rfl⟩
 rw[HW0.out]
 have HU0:Hid (Upd (fun k=>k=b1) v0 w0):=Lib.hid (by rw[←HW0.out];exact Upd.set v0 ⟨b1,0,none⟩ (.slice lo4 l.length lc4))
 have HC0:Hid (w0.heap[b1]? = some (.cells #[.slice lo4 l.length lc4,.int .u64 (t:Int),.int .i64 k,.int .u64 (n:Int),strV a,strV b,strV u] 112 (0,0))):=Lib.hid (by rw[←HW0.out];exact row_set HP0.out 0 (.slice lo4 l.length lc4))
 have HD0:=Lib.hid ((HU0.out.block _ (row_lt HQ0.out) (fun h=>hn12 h.symm)).trans HQ0.out)
 have HA0:Hid (Below w.heap.size w w0):=Lib.hid (HB0.out.trans (HU0.out.below HB0.out.size (fun k _ hk=>by have hk:k=b1:=hk;have:=HGE.out;omega)))
 clear e0 z0
 refine wp_region_lit ?_
 refine wpList_load_mid rfl 112 (.tmp 1) rfl b1 0 rfl [.slice lo4 l.length lc4,.int .u64 (t:Int),.int .i64 k,.int .u64 (n:Int),strV a,strV b,strV u] _ (range_rowf HC0.out) Tryd.underlying112 rfl (by kernel_rfl) ?_
 refine wpList_store_row rfl 112 (.tmp 2) (.tmp 7) rfl b2 #[.slice lo4 l.length lc4,.int .u64 (t:Int),.int .i64 k,.int .u64 (n:Int),strV a,strV b,strV u] rfl rfl 112 _ HD0.out (by kernel_rfl) rfl (by simp[Value.oneCell',strV]) ?_
 obtain ⟨wz,HWZ⟩:∃ W,Hid (w0.setRow b2 #[.slice lo4 l.length lc4,.int .u64 (t:Int),.int .i64 k,.int .u64 (n:Int),strV a,strV b,strV u]=W):=⟨_,Lib.hid rfl⟩
 rw[HWZ.out]
 have HXZ:Hid (wz.heap[b2]? = some (.cells #[.slice lo4 l.length lc4,.int .u64 (t:Int),.int .i64 k,.int .u64 (n:Int),strV a,strV b,strV u] 112 (0,0))):=Lib.hid (by rw[←HWZ.out];exact setRow_heap _ _ _ _ _ _ HD0.out)
 have HUZ:Hid (Upd (fun k=>k=b2) w0 wz):=Lib.hid (by rw[←HWZ.out];exact upd_setRow _ _ _)
 go_wp2_with fail
 (try simp only[Exit.inBlock,Exit.then])
 refine body_cell1 rfl rfl (run_loadVar_row _ b2 112 112 _ (0,0) _ HXZ.out Tryd.underlying112 rfl (by kernel_rfl)) rfl ?_
 have HBZ:Hid (Below w.heap.size w wz):=Lib.hid (HA0.out.trans (HUZ.out.below HA0.out.size (fun k _ hk=>by have hk:k=b2:=hk;have:=HGE.out;omega)))
 refine ⟨HBZ.out,_,rfl,?_⟩
 exact ⟨lo4,lc4,rfl,k_crels (crels_new HK0.out ((HU0.out.mono (fun k _ hk=>(.inl hk:k=b1∨k=b2))).trans (HUZ.out.mono (fun k _ hk=>(.inr hk:k=b1∨k=b2)))) (fun k hk=>by have h:=HGE.out;have h2:=Nat.le_refl W.heap.size;rcases hk with hk|hk<;>omega) (HB.out.size))⟩
end Go.Proofs.YtoggpnfeioaidaaDoor
