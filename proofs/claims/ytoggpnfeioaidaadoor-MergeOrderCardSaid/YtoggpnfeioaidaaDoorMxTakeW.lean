/-
  (*merge.sides).take, walked.
-/
import Derived.Test.YtoggpnfeioaidaaDoorMxTake
set_option maxRecDepth 1000000
set_option maxHeartbeats 16000000
namespace Go.Proofs.YtoggpnfeioaidaaDoor
open Go.RowKit
theorem SdAt.app {base:Nat} {v v':Value} {ps:List Pt} {x:Pt} {cs:List Value} {css:List (List Value)} {w w':World} (hl:css.length=ps.length) (hr:∀ j (h1:j<ps.length) (h2:j<css.length),ptCel.R w (fun k=>k<base) ps[j] css[j]) (hx:ptCel.R w (fun k=>k<base) x cs) (hg:w.grownBy w' v.ownBlock) (hb:∀ k,v.ownBlock=some k→base≤k) (ho:w'.ownsRow base 65 4 v' (ps.length+1) (css.flatten++cs)):SdAt base v' (ps++[x]) w':=by
 have hu:=Upd.of_grown hg
 refine ⟨css++[cs],by rw[List.flatten_append,List.length_append];simpa using ho,by simp[hl],fun j h1 h2=>?_⟩
 have hup:∀ {y:Pt} {c:List Value},ptCel.R w (fun k=>k<base) y c→ptCel.R w' (fun k=>k<base) y c:=fun h=>ptCel.upd hu (fun k hk hh=>by have:=hb k hh;omega) (fun _ h=>h) h
 rcases Nat.lt_or_ge j ps.length with h|h
 ·rw[List.getElem_append_left h,List.getElem_append_left (by omega)]
  exact hup (hr j h (by omega))
 ·have hj:j=ps.length:=by simp at h1;omega
  subst hj
  rw[List.getElem_append_right (by omega),List.getElem_append_right (by omega)]
  simp[hl]
  exact hup hx
def SidesAt (w:World) (s base:Nat) (pp pn:List Pt):Prop:=∃ tp tn,w.heap[s]? = some (.cells #[tp,tn] 68 (0,0))∧SdAt base tp pp w∧SdAt base tn pn w∧(∀ k,tp.ownBlock=some k→s<k∧tn.ownBlock≠some k)∧(∀ k,tn.ownBlock=some k→s<k)∧base≤s
def MxS (s bx:Nat) (tp tn:Value) (cs:Array Value) (w':World):Prop:=w'.heap[s]? = some (.cells #[tp,tn] 68 (0,0))∧w'.heap[bx]? = some (.cells cs 32 (0,0))
theorem sd_blk {base:Nat} {v:Value} {ps:List Pt} {w:World} (h:SdAt base v ps w) {k:Nat} (hk:v.ownBlock=some k):base≤k∧k<w.heap.size:=by
 obtain ⟨css,h1,_⟩:=h
 exact own_blk h1 hk
theorem mxtake_any (l:List KV) (a t k:Nat) (bp:Bool) (vp:Nat) (bm:Bool) (vm:Nat) (bg:Bool) (vg:Nat) (sc:Int) (zc:Nat) (gp:Bool) (po:Int) (pc:List Nat) (pu:ByteArray) (gn:Bool) (no:Int) (nc:List Nat) (nu:ByteArray) (es:List Ex) (f th:Nat) (u:List UInt8) (lo:Option Addr) (lc:Nat) (pco:Option Addr) (pcc:Nat) (nco:Option Addr) (ncc:Nat) (eo:Option Addr) (ec:Nat) (sh s base:Nat) (pp pn:List Pt) (w:World) (hb0:base≤w.heap.size) (hlp:pp.length≤5) (hln:pn.length≤5) (hS0:Hid (SidesAt w s base pp pn)) (HP0:Hid (CRels natCel w (fun k=>k<base) pc pco)) (HN0:Hid (CRels natCel w (fun k=>k<base) nc nco)) :
  Calls Tryd.prog 61 #[.pointer (some ⟨s,0,none⟩),.agg #[.slice lo l.length lc,.int .u64 (a:Int),.int .u64 (t:Int),.int .u64 (k:Int),.bool bp,.int .u64 (vp:Int),.bool bm,.int .u64 (vm:Int),.bool bg,.int .u64 (vg:Int),.int .i32 sc,.int .u64 (zc:Int),.bool gp,.int .i32 po,.slice pco pc.length pcc,.string pu,.bool gn,.int .i32 no,.slice nco nc.length ncc,.string nu,.slice eo es.length ec,.int .u32 (f:Int),.int .u64 (th:Int),strV u],.int .i64 (sh:Int)] w fun E w'=>E = .returned (.tuple #[])∧Upd (fun k=>s≤k) w w'∧SidesAt w' s base (pp++if gp=true then [⟨po,pc,sh⟩] else []) (pn++if gn=true then [⟨no,nc,sh⟩] else []):=by
 obtain ⟨tp,tn,hr,hsp,hsn,hd1,hd2,hbs⟩:=hS0.out
 obtain ⟨bx,HBN⟩:∃ b,Hid (w.heap.size=b):=⟨_,Lib.hid rfl⟩
 obtain ⟨W,HW⟩:∃ X,Hid (w.alloc (.cells #[.slice lo l.length lc,.int .u64 (a:Int),.int .u64 (t:Int),.int .u64 (k:Int),.bool bp,.int .u64 (vp:Int),.bool bm,.int .u64 (vm:Int),.bool bg,.int .u64 (vg:Int),.int .i32 sc,.int .u64 (zc:Int),.bool gp,.int .i32 po,.slice pco pc.length pcc,.string pu,.bool gn,.int .i32 no,.slice nco nc.length ncc,.string nu,.slice eo es.length ec,.int .u32 (f:Int),.int .u64 (th:Int),strV u] 32)=X):=⟨_,Lib.hid rfl⟩
 have hb:Below w.heap.size w W:=by rw[←HW.out];exact below_new _ _
 have hu:Upd (fun _=>False) w W:=Upd.of_new hb
 have HBX:Hid (W.heap[bx]? = some (.cells #[.slice lo l.length lc,.int .u64 (a:Int),.int .u64 (t:Int),.int .u64 (k:Int),.bool bp,.int .u64 (vp:Int),.bool bm,.int .u64 (vm:Int),.bool bg,.int .u64 (vg:Int),.int .i32 sc,.int .u64 (zc:Int),.bool gp,.int .i32 po,.slice pco pc.length pcc,.string pu,.bool gn,.int .i32 no,.slice nco nc.length ncc,.string nu,.slice eo es.length ec,.int .u32 (f:Int),.int .u64 (th:Int),strV u] 32 (0,0))):=Lib.hid (by rw[←HW.out,←HBN.out];exact heap_alloc_new w _)
 have HR:=Lib.hid ((hb.block _ (row_lt hr)).trans hr)
 have HSP:=Lib.hid (hsp.upd hu (fun _ h=>h.elim) (fun _ _ h=>h))
 have HSN:=Lib.hid (hsn.upd hu (fun _ h=>h.elim) (fun _ _ h=>h))
 have HU:Hid (Upd (fun k=>s≤k) w W):=Lib.hid (hu.mono (fun _ _ h=>h.elim))
 have HD1:=Lib.hid hd1
 have HD2:=Lib.hid hd2
 have HLT:Hid (s<bx∧base≤s):=Lib.hid ⟨by have:=row_lt hr;have:=HBN.out;omega,hbs⟩
 have HBP:Hid (∀ k,tp.ownBlock=some k→base≤k∧k<bx):=Lib.hid (fun k hk=>by have:=sd_blk hsp hk;have:=HBN.out;omega)
 have HBT:Hid (∀ k,tn.ownBlock=some k→base≤k∧k<bx):=Lib.hid (fun k hk=>by have:=sd_blk hsn hk;have:=HBN.out;omega)
 clear hb hu hr hsp hsn hd1 hd2 hS0
 go_enter Tryd.func61,Tryd.ntmps61
 go_upto_region 1 with fail
 rw[HW.out,HBN.out]
 have c12:W.cell? ⟨bx,12,none⟩=some (.bool gp):=row_cell HBX.out (j:=12) rfl
 cases gp with
 | true =>
  go_upto_region 2 with fail
  clear c12
  obtain ⟨css,hown,hcl,hcr⟩:=HSP.out
  have HOWN:=Lib.hid hown
  have HCR:=Lib.hid hcr
  clear hown hcr
  obtain ⟨D,HD⟩:∃ D,Hid (W.drew=D):=⟨_,Lib.hid rfl⟩
  have hud:Upd (fun _=>False) W D:=by rw[←HD.out];exact Upd.drew _ _
  have HRD:Hid (D.heap[s]? = some (.cells #[tp,tn] 68 (0,0))):=Lib.hid ((hud.block _ (row_lt HR.out) (fun h=>h)).trans HR.out)
  have HXD:=Lib.hid ((hud.block _ (row_lt HBX.out) (fun h=>h)).trans HBX.out)
  have HOWD:=Lib.hid (hud.own HOWN.out (fun _ _ h=>h))
  have HOTD:=Lib.hid (HSN.out.upd hud (fun _ h=>h.elim) (fun _ _ h=>h))
  have HCRD:Hid (∀ j (h1:j<pp.length) (h2:j<css.length),ptCel.R D (fun k=>k<base) pp[j] css[j]):=Lib.hid (fun j a b=>ptCel.upd hud (fun _ _ h=>h) (fun _ h=>h) (HCR.out j a b))
  have HUD:=Lib.hid (HU.out.trans (hud.mono (fun _ _ h=>h.elim)))
  clear hud
  have hS:MxS s bx tp tn #[.slice lo l.length lc,.int .u64 (a:Int),.int .u64 (t:Int),.int .u64 (k:Int),.bool bp,.int .u64 (vp:Int),.bool bm,.int .u64 (vm:Int),.bool bg,.int .u64 (vg:Int),.int .i32 sc,.int .u64 (zc:Int),.bool true,.int .i32 po,.slice pco pc.length pcc,.string pu,.bool gn,.int .i32 no,.slice nco nc.length ncc,.string nu,.slice eo es.length ec,.int .u32 (f:Int),.int .u64 (th:Int),strV u] D:=⟨HRD.out,HXD.out⟩
  have hne:Nonempty {w':World // MxS s bx tp tn #[.slice lo l.length lc,.int .u64 (a:Int),.int .u64 (t:Int),.int .u64 (k:Int),.bool bp,.int .u64 (vp:Int),.bool bm,.int .u64 (vm:Int),.bool bg,.int .u64 (vg:Int),.int .i32 sc,.int .u64 (zc:Int),.bool true,.int .i32 po,.slice pco pc.length pcc,.string pu,.bool gn,.int .i32 no,.slice nco nc.length ncc,.string nu,.slice eo es.length ec,.int .u32 (f:Int),.int .u64 (th:Int),strV u] w'}:=⟨⟨_,hS⟩⟩
  have l0:∀ t:{w':World // MxS s bx tp tn #[.slice lo l.length lc,.int .u64 (a:Int),.int .u64 (t:Int),.int .u64 (k:Int),.bool bp,.int .u64 (vp:Int),.bool bm,.int .u64 (vm:Int),.bool bg,.int .u64 (vg:Int),.int .i32 sc,.int .u64 (zc:Int),.bool true,.int .i32 po,.slice pco pc.length pcc,.string pu,.bool gn,.int .i32 no,.slice nco nc.length ncc,.string nu,.slice eo es.length ec,.int .u32 (f:Int),.int .u64 (th:Int),strV u] w'},t.1.cell? ⟨s,0,none⟩=some tp:=fun t=>row_cell t.2.1 (j:=0) rfl
  have l1:∀ t:{w':World // MxS s bx tp tn #[.slice lo l.length lc,.int .u64 (a:Int),.int .u64 (t:Int),.int .u64 (k:Int),.bool bp,.int .u64 (vp:Int),.bool bm,.int .u64 (vm:Int),.bool bg,.int .u64 (vg:Int),.int .i32 sc,.int .u64 (zc:Int),.bool true,.int .i32 po,.slice pco pc.length pcc,.string pu,.bool gn,.int .i32 no,.slice nco nc.length ncc,.string nu,.slice eo es.length ec,.int .u32 (f:Int),.int .u64 (th:Int),strV u] w'},t.1.cell? ⟨bx,13,none⟩=some (.int .i32 po):=fun t=>row_cell t.2.2 (j:=13) rfl
  have l2:∀ t:{w':World // MxS s bx tp tn #[.slice lo l.length lc,.int .u64 (a:Int),.int .u64 (t:Int),.int .u64 (k:Int),.bool bp,.int .u64 (vp:Int),.bool bm,.int .u64 (vm:Int),.bool bg,.int .u64 (vg:Int),.int .i32 sc,.int .u64 (zc:Int),.bool true,.int .i32 po,.slice pco pc.length pcc,.string pu,.bool gn,.int .i32 no,.slice nco nc.length ncc,.string nu,.slice eo es.length ec,.int .u32 (f:Int),.int .u64 (th:Int),strV u] w'},t.1.cell? ⟨bx,14,none⟩=some (.slice pco pc.length pcc):=fun t=>row_cell t.2.2 (j:=14) rfl
  have l3:∀ t:{w':World // MxS s bx tp tn #[.slice lo l.length lc,.int .u64 (a:Int),.int .u64 (t:Int),.int .u64 (k:Int),.bool bp,.int .u64 (vp:Int),.bool bm,.int .u64 (vm:Int),.bool bg,.int .u64 (vg:Int),.int .i32 sc,.int .u64 (zc:Int),.bool true,.int .i32 po,.slice pco pc.length pcc,.string pu,.bool gn,.int .i32 no,.slice nco nc.length ncc,.string nu,.slice eo es.length ec,.int .u32 (f:Int),.int .u64 (th:Int),strV u] w'},t.1.cell? ⟨bx,15,none⟩=some (.string pu):=fun t=>row_cell t.2.2 (j:=15) rfl
  obtain ⟨lo0,cap0,hv0⟩:=HSP.out.slice
  refine wp_region_seqB (MxS s bx tp tn #[.slice lo l.length lc,.int .u64 (a:Int),.int .u64 (t:Int),.int .u64 (k:Int),.bool bp,.int .u64 (vp:Int),.bool bm,.int .u64 (vm:Int),.bool bg,.int .u64 (vg:Int),.int .i32 sc,.int .u64 (zc:Int),.bool true,.int .i32 po,.slice pco pc.length pcc,.string pu,.bool gn,.int .i32 no,.slice nco nc.length ncc,.string nu,.slice eo es.length ec,.int .u32 (f:Int),.int .u64 (th:Int),strV u]) [13] [(0,true),(1,true),(2,true),(3,true),(4,true),(5,true),(6,true),(7,true),(8,true),(9,false),(10,false),(11,false),(12,false),(13,false)] (by kernel_rfl) (by kernel_rfl) (by kernel_rfl) (by kernel_rfl) ?_
  rw[HD.out]
  iterate 9 (refine seqB_take _ rfl hS (fun KC hK=>?_);go_simp;(first|refine hK _ ?_|refine ⟨_,fun _ _=>rfl,hK _ ?_⟩);clear hK KC)
  refine seqB_come _ rfl (fun KC hK=>?_);go_simp
  obtain ⟨A,HA⟩:∃ A,Hid (D.heap.size=A):=⟨_,Lib.hid rfl⟩
  obtain ⟨D1,HD1w⟩:∃ X,Hid (D.alloc (.cells #[.int .i32 po,.slice pco pc.length pcc,.string pu,.int .i64 (sh:Int)] 65)=X):=⟨_,Lib.hid rfl⟩
  rw[HD1w.out,HA.out]
  have hb1:Below D.heap.size D D1:=by rw[←HD1w.out];exact below_new _ _
  have hA1:D1.heap[A]? = some (.cells #[.int .i32 po,.slice pco pc.length pcc,.string pu,.int .i64 (sh:Int)] 65 (0,0)):=by rw[←HD1w.out,←HA.out];exact heap_alloc_new D _
  have hu1:Upd (fun _=>False) D D1:=Upd.of_new hb1
  have HR1:=Lib.hid ((hb1.block _ (row_lt HRD.out)).trans HRD.out)
  have HX1:=Lib.hid ((hb1.block _ (row_lt HXD.out)).trans HXD.out)
  have HOW1:=Lib.hid (hu1.own HOWD.out (fun _ _ h=>h))
  have HOT1:=Lib.hid (HOTD.out.upd hu1 (fun _ h=>h.elim) (fun _ _ h=>h))
  have HCR1:Hid (∀ j (h1:j<pp.length) (h2:j<css.length),ptCel.R D1 (fun k=>k<base) pp[j] css[j]):=Lib.hid (fun j a b=>ptCel.upd hu1 (fun _ _ h=>h) (fun _ h=>h) (HCRD.out j a b))
  have HU1:=Lib.hid (HUD.out.trans (hu1.mono (fun _ _ h=>h.elim)))
  have HA1:=Lib.hid hA1
  have HSZ1:=Lib.hid hb1.size
  clear hb1 hA1 hu1
  have hS2:MxS s bx tp tn #[.slice lo l.length lc,.int .u64 (a:Int),.int .u64 (t:Int),.int .u64 (k:Int),.bool bp,.int .u64 (vp:Int),.bool bm,.int .u64 (vm:Int),.bool bg,.int .u64 (vg:Int),.int .i32 sc,.int .u64 (zc:Int),.bool true,.int .i32 po,.slice pco pc.length pcc,.string pu,.bool gn,.int .i32 no,.slice nco nc.length ncc,.string nu,.slice eo es.length ec,.int .u32 (f:Int),.int .u64 (th:Int),strV u] D1:=⟨HR1.out,HX1.out⟩
  refine hK.out _ _ (fun _=>hS2) ?_;clear hK KC
  refine seqB_come _ rfl (fun KC hK=>?_)
  rw[if_pos (by kernel_rfl)]
  refine wp_app1x (.tmp 12) (.tmp 17) 66 rfl Tryd.elPart (by decide) HOW1.out (show _=tp from hv0.symm) (A:=A) (c:=1) rfl HA1.out rfl (by simp[Value.oneCell']) (by unfold maxLen;omega) (by omega) (by have h1:=HU1.out.size;omega) ?_
  intro v2 D2 hown2 hgrow hbl
  have hug:=Upd.of_grown hgrow
  have hx1:ptCel.R D1 (fun k=>k<base) ⟨po,pc,sh⟩ [.int .i32 po,.slice pco pc.length pcc,.string pu,.int .i64 (sh:Int)]:=⟨pco,pcc,pu,rfl,CRels.upd HU1.out (fun k h hh=>by have:=HLT.out;have h:k<base:=h;have hh:s≤k:=hh;omega) (fun _ h=>h) HP0.out⟩
  have HNEW:Hid (SdAt base v2 (pp++[⟨po,pc,sh⟩]) D2):=Lib.hid (SdAt.app hcl HCR1.out hx1 hgrow (fun k hk=>(HBP.out k hk).1) hown2)
  have hst:∀ k,tp.ownBlock=some k→s<k∧tn.ownBlock≠some k:=HD1.out
  have HR2:Hid (D2.heap[s]? = some (.cells #[tp,tn] 68 (0,0))):=Lib.hid ((hug.block _ (row_lt HR1.out) (fun h=>by have:=hst _ h;omega)).trans HR1.out)
  have HX2:=Lib.hid ((hug.block _ (row_lt HX1.out) (fun h=>by have:=(HBP.out _ h).2;omega)).trans HX1.out)
  have HOT2:=Lib.hid (HOT1.out.upd hug (fun k h=>(HBP.out k h).1) (fun k hk h=>(hst k h).2 hk))
  have HU2:Hid (Upd (fun k=>s≤k) w D2):=Lib.hid (HU1.out.trans (hug.mono (fun k _ h=>by have:=(hst k h).1;show s≤k;omega)))
  have HV2:Hid (∀ k,v2.ownBlock=some k→s<k∧tn.ownBlock≠some k):=Lib.hid (fun k hk=>by
   rcases hbl with h|h
   ·exact hst k (by rw[←h];exact hk)
   ·rw[h] at hk;simp at hk;subst hk;exact ⟨row_lt HR1.out,fun h2=>by have h3:=(sd_blk HOT1.out h2).2;omega⟩)
  have hS3:MxS s bx tp tn #[.slice lo l.length lc,.int .u64 (a:Int),.int .u64 (t:Int),.int .u64 (k:Int),.bool bp,.int .u64 (vp:Int),.bool bm,.int .u64 (vm:Int),.bool bg,.int .u64 (vg:Int),.int .i32 sc,.int .u64 (zc:Int),.bool true,.int .i32 po,.slice pco pc.length pcc,.string pu,.bool gn,.int .i32 no,.slice nco nc.length ncc,.string nu,.slice eo es.length ec,.int .u32 (f:Int),.int .u64 (th:Int),strV u] D2:=⟨HR2.out,HX2.out⟩
  refine hK.out _ _ (fun _=>hS3) ?_;clear hK KC hown2 hgrow hbl hug hx1
  iterate 2 (refine seqB_come _ rfl (fun KC hK=>?_);go_simp;refine hK.out _ _ (fun _=>hS3) ?_;clear hK KC)
  obtain ⟨lz,cz,rfl⟩:∃ lz cz,v2 = .slice lz (pp.length+1) cz:=by obtain ⟨a1,a2,a3⟩:=HNEW.out.slice;exact ⟨a1,a2,by simpa using a3⟩
  have cz0:D2.cell? ⟨s,0,none⟩=some tp:=row_cell HR2.out (j:=0) rfl
  have fz0:D2.frozen? ⟨s,0,none⟩=false:=row_thaw HR2.out 0
  rw[hv0] at cz0
  refine seqB_come _ rfl (fun KC hK=>?_);go_simp;refine hK.out _ _ (fun h=>by cases h) ?_;clear hK KC
  refine seqB_done ?_
  obtain ⟨W2,HW2⟩:∃ X,Hid (D2.setCell ⟨s,0,none⟩ (.slice lz (pp.length+1) cz)=X):=⟨_,Lib.hid rfl⟩
  rw[HW2.out]
  have hu4:Upd (fun k=>k=s) D2 W2:=by rw[←HW2.out];exact Upd.set D2 ⟨s,0,none⟩ _
  have HR9:Hid (W2.heap[s]? = some (.cells #[.slice lz (pp.length+1) cz,tn] 68 (0,0))):=Lib.hid (by rw[←HW2.out];exact row_set HR2.out 0 _)
  have HX9:=Lib.hid ((hu4.block _ (row_lt HX2.out) (fun h=>by have:=HLT.out;omega)).trans HX2.out)
  have HNEW9:=Lib.hid (HNEW.out.upd hu4 (fun k h=>by have:=HLT.out;show base≤k;omega) (fun k hk h=>by have:=(HV2.out k hk).1;omega))
  have HOT9:=Lib.hid (HOT2.out.upd hu4 (fun k h=>by have:=HLT.out;show base≤k;omega) (fun k hk h=>by have:=HD2.out k hk;omega))
  have HU9:Hid (Upd (fun k=>s≤k) w W2):=Lib.hid (HU2.out.trans (hu4.mono (fun k _ h=>by show s≤k;omega)))
  clear HR HSP HSN HOWN HCR HD HRD HXD HOWD HOTD HCRD HUD hS hne l0 l1 l2 l3 HA HD1w HR1 HX1 HOW1 HOT1 HCR1 HU1 HA1 HSZ1 hS2 hS3 HR2 HX2 HOT2 HU2 HNEW cz0 fz0 hu4 hst HU HBX
  have HR:=HR9
  have HBX:=HX9
  have HSP:=HNEW9
  have HSN:=HOT9
  have HU:=HU9
  have HD1:=HV2
  clear HR9 HX9 HNEW9 HOT9 HU9 HV2
  obtain ⟨tp,htp⟩:∃ x,x=Value.slice lz (pp.length+1) cz:=⟨_,rfl⟩
  rw[←htp] at HR HSP HD1
  go_upto_region 3 with fail
  have c16:W2.cell? ⟨bx,16,none⟩=some (.bool gn):=row_cell HBX.out (j:=16) rfl
  cases gn with
  | true =>
   go_upto_region 4 with fail
   clear c16
   obtain ⟨css,hown,hcl,hcr⟩:=HSN.out
   have HOWN:=Lib.hid hown
   have HCR:=Lib.hid hcr
   clear hown hcr
   obtain ⟨D,HD⟩:∃ D,Hid (W2.drew=D):=⟨_,Lib.hid rfl⟩
   have hud:Upd (fun _=>False) W2 D:=by rw[←HD.out];exact Upd.drew _ _
   have HRD:Hid (D.heap[s]? = some (.cells #[tp,tn] 68 (0,0))):=Lib.hid ((hud.block _ (row_lt HR.out) (fun h=>h)).trans HR.out)
   have HXD:=Lib.hid ((hud.block _ (row_lt HBX.out) (fun h=>h)).trans HBX.out)
   have HOWD:=Lib.hid (hud.own HOWN.out (fun _ _ h=>h))
   have HOTD:=Lib.hid (HSP.out.upd hud (fun _ h=>h.elim) (fun _ _ h=>h))
   have HCRD:Hid (∀ j (h1:j<pn.length) (h2:j<css.length),ptCel.R D (fun k=>k<base) pn[j] css[j]):=Lib.hid (fun j a b=>ptCel.upd hud (fun _ _ h=>h) (fun _ h=>h) (HCR.out j a b))
   have HUD:=Lib.hid (HU.out.trans (hud.mono (fun _ _ h=>h.elim)))
   clear hud
   have hS:MxS s bx tp tn #[.slice lo l.length lc,.int .u64 (a:Int),.int .u64 (t:Int),.int .u64 (k:Int),.bool bp,.int .u64 (vp:Int),.bool bm,.int .u64 (vm:Int),.bool bg,.int .u64 (vg:Int),.int .i32 sc,.int .u64 (zc:Int),.bool true,.int .i32 po,.slice pco pc.length pcc,.string pu,.bool true,.int .i32 no,.slice nco nc.length ncc,.string nu,.slice eo es.length ec,.int .u32 (f:Int),.int .u64 (th:Int),strV u] D:=⟨HRD.out,HXD.out⟩
   have hne:Nonempty {w':World // MxS s bx tp tn #[.slice lo l.length lc,.int .u64 (a:Int),.int .u64 (t:Int),.int .u64 (k:Int),.bool bp,.int .u64 (vp:Int),.bool bm,.int .u64 (vm:Int),.bool bg,.int .u64 (vg:Int),.int .i32 sc,.int .u64 (zc:Int),.bool true,.int .i32 po,.slice pco pc.length pcc,.string pu,.bool true,.int .i32 no,.slice nco nc.length ncc,.string nu,.slice eo es.length ec,.int .u32 (f:Int),.int .u64 (th:Int),strV u] w'}:=⟨⟨_,hS⟩⟩
   have l0:∀ t:{w':World // MxS s bx tp tn #[.slice lo l.length lc,.int .u64 (a:Int),.int .u64 (t:Int),.int .u64 (k:Int),.bool bp,.int .u64 (vp:Int),.bool bm,.int .u64 (vm:Int),.bool bg,.int .u64 (vg:Int),.int .i32 sc,.int .u64 (zc:Int),.bool true,.int .i32 po,.slice pco pc.length pcc,.string pu,.bool true,.int .i32 no,.slice nco nc.length ncc,.string nu,.slice eo es.length ec,.int .u32 (f:Int),.int .u64 (th:Int),strV u] w'},t.1.cell? ⟨s,1,none⟩=some tn:=fun t=>row_cell t.2.1 (j:=1) rfl
   have l1:∀ t:{w':World // MxS s bx tp tn #[.slice lo l.length lc,.int .u64 (a:Int),.int .u64 (t:Int),.int .u64 (k:Int),.bool bp,.int .u64 (vp:Int),.bool bm,.int .u64 (vm:Int),.bool bg,.int .u64 (vg:Int),.int .i32 sc,.int .u64 (zc:Int),.bool true,.int .i32 po,.slice pco pc.length pcc,.string pu,.bool true,.int .i32 no,.slice nco nc.length ncc,.string nu,.slice eo es.length ec,.int .u32 (f:Int),.int .u64 (th:Int),strV u] w'},t.1.cell? ⟨bx,17,none⟩=some (.int .i32 no):=fun t=>row_cell t.2.2 (j:=17) rfl
   have l2:∀ t:{w':World // MxS s bx tp tn #[.slice lo l.length lc,.int .u64 (a:Int),.int .u64 (t:Int),.int .u64 (k:Int),.bool bp,.int .u64 (vp:Int),.bool bm,.int .u64 (vm:Int),.bool bg,.int .u64 (vg:Int),.int .i32 sc,.int .u64 (zc:Int),.bool true,.int .i32 po,.slice pco pc.length pcc,.string pu,.bool true,.int .i32 no,.slice nco nc.length ncc,.string nu,.slice eo es.length ec,.int .u32 (f:Int),.int .u64 (th:Int),strV u] w'},t.1.cell? ⟨bx,18,none⟩=some (.slice nco nc.length ncc):=fun t=>row_cell t.2.2 (j:=18) rfl
   have l3:∀ t:{w':World // MxS s bx tp tn #[.slice lo l.length lc,.int .u64 (a:Int),.int .u64 (t:Int),.int .u64 (k:Int),.bool bp,.int .u64 (vp:Int),.bool bm,.int .u64 (vm:Int),.bool bg,.int .u64 (vg:Int),.int .i32 sc,.int .u64 (zc:Int),.bool true,.int .i32 po,.slice pco pc.length pcc,.string pu,.bool true,.int .i32 no,.slice nco nc.length ncc,.string nu,.slice eo es.length ec,.int .u32 (f:Int),.int .u64 (th:Int),strV u] w'},t.1.cell? ⟨bx,19,none⟩=some (.string nu):=fun t=>row_cell t.2.2 (j:=19) rfl
   obtain ⟨lo1,cap1,hv1⟩:=HSN.out.slice
   refine wp_region_seqB (MxS s bx tp tn #[.slice lo l.length lc,.int .u64 (a:Int),.int .u64 (t:Int),.int .u64 (k:Int),.bool bp,.int .u64 (vp:Int),.bool bm,.int .u64 (vm:Int),.bool bg,.int .u64 (vg:Int),.int .i32 sc,.int .u64 (zc:Int),.bool true,.int .i32 po,.slice pco pc.length pcc,.string pu,.bool true,.int .i32 no,.slice nco nc.length ncc,.string nu,.slice eo es.length ec,.int .u32 (f:Int),.int .u64 (th:Int),strV u]) [13] [(0,true),(1,true),(2,true),(3,true),(4,true),(5,true),(6,true),(7,true),(8,true),(9,false),(10,false),(11,false),(12,false),(13,false)] (by kernel_rfl) (by kernel_rfl) (by kernel_rfl) (by kernel_rfl) ?_
   rw[HD.out]
   iterate 9 (refine seqB_take _ rfl hS (fun KC hK=>?_);go_simp;(first|refine hK _ ?_|refine ⟨_,fun _ _=>rfl,hK _ ?_⟩);clear hK KC)
   refine seqB_come _ rfl (fun KC hK=>?_);go_simp
   obtain ⟨A,HA⟩:∃ A,Hid (D.heap.size=A):=⟨_,Lib.hid rfl⟩
   obtain ⟨D1,HD1w⟩:∃ X,Hid (D.alloc (.cells #[.int .i32 no,.slice nco nc.length ncc,.string nu,.int .i64 (sh:Int)] 65)=X):=⟨_,Lib.hid rfl⟩
   rw[HD1w.out,HA.out]
   have hb1:Below D.heap.size D D1:=by rw[←HD1w.out];exact below_new _ _
   have hA1:D1.heap[A]? = some (.cells #[.int .i32 no,.slice nco nc.length ncc,.string nu,.int .i64 (sh:Int)] 65 (0,0)):=by rw[←HD1w.out,←HA.out];exact heap_alloc_new D _
   have hu1:Upd (fun _=>False) D D1:=Upd.of_new hb1
   have HR1:=Lib.hid ((hb1.block _ (row_lt HRD.out)).trans HRD.out)
   have HX1:=Lib.hid ((hb1.block _ (row_lt HXD.out)).trans HXD.out)
   have HOW1:=Lib.hid (hu1.own HOWD.out (fun _ _ h=>h))
   have HOT1:=Lib.hid (HOTD.out.upd hu1 (fun _ h=>h.elim) (fun _ _ h=>h))
   have HCR1:Hid (∀ j (h1:j<pn.length) (h2:j<css.length),ptCel.R D1 (fun k=>k<base) pn[j] css[j]):=Lib.hid (fun j a b=>ptCel.upd hu1 (fun _ _ h=>h) (fun _ h=>h) (HCRD.out j a b))
   have HU1:=Lib.hid (HUD.out.trans (hu1.mono (fun _ _ h=>h.elim)))
   have HA1:=Lib.hid hA1
   have HSZ1:=Lib.hid hb1.size
   clear hb1 hA1 hu1
   have hS2:MxS s bx tp tn #[.slice lo l.length lc,.int .u64 (a:Int),.int .u64 (t:Int),.int .u64 (k:Int),.bool bp,.int .u64 (vp:Int),.bool bm,.int .u64 (vm:Int),.bool bg,.int .u64 (vg:Int),.int .i32 sc,.int .u64 (zc:Int),.bool true,.int .i32 po,.slice pco pc.length pcc,.string pu,.bool true,.int .i32 no,.slice nco nc.length ncc,.string nu,.slice eo es.length ec,.int .u32 (f:Int),.int .u64 (th:Int),strV u] D1:=⟨HR1.out,HX1.out⟩
   refine hK.out _ _ (fun _=>hS2) ?_;clear hK KC
   refine seqB_come _ rfl (fun KC hK=>?_)
   rw[if_pos (by kernel_rfl)]
   refine wp_app1x (.tmp 27) (.tmp 32) 66 rfl Tryd.elPart (by decide) HOW1.out (show _=tn from hv1.symm) (A:=A) (c:=1) rfl HA1.out rfl (by simp[Value.oneCell']) (by unfold maxLen;omega) (by omega) (by have h1:=HU1.out.size;omega) ?_
   intro v2 D2 hown2 hgrow hbl
   have hug:=Upd.of_grown hgrow
   have hx1:ptCel.R D1 (fun k=>k<base) ⟨no,nc,sh⟩ [.int .i32 no,.slice nco nc.length ncc,.string nu,.int .i64 (sh:Int)]:=⟨nco,ncc,nu,rfl,CRels.upd HU1.out (fun k h hh=>by have:=HLT.out;have h:k<base:=h;have hh:s≤k:=hh;omega) (fun _ h=>h) HN0.out⟩
   have HNEW:Hid (SdAt base v2 (pn++[⟨no,nc,sh⟩]) D2):=Lib.hid (SdAt.app hcl HCR1.out hx1 hgrow (fun k hk=>(HBT.out k hk).1) hown2)
   have hst:∀ k,tn.ownBlock=some k→s<k∧tp.ownBlock≠some k:=fun k hk=>⟨HD2.out k hk,fun h=>(HD1.out k h).2 hk⟩
   have HR2:Hid (D2.heap[s]? = some (.cells #[tp,tn] 68 (0,0))):=Lib.hid ((hug.block _ (row_lt HR1.out) (fun h=>by have:=hst _ h;omega)).trans HR1.out)
   have HX2:=Lib.hid ((hug.block _ (row_lt HX1.out) (fun h=>by have:=(HBT.out _ h).2;omega)).trans HX1.out)
   have HOT2:=Lib.hid (HOT1.out.upd hug (fun k h=>(HBT.out k h).1) (fun k hk h=>(hst k h).2 hk))
   have HU2:Hid (Upd (fun k=>s≤k) w D2):=Lib.hid (HU1.out.trans (hug.mono (fun k _ h=>by have:=(hst k h).1;show s≤k;omega)))
   have HV2:Hid (∀ k,v2.ownBlock=some k→s<k∧tp.ownBlock≠some k):=Lib.hid (fun k hk=>by
    rcases hbl with h|h
    ·exact hst k (by rw[←h];exact hk)
    ·rw[h] at hk;simp at hk;subst hk;exact ⟨row_lt HR1.out,fun h2=>by have h3:=(sd_blk HOT1.out h2).2;omega⟩)
   have hS3:MxS s bx tp tn #[.slice lo l.length lc,.int .u64 (a:Int),.int .u64 (t:Int),.int .u64 (k:Int),.bool bp,.int .u64 (vp:Int),.bool bm,.int .u64 (vm:Int),.bool bg,.int .u64 (vg:Int),.int .i32 sc,.int .u64 (zc:Int),.bool true,.int .i32 po,.slice pco pc.length pcc,.string pu,.bool true,.int .i32 no,.slice nco nc.length ncc,.string nu,.slice eo es.length ec,.int .u32 (f:Int),.int .u64 (th:Int),strV u] D2:=⟨HR2.out,HX2.out⟩
   refine hK.out _ _ (fun _=>hS3) ?_;clear hK KC hown2 hgrow hbl hug hx1
   iterate 2 (refine seqB_come _ rfl (fun KC hK=>?_);go_simp;refine hK.out _ _ (fun _=>hS3) ?_;clear hK KC)
   obtain ⟨lz,cz,rfl⟩:∃ lz cz,v2 = .slice lz (pn.length+1) cz:=by obtain ⟨a1,a2,a3⟩:=HNEW.out.slice;exact ⟨a1,a2,by simpa using a3⟩
   have cz0:D2.cell? ⟨s,1,none⟩=some tn:=row_cell HR2.out (j:=1) rfl
   have fz0:D2.frozen? ⟨s,1,none⟩=false:=row_thaw HR2.out 1
   rw[hv1] at cz0
   refine seqB_come _ rfl (fun KC hK=>?_);go_simp;refine hK.out _ _ (fun h=>by cases h) ?_;clear hK KC
   refine seqB_done ?_
   obtain ⟨W4,HW4⟩:∃ X,Hid (D2.setCell ⟨s,1,none⟩ (.slice lz (pn.length+1) cz)=X):=⟨_,Lib.hid rfl⟩
   rw[HW4.out]
   have hu4:Upd (fun k=>k=s) D2 W4:=by rw[←HW4.out];exact Upd.set D2 ⟨s,1,none⟩ _
   have HR9:Hid (W4.heap[s]? = some (.cells #[tp,.slice lz (pn.length+1) cz] 68 (0,0))):=Lib.hid (by rw[←HW4.out];exact row_set HR2.out 1 _)
   have HX9:=Lib.hid ((hu4.block _ (row_lt HX2.out) (fun h=>by have:=HLT.out;omega)).trans HX2.out)
   have HNEW9:=Lib.hid (HNEW.out.upd hu4 (fun k h=>by have:=HLT.out;show base≤k;omega) (fun k hk h=>by have:=(HV2.out k hk).1;omega))
   have HOT9:=Lib.hid (HOT2.out.upd hu4 (fun k h=>by have:=HLT.out;show base≤k;omega) (fun k hk h=>by have:=(fun k hk=>(HD1.out k hk).1) k hk;omega))
   have HU9:Hid (Upd (fun k=>s≤k) w W4):=Lib.hid (HU2.out.trans (hu4.mono (fun k _ h=>by show s≤k;omega)))
   clear HR HSP HSN HOWN HCR HD HRD HXD HOWD HOTD HCRD HUD hS hne l0 l1 l2 l3 HA HD1w HR1 HX1 HOW1 HOT1 HCR1 HU1 HA1 HSZ1 hS2 hS3 HR2 HX2 HOT2 HU2 HNEW cz0 fz0 hu4 hst HU HBX
   have HR:=HR9
   have HBX:=HX9
   have HSN:=HNEW9
   have HSP:=HOT9
   have HU:=HU9
   have HD2:Hid (∀ k,(Value.slice lz (pn.length+1) cz).ownBlock=some k→s<k):=Lib.hid (fun k hk=>(HV2.out k hk).1)
   have HD1:Hid (∀ k,tp.ownBlock=some k→s<k∧(Value.slice lz (pn.length+1) cz).ownBlock≠some k):=Lib.hid (fun k hk=>⟨(HD1.out k hk).1,fun h=>(HV2.out k h).2 hk⟩)
   clear HR9 HX9 HNEW9 HOT9 HU9 HV2
   go_end0
   refine ⟨rfl,HU.out,_,_,HR.out,?_,?_,HD1.out,HD2.out,HLT.out.2⟩
   ·simpa using HSP.out
   ·simpa using HSN.out
  | false =>
   go_wp2_with fail
   clear c16
   go_end0
   refine ⟨rfl,HU.out,_,_,HR.out,?_,?_,HD1.out,HD2.out,HLT.out.2⟩
   ·simpa using HSP.out
   ·simpa using HSN.out
 | false =>
  go_upto_region 3 with fail
  clear c12
  have c16:W.cell? ⟨bx,16,none⟩=some (.bool gn):=row_cell HBX.out (j:=16) rfl
  cases gn with
  | true =>
   go_upto_region 4 with fail
   clear c16
   obtain ⟨css,hown,hcl,hcr⟩:=HSN.out
   have HOWN:=Lib.hid hown
   have HCR:=Lib.hid hcr
   clear hown hcr
   obtain ⟨D,HD⟩:∃ D,Hid (W.drew=D):=⟨_,Lib.hid rfl⟩
   have hud:Upd (fun _=>False) W D:=by rw[←HD.out];exact Upd.drew _ _
   have HRD:Hid (D.heap[s]? = some (.cells #[tp,tn] 68 (0,0))):=Lib.hid ((hud.block _ (row_lt HR.out) (fun h=>h)).trans HR.out)
   have HXD:=Lib.hid ((hud.block _ (row_lt HBX.out) (fun h=>h)).trans HBX.out)
   have HOWD:=Lib.hid (hud.own HOWN.out (fun _ _ h=>h))
   have HOTD:=Lib.hid (HSP.out.upd hud (fun _ h=>h.elim) (fun _ _ h=>h))
   have HCRD:Hid (∀ j (h1:j<pn.length) (h2:j<css.length),ptCel.R D (fun k=>k<base) pn[j] css[j]):=Lib.hid (fun j a b=>ptCel.upd hud (fun _ _ h=>h) (fun _ h=>h) (HCR.out j a b))
   have HUD:=Lib.hid (HU.out.trans (hud.mono (fun _ _ h=>h.elim)))
   clear hud
   have hS:MxS s bx tp tn #[.slice lo l.length lc,.int .u64 (a:Int),.int .u64 (t:Int),.int .u64 (k:Int),.bool bp,.int .u64 (vp:Int),.bool bm,.int .u64 (vm:Int),.bool bg,.int .u64 (vg:Int),.int .i32 sc,.int .u64 (zc:Int),.bool false,.int .i32 po,.slice pco pc.length pcc,.string pu,.bool true,.int .i32 no,.slice nco nc.length ncc,.string nu,.slice eo es.length ec,.int .u32 (f:Int),.int .u64 (th:Int),strV u] D:=⟨HRD.out,HXD.out⟩
   have hne:Nonempty {w':World // MxS s bx tp tn #[.slice lo l.length lc,.int .u64 (a:Int),.int .u64 (t:Int),.int .u64 (k:Int),.bool bp,.int .u64 (vp:Int),.bool bm,.int .u64 (vm:Int),.bool bg,.int .u64 (vg:Int),.int .i32 sc,.int .u64 (zc:Int),.bool false,.int .i32 po,.slice pco pc.length pcc,.string pu,.bool true,.int .i32 no,.slice nco nc.length ncc,.string nu,.slice eo es.length ec,.int .u32 (f:Int),.int .u64 (th:Int),strV u] w'}:=⟨⟨_,hS⟩⟩
   have l0:∀ t:{w':World // MxS s bx tp tn #[.slice lo l.length lc,.int .u64 (a:Int),.int .u64 (t:Int),.int .u64 (k:Int),.bool bp,.int .u64 (vp:Int),.bool bm,.int .u64 (vm:Int),.bool bg,.int .u64 (vg:Int),.int .i32 sc,.int .u64 (zc:Int),.bool false,.int .i32 po,.slice pco pc.length pcc,.string pu,.bool true,.int .i32 no,.slice nco nc.length ncc,.string nu,.slice eo es.length ec,.int .u32 (f:Int),.int .u64 (th:Int),strV u] w'},t.1.cell? ⟨s,1,none⟩=some tn:=fun t=>row_cell t.2.1 (j:=1) rfl
   have l1:∀ t:{w':World // MxS s bx tp tn #[.slice lo l.length lc,.int .u64 (a:Int),.int .u64 (t:Int),.int .u64 (k:Int),.bool bp,.int .u64 (vp:Int),.bool bm,.int .u64 (vm:Int),.bool bg,.int .u64 (vg:Int),.int .i32 sc,.int .u64 (zc:Int),.bool false,.int .i32 po,.slice pco pc.length pcc,.string pu,.bool true,.int .i32 no,.slice nco nc.length ncc,.string nu,.slice eo es.length ec,.int .u32 (f:Int),.int .u64 (th:Int),strV u] w'},t.1.cell? ⟨bx,17,none⟩=some (.int .i32 no):=fun t=>row_cell t.2.2 (j:=17) rfl
   have l2:∀ t:{w':World // MxS s bx tp tn #[.slice lo l.length lc,.int .u64 (a:Int),.int .u64 (t:Int),.int .u64 (k:Int),.bool bp,.int .u64 (vp:Int),.bool bm,.int .u64 (vm:Int),.bool bg,.int .u64 (vg:Int),.int .i32 sc,.int .u64 (zc:Int),.bool false,.int .i32 po,.slice pco pc.length pcc,.string pu,.bool true,.int .i32 no,.slice nco nc.length ncc,.string nu,.slice eo es.length ec,.int .u32 (f:Int),.int .u64 (th:Int),strV u] w'},t.1.cell? ⟨bx,18,none⟩=some (.slice nco nc.length ncc):=fun t=>row_cell t.2.2 (j:=18) rfl
   have l3:∀ t:{w':World // MxS s bx tp tn #[.slice lo l.length lc,.int .u64 (a:Int),.int .u64 (t:Int),.int .u64 (k:Int),.bool bp,.int .u64 (vp:Int),.bool bm,.int .u64 (vm:Int),.bool bg,.int .u64 (vg:Int),.int .i32 sc,.int .u64 (zc:Int),.bool false,.int .i32 po,.slice pco pc.length pcc,.string pu,.bool true,.int .i32 no,.slice nco nc.length ncc,.string nu,.slice eo es.length ec,.int .u32 (f:Int),.int .u64 (th:Int),strV u] w'},t.1.cell? ⟨bx,19,none⟩=some (.string nu):=fun t=>row_cell t.2.2 (j:=19) rfl
   obtain ⟨lo1,cap1,hv1⟩:=HSN.out.slice
   refine wp_region_seqB (MxS s bx tp tn #[.slice lo l.length lc,.int .u64 (a:Int),.int .u64 (t:Int),.int .u64 (k:Int),.bool bp,.int .u64 (vp:Int),.bool bm,.int .u64 (vm:Int),.bool bg,.int .u64 (vg:Int),.int .i32 sc,.int .u64 (zc:Int),.bool false,.int .i32 po,.slice pco pc.length pcc,.string pu,.bool true,.int .i32 no,.slice nco nc.length ncc,.string nu,.slice eo es.length ec,.int .u32 (f:Int),.int .u64 (th:Int),strV u]) [13] [(0,true),(1,true),(2,true),(3,true),(4,true),(5,true),(6,true),(7,true),(8,true),(9,false),(10,false),(11,false),(12,false),(13,false)] (by kernel_rfl) (by kernel_rfl) (by kernel_rfl) (by kernel_rfl) ?_
   rw[HD.out]
   iterate 9 (refine seqB_take _ rfl hS (fun KC hK=>?_);go_simp;(first|refine hK _ ?_|refine ⟨_,fun _ _=>rfl,hK _ ?_⟩);clear hK KC)
   refine seqB_come _ rfl (fun KC hK=>?_);go_simp
   obtain ⟨A,HA⟩:∃ A,Hid (D.heap.size=A):=⟨_,Lib.hid rfl⟩
   obtain ⟨D1,HD1w⟩:∃ X,Hid (D.alloc (.cells #[.int .i32 no,.slice nco nc.length ncc,.string nu,.int .i64 (sh:Int)] 65)=X):=⟨_,Lib.hid rfl⟩
   rw[HD1w.out,HA.out]
   have hb1:Below D.heap.size D D1:=by rw[←HD1w.out];exact below_new _ _
   have hA1:D1.heap[A]? = some (.cells #[.int .i32 no,.slice nco nc.length ncc,.string nu,.int .i64 (sh:Int)] 65 (0,0)):=by rw[←HD1w.out,←HA.out];exact heap_alloc_new D _
   have hu1:Upd (fun _=>False) D D1:=Upd.of_new hb1
   have HR1:=Lib.hid ((hb1.block _ (row_lt HRD.out)).trans HRD.out)
   have HX1:=Lib.hid ((hb1.block _ (row_lt HXD.out)).trans HXD.out)
   have HOW1:=Lib.hid (hu1.own HOWD.out (fun _ _ h=>h))
   have HOT1:=Lib.hid (HOTD.out.upd hu1 (fun _ h=>h.elim) (fun _ _ h=>h))
   have HCR1:Hid (∀ j (h1:j<pn.length) (h2:j<css.length),ptCel.R D1 (fun k=>k<base) pn[j] css[j]):=Lib.hid (fun j a b=>ptCel.upd hu1 (fun _ _ h=>h) (fun _ h=>h) (HCRD.out j a b))
   have HU1:=Lib.hid (HUD.out.trans (hu1.mono (fun _ _ h=>h.elim)))
   have HA1:=Lib.hid hA1
   have HSZ1:=Lib.hid hb1.size
   clear hb1 hA1 hu1
   have hS2:MxS s bx tp tn #[.slice lo l.length lc,.int .u64 (a:Int),.int .u64 (t:Int),.int .u64 (k:Int),.bool bp,.int .u64 (vp:Int),.bool bm,.int .u64 (vm:Int),.bool bg,.int .u64 (vg:Int),.int .i32 sc,.int .u64 (zc:Int),.bool false,.int .i32 po,.slice pco pc.length pcc,.string pu,.bool true,.int .i32 no,.slice nco nc.length ncc,.string nu,.slice eo es.length ec,.int .u32 (f:Int),.int .u64 (th:Int),strV u] D1:=⟨HR1.out,HX1.out⟩
   refine hK.out _ _ (fun _=>hS2) ?_;clear hK KC
   refine seqB_come _ rfl (fun KC hK=>?_)
   rw[if_pos (by kernel_rfl)]
   refine wp_app1x (.tmp 27) (.tmp 32) 66 rfl Tryd.elPart (by decide) HOW1.out (show _=tn from hv1.symm) (A:=A) (c:=1) rfl HA1.out rfl (by simp[Value.oneCell']) (by unfold maxLen;omega) (by omega) (by have h1:=HU1.out.size;omega) ?_
   intro v2 D2 hown2 hgrow hbl
   have hug:=Upd.of_grown hgrow
   have hx1:ptCel.R D1 (fun k=>k<base) ⟨no,nc,sh⟩ [.int .i32 no,.slice nco nc.length ncc,.string nu,.int .i64 (sh:Int)]:=⟨nco,ncc,nu,rfl,CRels.upd HU1.out (fun k h hh=>by have:=HLT.out;have h:k<base:=h;have hh:s≤k:=hh;omega) (fun _ h=>h) HN0.out⟩
   have HNEW:Hid (SdAt base v2 (pn++[⟨no,nc,sh⟩]) D2):=Lib.hid (SdAt.app hcl HCR1.out hx1 hgrow (fun k hk=>(HBT.out k hk).1) hown2)
   have hst:∀ k,tn.ownBlock=some k→s<k∧tp.ownBlock≠some k:=fun k hk=>⟨HD2.out k hk,fun h=>(HD1.out k h).2 hk⟩
   have HR2:Hid (D2.heap[s]? = some (.cells #[tp,tn] 68 (0,0))):=Lib.hid ((hug.block _ (row_lt HR1.out) (fun h=>by have:=hst _ h;omega)).trans HR1.out)
   have HX2:=Lib.hid ((hug.block _ (row_lt HX1.out) (fun h=>by have:=(HBT.out _ h).2;omega)).trans HX1.out)
   have HOT2:=Lib.hid (HOT1.out.upd hug (fun k h=>(HBT.out k h).1) (fun k hk h=>(hst k h).2 hk))
   have HU2:Hid (Upd (fun k=>s≤k) w D2):=Lib.hid (HU1.out.trans (hug.mono (fun k _ h=>by have:=(hst k h).1;show s≤k;omega)))
   have HV2:Hid (∀ k,v2.ownBlock=some k→s<k∧tp.ownBlock≠some k):=Lib.hid (fun k hk=>by
    rcases hbl with h|h
    ·exact hst k (by rw[←h];exact hk)
    ·rw[h] at hk;simp at hk;subst hk;exact ⟨row_lt HR1.out,fun h2=>by have h3:=(sd_blk HOT1.out h2).2;omega⟩)
   have hS3:MxS s bx tp tn #[.slice lo l.length lc,.int .u64 (a:Int),.int .u64 (t:Int),.int .u64 (k:Int),.bool bp,.int .u64 (vp:Int),.bool bm,.int .u64 (vm:Int),.bool bg,.int .u64 (vg:Int),.int .i32 sc,.int .u64 (zc:Int),.bool false,.int .i32 po,.slice pco pc.length pcc,.string pu,.bool true,.int .i32 no,.slice nco nc.length ncc,.string nu,.slice eo es.length ec,.int .u32 (f:Int),.int .u64 (th:Int),strV u] D2:=⟨HR2.out,HX2.out⟩
   refine hK.out _ _ (fun _=>hS3) ?_;clear hK KC hown2 hgrow hbl hug hx1
   iterate 2 (refine seqB_come _ rfl (fun KC hK=>?_);go_simp;refine hK.out _ _ (fun _=>hS3) ?_;clear hK KC)
   obtain ⟨lz,cz,rfl⟩:∃ lz cz,v2 = .slice lz (pn.length+1) cz:=by obtain ⟨a1,a2,a3⟩:=HNEW.out.slice;exact ⟨a1,a2,by simpa using a3⟩
   have cz0:D2.cell? ⟨s,1,none⟩=some tn:=row_cell HR2.out (j:=1) rfl
   have fz0:D2.frozen? ⟨s,1,none⟩=false:=row_thaw HR2.out 1
   rw[hv1] at cz0
   refine seqB_come _ rfl (fun KC hK=>?_);go_simp;refine hK.out _ _ (fun h=>by cases h) ?_;clear hK KC
   refine seqB_done ?_
   obtain ⟨W4,HW4⟩:∃ X,Hid (D2.setCell ⟨s,1,none⟩ (.slice lz (pn.length+1) cz)=X):=⟨_,Lib.hid rfl⟩
   rw[HW4.out]
   have hu4:Upd (fun k=>k=s) D2 W4:=by rw[←HW4.out];exact Upd.set D2 ⟨s,1,none⟩ _
   have HR9:Hid (W4.heap[s]? = some (.cells #[tp,.slice lz (pn.length+1) cz] 68 (0,0))):=Lib.hid (by rw[←HW4.out];exact row_set HR2.out 1 _)
   have HX9:=Lib.hid ((hu4.block _ (row_lt HX2.out) (fun h=>by have:=HLT.out;omega)).trans HX2.out)
   have HNEW9:=Lib.hid (HNEW.out.upd hu4 (fun k h=>by have:=HLT.out;show base≤k;omega) (fun k hk h=>by have:=(HV2.out k hk).1;omega))
   have HOT9:=Lib.hid (HOT2.out.upd hu4 (fun k h=>by have:=HLT.out;show base≤k;omega) (fun k hk h=>by have:=(fun k hk=>(HD1.out k hk).1) k hk;omega))
   have HU9:Hid (Upd (fun k=>s≤k) w W4):=Lib.hid (HU2.out.trans (hu4.mono (fun k _ h=>by show s≤k;omega)))
   clear HR HSP HSN HOWN HCR HD HRD HXD HOWD HOTD HCRD HUD hS hne l0 l1 l2 l3 HA HD1w HR1 HX1 HOW1 HOT1 HCR1 HU1 HA1 HSZ1 hS2 hS3 HR2 HX2 HOT2 HU2 HNEW cz0 fz0 hu4 hst HU HBX
   have HR:=HR9
   have HBX:=HX9
   have HSN:=HNEW9
   have HSP:=HOT9
   have HU:=HU9
   have HD2:Hid (∀ k,(Value.slice lz (pn.length+1) cz).ownBlock=some k→s<k):=Lib.hid (fun k hk=>(HV2.out k hk).1)
   have HD1:Hid (∀ k,tp.ownBlock=some k→s<k∧(Value.slice lz (pn.length+1) cz).ownBlock≠some k):=Lib.hid (fun k hk=>⟨(HD1.out k hk).1,fun h=>(HV2.out k h).2 hk⟩)
   clear HR9 HX9 HNEW9 HOT9 HU9 HV2
   go_end0
   refine ⟨rfl,HU.out,_,_,HR.out,?_,?_,HD1.out,HD2.out,HLT.out.2⟩
   ·simpa using HSP.out
   ·simpa using HSN.out
  | false =>
   go_wp2_with fail
   clear c16
   go_end0
   refine ⟨rfl,HU.out,_,_,HR.out,?_,?_,HD1.out,HD2.out,HLT.out.2⟩
   ·simpa using HSP.out
   ·simpa using HSN.out
end Go.Proofs.YtoggpnfeioaidaaDoor
