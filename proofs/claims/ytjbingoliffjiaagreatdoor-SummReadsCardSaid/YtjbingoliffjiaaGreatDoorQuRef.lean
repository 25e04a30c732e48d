/-
  hygref13.readQuantile.
-/
import Derived.Test.YtjbingoliffjiaaGreatDoorClb
import Derived.Test.YtjbingoliffjiaaGreatDoorRefList
import Derived.Test.YtjbingoliffjiaaGreatDoorQuRead
import Derived.Test.YtjbingoliffjiaaGreatDoorQuTab
set_option maxRecDepth 1000000
set_option maxHeartbeats 16000000
namespace Go.Proofs.YtjbingoliffjiaaGreatDoor
open Go.RowKit
theorem row3q {w:World} {g:Nat} {c0 c1 c2:Value} {T:TypeId} {fr:Nat × Nat} (h:w.heap[g]? = some (.cells #[c0,c1,c2] T fr)):w.cell? ⟨g,0,none⟩=some c0∧w.cell? ⟨g,1,none⟩=some c1∧w.cell? ⟨g,2,none⟩=some c2:=⟨row_cell h (j:=0) rfl,row_cell h (j:=1) rfl,row_cell h (j:=2) rfl⟩
def RcAt (w':World) (gr j:Nat) (r:Rec):Prop:=w'.cell? ⟨gr,j * 5,none⟩=some (.int .i64 (r.num:Int))∧w'.cell? ⟨gr,j * 5+1,none⟩=some (.int .i64 (r.ty:Int))∧w'.cell? ⟨gr,j * 5+2,none⟩=some (.int .u64 (r.n:Int))∧w'.cell? ⟨gr,j * 5+3,none⟩=some (.string ⟨r.s.toArray⟩)∧w'.cell? ⟨gr,j * 5+4,none⟩=some (.string ⟨r.raw.toArray⟩)
theorem RcAt.below {w w':World} {gr j:Nat} {r:Rec} (h:RcAt w gr j r) (hg:gr<w.heap.size) (hb:Below w.heap.size w w'):RcAt w' gr j r:=by
 obtain ⟨h0,h1,h2,h3,h4⟩:=h
 exact ⟨(hb.cell (p:=⟨gr,j * 5,none⟩) hg).trans h0,(hb.cell (p:=⟨gr,j * 5+1,none⟩) hg).trans h1,(hb.cell (p:=⟨gr,j * 5+2,none⟩) hg).trans h2,(hb.cell (p:=⟨gr,j * 5+3,none⟩) hg).trans h3,(hb.cell (p:=⟨gr,j * 5+4,none⟩) hg).trans h4⟩
def RcU (w':World) (gr j:Nat) (r:Rec) (bx:Nat) (U:ByteArray):Prop:=RcAt w' gr j r∧w'.cell? ⟨bx,2,none⟩=some (.string U)
theorem qu_refread (X:ByteArray) (d:Int) (w:World) (hX:X.size≤500000) (hd : -9223372036854775808≤d∧d≤9223372036854775807) :
  Calls Tryz.prog 98 #[.string X,.int .i64 d] w (RfPost quCel quzero (qurd X.data.toList d) w):=by
 obtain ⟨g,hg⟩:∃ g,w.heap.size=g:=⟨_,rfl⟩
 obtain ⟨W0,hW0⟩:∃ W0,w.alloc (.cells #[.int .u64 0,.int .u64 0,.string ⟨#[]⟩] 141)=W0:=⟨_,rfl⟩
 have HB0:Hid (Below w.heap.size w W0):=Lib.hid (by rw[←hW0];exact below_new _ _)
 have HG0:Hid (W0.heap[g]? = some (.cells #[.int .u64 0,.int .u64 0,.string ⟨#[]⟩] 141 (0,0))):=Lib.hid (by rw[←hW0,←hg];exact heap_alloc_new w _)
 have HF:=Lib.hid (fields_any X d W0 (by omega) hd.2)
 have HW0:=Lib.hid hW0
 have HGG:=Lib.hid hg
 have HSS:=Lib.hid hX
 clear hW0 hd hX hg
 cases hw:wfields X.data.toList d with
 | error c =>
  have HBR:Hid (qurd X.data.toList d = .error c):=Lib.hid ((mread_fields (σ:=Nat × Nat)).trans (by rw[hw]))
  have HW:=Lib.hid hw
  clear hw
  go_enter Tryz.func98,Tryz.ntmps98
  go_wp2_with fail
  rw[HW0.out,HGG.out]
  refine HF.out.mono ?_;intro e w1 hpost
  unfold FieldsPost at hpost
  rw[HW.out] at hpost
  obtain ⟨hb1,rfl⟩:=hpost
  have HB1:=Lib.hid (below_step HB0.out hb1)
  have HG1:Hid (w1.heap[g]? = some (.cells #[.int .u64 0,.int .u64 0,.string ⟨#[]⟩] 141 (0,0))):=Lib.hid ((hb1.block _ (row_lt HG0.out)).trans HG0.out)
  clear hb1
  go_wp2_with fail
  obtain ⟨bx,hbx⟩:∃ bx,w1.heap.size=bx:=⟨_,rfl⟩
  obtain ⟨W2,hW2⟩:∃ W2,w1.alloc (.cells #[.int .u64 0,.int .u64 0,.string ⟨#[]⟩] 141)=W2:=⟨_,rfl⟩
  have HB2:Hid (Below w.heap.size w W2):=Lib.hid (by rw[←hW2];exact below_step HB1.out (below_new _ _))
  have HG2:Hid (W2.heap[g]? = some (.cells #[.int .u64 0,.int .u64 0,.string ⟨#[]⟩] 141 (0,0))):=Lib.hid (by rw[←hW2];exact (Below.heap_alloc _ _ _ (row_lt HG1.out)).trans HG1.out)
  have HX2:Hid (W2.heap[bx]? = some (.cells #[.int .u64 0,.int .u64 0,.string ⟨#[]⟩] 141 (0,0))):=Lib.hid (by rw[←hW2,←hbx];exact heap_alloc_new w1 _)
  rw[hW2,hbx]
  clear hW2 hbx
  go_loopg [9] 0 (fun k i wr=>i = .int .i64 0∧wr=W2)
  case atStart=>exact ⟨rfl,rfl⟩
  case round =>
   obtain ⟨rfl,rfl⟩:=hrel
   obtain ⟨ha0,ha1,ha2⟩:=row3q HX2.out
   have hz0:wr.cell? ⟨g,0,none⟩=some (.int .u64 0):=row_cell HG2.out (j:=0) rfl
   have fz0:wr.frozen? ⟨g,0,none⟩=false:=row_thaw HG2.out 0
   have hz1:wr.cell? ⟨g,1,none⟩=some (.int .u64 0):=row_cell HG2.out (j:=1) rfl
   have fz1:wr.frozen? ⟨g,1,none⟩=false:=row_thaw HG2.out 1
   have hz2:wr.cell? ⟨g,2,none⟩=some (.string ⟨#[]⟩):=row_cell HG2.out (j:=2) rfl
   have fz2:wr.frozen? ⟨g,2,none⟩=false:=row_thaw HG2.out 2
   go_wp2_with fail
   obtain ⟨hr,hua⟩:=qu_set HG2.out (.int .u64 0) (.int .u64 0) (.string ⟨#[]⟩)
   refine body_cell2v rfl rfl (load_qu hr rfl) rfl ?_
   refine ⟨HB2.out.trans (hua.below (by have:=HB2.out.size;omega) (fun k _ h=>by have h:k=g:=h;have:=HGG.out;omega)),?_⟩
   rw[HBR.out]
   exact rfl
 | ok rs =>
  have HBR:=Lib.hid (mread_of_fields (σ:=Nat × Nat) (tk:=quF.tk) (step:=quF.step d) (st:=quF.z) hw)
  have HD0:Hid (0≤d):=Lib.hid (by unfold wfields at hw;split at hw;cases hw;omega)
  have HWA:Hid (wall X.data.toList d = .ok rs):=Lib.hid (by unfold wfields at hw;split at hw;cases hw;exact hw)
  have HLL:Hid (rs.length≤X.size):=Lib.hid (by have:=wall_length HWA.out;simpa using this)
  have HRAW:Hid (rs.flatMap Rec.raw=X.data.toList):=Lib.hid (wall_raws _ (Nat.le_refl _) HWA.out).1
  have HREC:Hid (∀ r∈rs,IsRec d r):=Lib.hid (wall_recs _ (Nat.le_refl _) HWA.out)
  have HW:=Lib.hid hw
  clear hw
  go_enter Tryz.func98,Tryz.ntmps98
  go_wp2_with fail
  rw[HW0.out,HGG.out]
  refine HF.out.mono ?_;intro e w1 hpost
  unfold FieldsPost at hpost
  rw[HW.out] at hpost
  obtain ⟨hb1,u,rfl,hown⟩:=hpost
  obtain ⟨lo,lcap,rfl⟩:=own_slice hown
  have HB1:=Lib.hid (below_step HB0.out hb1)
  have HO1:=Lib.hid hown
  have HG1:Hid (w1.heap[g]? = some (.cells #[.int .u64 0,.int .u64 0,.string ⟨#[]⟩] 141 (0,0))):=Lib.hid ((hb1.block _ (row_lt HG0.out)).trans HG0.out)
  clear hb1 hown
  go_wp2_with fail
  obtain ⟨bx,hbx⟩:∃ bx,w1.heap.size=bx:=⟨_,rfl⟩
  obtain ⟨W2,hW2⟩:∃ W2,w1.alloc (.cells #[.int .u64 0,.int .u64 0,.string ⟨#[]⟩] 141)=W2:=⟨_,rfl⟩
  have HB2:Hid (Below bx w1 W2):=Lib.hid (by rw[←hW2,←hbx];exact below_new _ _)
  have HX2:Hid (W2.heap[bx]? = some (.cells #[.int .u64 0,.int .u64 0,.string ⟨#[]⟩] 141 (0,0))):=Lib.hid (by rw[←hW2,←hbx];exact heap_alloc_new w1 _)
  rw[hW2,hbx]
  have HBX:=Lib.hid hbx
  clear hW2 hbx
  go_loopg [9] rs.length (fun k i wr=>∃ (j q v:Nat) (U:ByteArray),i = .int .i64 (j:Int)∧j+k=rs.length∧Below bx w1 wr∧wr.heap[bx]? = some (.cells #[.int .u64 (q:Int),.int .u64 (v:Int),.string U] 141 (0,0))∧Hid (mfold (σ:=Nat × Nat) quF.tk (quF.step d) quF.z (rs.take j) = .ok (q,v))∧Hid (U.data.toList=munk quF.tk (rs.take j)))
  case atStart=>exact ⟨0,0,0,⟨#[]⟩,rfl,by omega,HB2.out,HX2.out,Lib.hid rfl,Lib.hid rfl⟩
  case round =>
   obtain ⟨j,q,v,U,rfl,hj,hbr,hx,HM,HU⟩:=hrel
   have HBR1:=Lib.hid hbr
   have HX1:=Lib.hid hx
   have HJ:=Lib.hid hj
   have hjl:j≤1000000:=by have:=HLL.out;have:=HSS.out;omega
   have HGR:Hid (wr.heap[g]? = some (.cells #[.int .u64 0,.int .u64 0,.string ⟨#[]⟩] 141 (0,0))):=Lib.hid ((hbr.block _ (by have:=row_lt HG1.out;have:=HBX.out;omega)).trans HG1.out)
   have HWB:Hid (Below w.heap.size w wr):=Lib.hid (HB1.out.trans (hbr.mono (by have:=HB1.out.size;have:=HBX.out;omega)))
   clear hbr hx hj
   by_cases hlt:j<rs.length
   case neg =>
    have hjn:j=rs.length:=by have:=HJ.out;omega
    have hm:=HM.out
    have hu:=HU.out
    rw[hjn,List.take_length] at hm hu
    have HBE:Hid (qurd X.data.toList d = .ok ((q,v),U.data.toList)):=Lib.hid (by rw[hu];exact HBR.out.2 _ hm)
    obtain ⟨ha0,ha1,ha2⟩:=row3q HX1.out
    have hz0:wr.cell? ⟨g,0,none⟩=some (.int .u64 0):=row_cell HGR.out (j:=0) rfl
    have fz0:wr.frozen? ⟨g,0,none⟩=false:=row_thaw HGR.out 0
    have hz1:wr.cell? ⟨g,1,none⟩=some (.int .u64 0):=row_cell HGR.out (j:=1) rfl
    have fz1:wr.frozen? ⟨g,1,none⟩=false:=row_thaw HGR.out 1
    have hz2:wr.cell? ⟨g,2,none⟩=some (.string ⟨#[]⟩):=row_cell HGR.out (j:=2) rfl
    have fz2:wr.frozen? ⟨g,2,none⟩=false:=row_thaw HGR.out 2
    clear hm hu hjn
    go_wp2_with fail
    obtain ⟨hr,hua⟩:=qu_set HGR.out (.int .u64 (q:Int)) (.int .u64 (v:Int)) (.string U)
    refine body_cell2v rfl rfl (load_qu hr rfl) rfl ?_
    refine ⟨HWB.out.trans (hua.below (by have:=HWB.out.size;omega) (fun k _ h=>by have h:k=g:=h;have:=HGG.out;omega)),?_⟩
    rw[HBE.out]
    exact ⟨_,rfl,rfl⟩
   have HO:=Lib.hid (own_below HO1.out (by rw[HBX.out];exact HBR1.out))
   obtain ⟨gr,cg,hv,hg1,hg2,_,_⟩:=own_some HO.out (by omega)
   simp only[Value.slice.injEq] at hv
   obtain ⟨rfl,_,rfl⟩:=hv
   obtain ⟨r,HRJ⟩:∃ r,Hid (rs[j]=r):=⟨_,Lib.hid rfl⟩
   have hr0:wr.cell? ⟨gr,j * 5,none⟩=some (.int .i64 (r.num:Int)):=by rw[HO.out.cellAt (j * 5) (by omega),show j * 5=5 * j+0 by omega,mrecs_cell hlt (by omega),HRJ.out];rfl
   have hr1:wr.cell? ⟨gr,j * 5+1,none⟩=some (.int .i64 (r.ty:Int)):=by rw[HO.out.cellAt (j * 5+1) (by omega),show j * 5+1=5 * j+1 by omega,mrecs_cell hlt (by omega),HRJ.out];rfl
   have hr2:wr.cell? ⟨gr,j * 5+2,none⟩=some (.int .u64 (r.n:Int)):=by rw[HO.out.cellAt (j * 5+2) (by omega),show j * 5+2=5 * j+2 by omega,mrecs_cell hlt (by omega),HRJ.out];rfl
   have hr3:wr.cell? ⟨gr,j * 5+3,none⟩=some (.string ⟨r.s.toArray⟩):=by rw[HO.out.cellAt (j * 5+3) (by omega),show j * 5+3=5 * j+3 by omega,mrecs_cell hlt (by omega),HRJ.out];rfl
   have hr4:wr.cell? ⟨gr,j * 5+4,none⟩=some (.string ⟨r.raw.toArray⟩):=by rw[HO.out.cellAt (j * 5+4) (by omega),show j * 5+4=5 * j+4 by omega,mrecs_cell hlt (by omega),HRJ.out];rfl
   have hra:RcAt wr gr j r:=⟨hr0,hr1,hr2,hr3,hr4⟩
   have HRA:=Lib.hid hra
   have HGRL:=Lib.hid hg2
   have HTK:Hid (rs.take (j+1)=rs.take j++[r]):=Lib.hid (by rw[List.take_succ_eq_append_getElem hlt,HRJ.out])
   have HRR:Hid (IsRec d r):=Lib.hid (HREC.out r (HRJ.out ▸ List.getElem_mem hlt))
   have HSUM:Hid (U.size+r.raw.length≤X.size):=Lib.hid (by
    have h1:=raws_le HRAW.out (j+1)
    rw[HTK.out,List.flatMap_append,List.length_append] at h1
    have h2:=munk_le quF.tk (rs.take j)
    have h3:U.size=(munk quF.tk (rs.take j)).length:=by rw[←HU.out];simp
    have h4:([r].flatMap Rec.raw).length=r.raw.length:=by simp
    have h5:X.data.toList.length=X.size:=by simp
    omega)
   have hgb:gr<bx:=by have h1:=(HO1.out.lt gr rfl).2;have:=HBX.out;omega
   clear hra hr0 hr1 hr2 hr3 hr4
   go_wp2_with fail
   obtain ⟨D,hD⟩:∃ D,wr.drew=D:=⟨_,rfl⟩
   have HBD:Hid (Below wr.heap.size wr D):=Lib.hid (by rw[←hD];exact (Below.refl _ _).drew)
   have hS:RcAt D gr j r:=HRA.out.below HGRL.out HBD.out
   have hne:Nonempty {w':World // RcAt w' gr j r}:=⟨⟨_,hS⟩⟩
   refine wp_region_seq (S:=fun w'=>RcAt w' gr j r) [(1,true),(2,true),(3,true),(4,true),(0,false),(5,false),(6,true),(7,true)] (by kernel_rfl) (by kernel_rfl) (by kernel_rfl) (by kernel_rfl) (by rw[hD];exact hS) ?_
   rw[hD]
   clear hD
   iterate 3 (refine seq_take _ rfl (fun KK hK=>?_);go_simp;(first|refine hK _ ?_|refine ⟨_,fun _ _=>rfl,hK _ ?_⟩|refine ⟨.pointer (some ⟨gr,0+j * 5,none⟩),fun _ _=>if_pos (by omega),hK _ ?_⟩);clear hK KK)
   refine seq_take _ rfl (fun KK hK=>?_);go_simp
   refine ⟨.agg #[.int .i64 (r.num:Int),.int .i64 (r.ty:Int),.int .u64 (r.n:Int),.string ⟨r.s.toArray⟩,.string ⟨r.raw.toArray⟩],fun a ha=>by (obtain ⟨e0,e1,e2,e3,e4⟩:=ha);simp only[e0,e1,e2,e3,e4,Result.andThen],hK _ ?_⟩
   clear hK KK
   refine seq_come _ rfl (fun KK hK=>?_);go_simp
   refine (qu_tab D).mono ?_;rintro e w4 ⟨to,rfl,HNT,hb4⟩
   have HB4:=Lib.hid (below_step HBD.out hb4)
   have hS4:RcAt w4 gr j r:=hS.below (Nat.lt_of_lt_of_le HGRL.out HBD.out.size) hb4
   go_simp;refine hK.out _ _ hS4 ?_;clear hK KK
   refine seq_come _ rfl (fun KK hK=>?_);go_simp
   refine (takes8_any [9,17] to 2 r w4 HNT (by decide) (by decide)).mono ?_;rintro e w5 ⟨rfl,hb5⟩
   rw[←qu_rtk]
   have HB5:=Lib.hid (below_step HB4.out hb5)
   have hS5:RcAt w5 gr j r:=hS4.below (by have:=HGRL.out;have:=HB4.out.size;omega) hb5
   go_simp;refine hK.out _ _ hS5 ?_;clear hK KK hb4 hb5
   iterate 2 (refine seq_take _ rfl (fun KK hK=>?_);go_simp;(first|refine hK _ ?_|refine ⟨_,fun _ _=>rfl,hK _ ?_⟩|refine ⟨.pointer (some ⟨gr,0+j * 5,none⟩),fun _ _=>if_pos (by omega),hK _ ?_⟩);clear hK KK)
   refine seq_done ?_
   have HX5:Hid (w5.heap[bx]? = some (.cells #[.int .u64 (q:Int),.int .u64 (v:Int),.string U] 141 (0,0))):=Lib.hid ((HB5.out.block _ (row_lt HX1.out)).trans HX1.out)
   have HBR5:Hid (Below bx w1 w5):=Lib.hid (HBR1.out.trans (HB5.out.mono (by have:=row_lt HX1.out;omega)))
   have hxb:=row_lt HX5.out
   have HS5:=Lib.hid hS5
   obtain ⟨R,hR⟩:∃ S:ByteArray,(⟨r.raw.toArray⟩:ByteArray)=S:=⟨_,rfl⟩
   have HRD2:Hid (R.data.toList=r.raw):=Lib.hid (by rw[←hR])
   have HRN:=Lib.hid hR
   clear hS hS4 hS5 hne hR
   cases htk:quF.tk r with
   | false =>
    have HTN:=Lib.hid htk
    have hsz:¬9223372036854775807<U.size+R.size:=by
     have h1:R.size=r.raw.length:=by rw[←HRD2.out];simp
     have h2:=HSUM.out
     have h3:=HSS.out
     omega
    clear htk
    go_wp2_with fail
    obtain ⟨D2,hD2⟩:∃ D,w5.drew=D:=⟨_,rfl⟩
    have HBD2:Hid (Below w5.heap.size w5 D2):=Lib.hid (by rw[←hD2];exact (Below.refl _ _).drew)
    have HX6:Hid (D2.heap[bx]? = some (.cells #[.int .u64 (q:Int),.int .u64 (v:Int),.string U] 141 (0,0))):=Lib.hid ((HBD2.out.block _ hxb).trans HX5.out)
    have hS6:RcU D2 gr j r bx U:=⟨HS5.out.below (by omega) HBD2.out,row_cell HX6.out (j:=2) rfl⟩
    have hne:Nonempty {w':World // RcU w' gr j r bx U}:=⟨⟨_,hS6⟩⟩
    have hxf:D2.frozen? ⟨bx,2,none⟩=false:=row_thaw HX6.out 2
    have hxu:D2.cell? ⟨bx,2,none⟩=some (.string U):=hS6.2
    have hx2:∀ t:{w':World // RcU w' gr j r bx U},t.1.cell? ⟨bx,2,none⟩=some (.string U):=fun t=>t.2.2
    have hx4:∀ t:{w':World // RcU w' gr j r bx U},t.1.cell? ⟨gr,j * 5+4,none⟩=some (.string R):=fun t=>by rw[←HRN.out];exact t.2.1.2.2.2.2
    refine wp_region_seqB (fun w'=>RcU w' gr j r bx U) [9] [(0,true),(1,true),(2,true),(3,true),(4,true),(5,true),(6,true),(7,true),(8,true),(9,false)] (by kernel_rfl) (by kernel_rfl) (by kernel_rfl) (by kernel_rfl) ?_
    rw[hD2]
    clear hD2
    iterate 9 (refine seqB_take _ rfl hS6 (fun K hK=>?_);go_simp;refine hK _ ?_;clear hK K)
    refine seqB_come _ rfl (fun K hK=>?_);go_simp;refine hK.out _ _ (fun h=>by cases h) ?_;clear hK K
    refine seqB_done ?_
    have hu:=Upd.set D2 ⟨bx,2,none⟩ (.string (U++R))
    have HX9:=Lib.hid (row_set HX6.out 2 (.string (U++R)))
    have HBR9:Hid (Below bx w1 (D2.setCell ⟨bx,2,none⟩ (.string (U++R)))):=Lib.hid ((HBR5.out.trans (HBD2.out.mono (by omega))).trans (hu.below (by have:=HBD2.out.size;omega) (fun k _ h=>by have h:k=bx:=h;omega)))
    clear hx2 hx4 hS6 hne hxf hxu hu
    go_wp2_with fail
    have hj:=HJ.out
    go_roundg (gk - 1)
    case measure=>omega
    case rel=>exact ⟨j+1,q,v,U++R,by simp,by omega,HBR9.out,HX9.out,Lib.hid (by rw[HTK.out];exact mfoldk_no HM.out HTN.out),Lib.hid (by rw[HTK.out,munkk_no HTN.out,ByteArray.data_append,Array.toList_append,HU.out,HRD2.out])⟩
   | true =>
    have HTN:=Lib.hid htk
    have HMU:Hid (U.data.toList=munk quF.tk (rs.take (j+1))):=Lib.hid (by rw[HTK.out,munkk_yes HTN.out,HU.out])
    have HMY:Hid (mfold (σ:=Nat × Nat) quF.tk (quF.step d) quF.z (rs.take (j+1))=quF.step d (q,v) r):=Lib.hid (by rw[HTK.out];exact mfoldk_yes HM.out HTN.out)
    obtain ⟨hr0,hr1,hr2,hr3,hr4⟩:=HS5.out
    have hnum:=htk
    rw[quF_tk] at hnum
    simp only[decide_eq_true_iff] at hnum
    have hf0:w5.frozen? ⟨bx,0,none⟩=false:=row_thaw HX5.out 0
    have hf1:w5.frozen? ⟨bx,1,none⟩=false:=row_thaw HX5.out 1
    have hc0:w5.cell? ⟨bx,0,none⟩=some (.int .u64 (q:Int)):=row_cell HX5.out (j:=0) rfl
    have hc1:w5.cell? ⟨bx,1,none⟩=some (.int .u64 (v:Int)):=row_cell HX5.out (j:=1) rfl
    clear htk
    by_cases hn1:r.num=1
    ·have d1:((r.num:Int) == 1)=true:=by rw[beq_iff_eq];omega
     have HSE:Hid (quF.step d (q,v) r = .ok (r.n,v)):=Lib.hid (quF_1 (by omega) d q v)
     clear hnum hn1
     go_wp2_with fail
     have hj:=HJ.out
     have hu:=Upd.set w5 ⟨bx,0,none⟩ (.int .u64 (r.n:Int))
     go_roundg (gk - 1)
     case measure=>omega
     case rel=>exact ⟨j+1,r.n,v,U,by simp,by omega,HBR5.out.trans (hu.below (by omega) (fun k _ h=>by have h:k=bx:=h;omega)),row_set HX5.out 0 _,Lib.hid (by rw[HMY.out,HSE.out]<;>rfl),HMU⟩
    ·have d1:((r.num:Int) == 1)=false:=by rw[beq_eq_false_iff_ne];omega
     have HSE:Hid (quF.step d (q,v) r = .ok (q,r.n)):=Lib.hid (quF_2 (by omega) d q v)
     clear hnum hn1
     go_wp2_with fail
     have hj:=HJ.out
     have hu:=Upd.set w5 ⟨bx,1,none⟩ (.int .u64 (r.n:Int))
     go_roundg (gk - 1)
     case measure=>omega
     case rel=>exact ⟨j+1,q,r.n,U,by simp,by omega,HBR5.out.trans (hu.below (by omega) (fun k _ h=>by have h:k=bx:=h;omega)),row_set HX5.out 1 _,Lib.hid (by rw[HMY.out,HSE.out]<;>rfl),HMU⟩
end Go.Proofs.YtjbingoliffjiaaGreatDoor
