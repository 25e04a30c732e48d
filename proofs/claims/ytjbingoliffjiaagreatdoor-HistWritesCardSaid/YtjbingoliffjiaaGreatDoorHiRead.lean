/-
  hist.take, Unmarshal: any text.
-/
import Derived.Test.YtjbingoliffjiaaGreatDoorHiTakes
import Derived.Test.YtjbingoliffjiaaGreatDoorExList
import Derived.Test.YtjbingoliffjiaaGreatDoorValTake
import Derived.Deep.Cut
import Derived.Test.YtjbingoliffjiaaGreatDoorFld
set_option maxRecDepth 1000000
set_option maxHeartbeats 16000000
namespace Go.Proofs.YtjbingoliffjiaaGreatDoor
open Go.RowKit
def ExUn:Prop:=∀ (Y:ByteArray) (d':Int) (w':World),Y.size≤500000 → -9223372036854775808≤d'∧d'≤9223372036854775807→Calls Tryz.prog 107 #[.string Y,.int .i64 d'] w' (RdPost exCel exzero (exrd Y.data.toList d') Y.size w')
abbrev hiS:Type:=Nat × Nat × Nat × (Bool × Nat) × List Nat × List Nat × List Ex × List KV × Nat × (Bool × Nat) × Bool × Nat
def hiA (bx:Nat):LPart hiS (bx+1):=ltwo (lone kcel 98 (bx+1) (fun st:hiS=>st.2.2.2.2.2.2.2.1)) (ltwo (lone natCel 24 (bx+1) (fun st:hiS=>st.2.2.2.2.1)) (ltwo (lone natCel 24 (bx+1) (fun st:hiS=>st.2.2.2.2.2.1)) (lone exCel 91 (bx+1) (fun st:hiS=>st.2.2.2.2.2.2.1))))
def hiRow:hiS→Value × Value × Value × Value→Array Value
 | (a,(t,(k,((ph,pn),(_,(_,(_,(_,(f,((mh,mn),(gh,gn))))))))))),(vl,(vnc,(vnb,ves)))=>#[vl,.int .u64 (a:Int),.int .u64 (t:Int),.int .u64 (k:Int),.bool ph,.int .u64 (pn:Int),.bool mh,.int .u64 (mn:Int),.bool gh,.int .u64 (gn:Int),vnc,vnb,ves,.int .u32 (f:Int),.string ⟨#[]⟩]
def hiT (bx:Nat):Taker hiS:=rowL (hiA bx) 50 hiRow
theorem hi_see_l (bx:Nat):(hiA bx).Sees kcel 98 (fun st:hiS=>st.2.2.2.2.2.2.2.1) (fun v:Value × Value × Value × Value=>v.1) (fun (v:Value × Value × Value × Value) v'=>((v',(v.2.1,(v.2.2.1,v.2.2.2))):Value × Value × Value × Value)) (fun st st'=>(True)∧(st'.2.2.2.2.1=st.2.2.2.2.1)∧(st'.2.2.2.2.2.1=st.2.2.2.2.2.1)∧st'.2.2.2.2.2.2.1=st.2.2.2.2.2.2.1):=(sees_l (sees_one _ _ _ _))
theorem hi_see_nc (bx:Nat):(hiA bx).Sees natCel 24 (fun st:hiS=>st.2.2.2.2.1) (fun v:Value × Value × Value × Value=>v.2.1) (fun (v:Value × Value × Value × Value) v'=>((v.1,(v',(v.2.2.1,v.2.2.2))):Value × Value × Value × Value)) (fun st st'=>(st'.2.2.2.2.2.2.2.1=st.2.2.2.2.2.2.2.1)∧(True)∧(st'.2.2.2.2.2.1=st.2.2.2.2.2.1)∧st'.2.2.2.2.2.2.1=st.2.2.2.2.2.2.1):=(sees_r ((sees_l (sees_one _ _ _ _))))
theorem hi_see_nb (bx:Nat):(hiA bx).Sees natCel 24 (fun st:hiS=>st.2.2.2.2.2.1) (fun v:Value × Value × Value × Value=>v.2.2.1) (fun (v:Value × Value × Value × Value) v'=>((v.1,(v.2.1,(v',v.2.2.2))):Value × Value × Value × Value)) (fun st st'=>(st'.2.2.2.2.2.2.2.1=st.2.2.2.2.2.2.2.1)∧(st'.2.2.2.2.1=st.2.2.2.2.1)∧(True)∧st'.2.2.2.2.2.2.1=st.2.2.2.2.2.2.1):=(sees_r ((sees_r ((sees_l (sees_one _ _ _ _))))))
theorem hi_see_es (bx:Nat):(hiA bx).Sees exCel 91 (fun st:hiS=>st.2.2.2.2.2.2.1) (fun v:Value × Value × Value × Value=>v.2.2.2) (fun (v:Value × Value × Value × Value) v'=>((v.1,(v.2.1,(v.2.2.1,v'))):Value × Value × Value × Value)) (fun st st'=>(st'.2.2.2.2.2.2.2.1=st.2.2.2.2.2.2.2.1)∧(st'.2.2.2.2.1=st.2.2.2.2.1)∧(st'.2.2.2.2.2.1=st.2.2.2.2.2.1)∧True):=(sees_r ((sees_r ((sees_r (sees_one _ _ _ _))))))
theorem hitake_any (bx:Nat) (D:Int) (r:Rec) (hUl:Hid (r.num=9→UKey)) (hUes:Hid (r.num=8→ExUn)) (st:hiS) (P:Nat→Prop) (w:World) (hD : -9223372036854775807≤D∧D≤9223372036854775807) (hk:hiF.tk r=true) (hs:r.s.length≤500000) (hll:st.2.2.2.2.2.2.2.1.length≤1000000) (hlnc:st.2.2.2.2.1.length≤1000000) (hlnb:st.2.2.2.2.2.1.length≤1000000) (hles:st.2.2.2.2.2.2.1.length≤1000000) (h:Hid ((hiT bx).rel st P w)) :
  Calls Tryz.prog 83 #[.pointer (some ⟨bx,0,none⟩),recV r,.int .i64 (D - 1)] w (TakePost (hiT bx) (hiF.step D) st P r w):=by
 obtain ⟨v,P1,h1,h2,rfl⟩:=h.out
 obtain ⟨a,⟨t,⟨k,⟨⟨ph,pn⟩,⟨nc,⟨nb,⟨es,⟨l,⟨f,⟨⟨mh,mn⟩,⟨gh,gn⟩⟩⟩⟩⟩⟩⟩⟩⟩⟩⟩:=st
 obtain ⟨vl,⟨vnc,⟨vnb,ves⟩⟩⟩:=v
 have H1:=Lib.hid h1
 have H2:=Lib.hid h2
 clear h h1 h2
 obtain ⟨X,hX⟩:∃ X:ByteArray,(⟨r.s.toArray⟩:ByteArray)=X:=⟨_,rfl⟩
 have hXs:X.size≤500000:=by rw[←hX];simp[ByteArray.size];omega
 have HXD:Hid (X.data.toList=r.s):=Lib.hid (by rw[←hX])
 have HX:Hid ((⟨r.s.toArray⟩:ByteArray)=X):=Lib.hid hX
 obtain ⟨rb,hrb⟩:∃ rb,w.heap.size=rb:=⟨_,rfl⟩
 obtain ⟨W0,hW0⟩:∃ W0,w.alloc (.cells #[.int .i64 (r.num:Int),.int .i64 (r.ty:Int),.int .u64 (r.n:Int),.string X,.string ⟨r.raw.toArray⟩] 78)=W0:=⟨_,rfl⟩
 have HU0:Hid (Upd (fun _=>False) w W0):=Lib.hid (by rw[←hW0];exact Upd.alloc _ _ _)
 have HR0:Hid (W0.heap[rb]? = some (.cells #[.int .i64 (r.num:Int),.int .i64 (r.ty:Int),.int .u64 (r.n:Int),.string X,.string ⟨r.raw.toArray⟩] 78 (0,0))):=Lib.hid (by rw[←hW0,←hrb];exact heap_alloc_new _ _)
 have H10:Hid (W0.heap[bx]? = some (.cells (hiRow (a,(t,(k,((ph,pn),(nc,(nb,(es,(l,(f,((mh,mn),(gh,gn))))))))))) (vl,(vnc,(vnb,ves)))) 50 (0,0))):=Lib.hid ((HU0.out.block bx (row_lt H1.out) (fun h=>h)).trans H1.out)
 have H20:Hid ((hiA bx).rel (a,(t,(k,((ph,pn),(nc,(nb,(es,(l,(f,((mh,mn),(gh,gn))))))))))) (vl,(vnc,(vnb,ves))) P1 W0):=Lib.hid ((hiA bx).kept H2.out (HU0.out.mono fun _ _ h=>h.elim))
 have HP1:Hid (∀ k,P1 k→k<w.heap.size):=Lib.hid (fun k hk=>((hiA bx).lt H2.out k hk).2)
 have HW0:=Lib.hid hW0
 have HRB:=Lib.hid hrb
 have hsz:=HU0.out.size
 have hbx:=row_lt H1.out
 have hn0:W0.cell? ⟨rb,0,none⟩=some (.int .i64 (r.num:Int)):=row_cell HR0.out (j:=0) rfl
 rw[hiF_tk,decide_eq_true_eq] at hk
 have HKN:=Lib.hid hk
 unfold recV
 rw[hX]
 rw[←hW0,←hrb] at hn0
 clear hX hW0
 by_cases hN2:r.num=2
 ·have hty:r.num=2∧r.ty=1:=by omega
  have HSE:=Lib.hid (hiF_2 hty D a t k ph pn nc nb es l f mh mn gh gn)
  have d2:((r.num:Int) == 2)=true:=by rw[beq_iff_eq];omega
  have hc1:W0.cell? ⟨bx,1,none⟩=some (.int .u64 (a:Int)):=row_cell H10.out (j:=1) rfl
  have hf1:W0.frozen? ⟨bx,1,none⟩=false:=row_thaw H10.out 1
  have HP:=Lib.hid (rowL_set (A:=hiA bx) (T0:=50) (row:=hiRow) (st:=(a,(t,(k,((ph,pn),(nc,(nb,(es,(l,(f,((mh,mn),(gh,gn)))))))))))) (st':=(r.n,(t,(k,((ph,pn),(nc,(nb,(es,(l,(f,((mh,mn),(gh,gn)))))))))))) (v:=(vl,(vnc,(vnb,ves)))) 1 (.int .u64 (r.n:Int)) H10.out H20.out (rfl) ⟨rfl,rfl,rfl,rfl⟩)
  rw[←HW0.out] at hc1 hf1
  clear hty hk HKN hN2
  go_enter Tryz.func83,Tryz.ntmps83
  go_wp2_with fail
  rw[HW0.out]
  go_ret
  exact takepost_ok HSE.out ((HU0.out.mono fun _ _ h=>h.elim).trans (HP.out.2.mono fun k _ h => .inl h)) HP.out.1 (fun k hk => .inl hk)
 by_cases hN3:r.num=3
 ·have hty:r.num=3∧r.ty=1:=by omega
  have HSE:=Lib.hid (hiF_3 hty D a t k ph pn nc nb es l f mh mn gh gn)
  have d2:((r.num:Int) == 2)=false:=by rw[beq_eq_false_iff_ne];omega
  have d3:((r.num:Int) == 3)=true:=by rw[beq_iff_eq];omega
  have hc2:W0.cell? ⟨bx,2,none⟩=some (.int .u64 (t:Int)):=row_cell H10.out (j:=2) rfl
  have hf2:W0.frozen? ⟨bx,2,none⟩=false:=row_thaw H10.out 2
  have HP:=Lib.hid (rowL_set (A:=hiA bx) (T0:=50) (row:=hiRow) (st:=(a,(t,(k,((ph,pn),(nc,(nb,(es,(l,(f,((mh,mn),(gh,gn)))))))))))) (st':=(a,(r.n,(k,((ph,pn),(nc,(nb,(es,(l,(f,((mh,mn),(gh,gn)))))))))))) (v:=(vl,(vnc,(vnb,ves)))) 2 (.int .u64 (r.n:Int)) H10.out H20.out (rfl) ⟨rfl,rfl,rfl,rfl⟩)
  rw[←HW0.out] at hc2 hf2
  clear hty hk HKN hN3
  go_enter Tryz.func83,Tryz.ntmps83
  go_wp2_with fail
  rw[HW0.out]
  go_ret
  exact takepost_ok HSE.out ((HU0.out.mono fun _ _ h=>h.elim).trans (HP.out.2.mono fun k _ h => .inl h)) HP.out.1 (fun k hk => .inl hk)
 by_cases hN4:r.num=4
 ·have hty:r.num=4∧r.ty=1:=by omega
  have HSE:=Lib.hid (hiF_4 hty D a t k ph pn nc nb es l f mh mn gh gn)
  have d2:((r.num:Int) == 2)=false:=by rw[beq_eq_false_iff_ne];omega
  have d3:((r.num:Int) == 3)=false:=by rw[beq_eq_false_iff_ne];omega
  have d4:((r.num:Int) == 4)=true:=by rw[beq_iff_eq];omega
  have hc3:W0.cell? ⟨bx,3,none⟩=some (.int .u64 (k:Int)):=row_cell H10.out (j:=3) rfl
  have hf3:W0.frozen? ⟨bx,3,none⟩=false:=row_thaw H10.out 3
  have HP:=Lib.hid (rowL_set (A:=hiA bx) (T0:=50) (row:=hiRow) (st:=(a,(t,(k,((ph,pn),(nc,(nb,(es,(l,(f,((mh,mn),(gh,gn)))))))))))) (st':=(a,(t,(r.n,((ph,pn),(nc,(nb,(es,(l,(f,((mh,mn),(gh,gn)))))))))))) (v:=(vl,(vnc,(vnb,ves)))) 3 (.int .u64 (r.n:Int)) H10.out H20.out (rfl) ⟨rfl,rfl,rfl,rfl⟩)
  rw[←HW0.out] at hc3 hf3
  clear hty hk HKN hN4
  go_enter Tryz.func83,Tryz.ntmps83
  go_wp2_with fail
  rw[HW0.out]
  go_ret
  exact takepost_ok HSE.out ((HU0.out.mono fun _ _ h=>h.elim).trans (HP.out.2.mono fun k _ h => .inl h)) HP.out.1 (fun k hk => .inl hk)
 by_cases hN5:r.num=5
 ·have hty:r.num=5∧r.ty=1:=by omega
  have HSE:=Lib.hid (hiF_5 hty D a t k ph pn nc nb es l f mh mn gh gn)
  have d2:((r.num:Int) == 2)=false:=by rw[beq_eq_false_iff_ne];omega
  have d3:((r.num:Int) == 3)=false:=by rw[beq_eq_false_iff_ne];omega
  have d4:((r.num:Int) == 4)=false:=by rw[beq_eq_false_iff_ne];omega
  have d5:((r.num:Int) == 5)=true:=by rw[beq_iff_eq];omega
  have hca:W0.cell? ⟨bx,4,none⟩=some (.bool ph):=row_cell H10.out (j:=4) rfl
  have hfa:W0.frozen? ⟨bx,4,none⟩=false:=row_thaw H10.out 4
  have hx1:=row_set H10.out 4 (.bool true)
  have hcb:(W0.setCell ⟨bx,4,none⟩ (.bool true)).cell? ⟨bx,5,none⟩=some (.int .u64 (pn:Int)):=row_cell hx1 (j:=5) rfl
  have hfb:(W0.setCell ⟨bx,4,none⟩ (.bool true)).frozen? ⟨bx,5,none⟩=false:=row_thaw hx1 5
  have HP:=Lib.hid (rowL_set2 (A:=hiA bx) (T0:=50) (row:=hiRow) (st:=(a,(t,(k,((ph,pn),(nc,(nb,(es,(l,(f,((mh,mn),(gh,gn)))))))))))) (st':=(a,(t,(k,((true,r.n),(nc,(nb,(es,(l,(f,((mh,mn),(gh,gn)))))))))))) (v:=(vl,(vnc,(vnb,ves)))) 4 5 (.bool true) (.int .u64 (r.n:Int)) H10.out H20.out rfl ⟨rfl,rfl,rfl,rfl⟩)
  rw[←HW0.out] at hca hfa hcb hfb
  clear hty hk HKN hN5 hx1
  go_enter Tryz.func83,Tryz.ntmps83
  go_wp2_with fail
  rw[HW0.out]
  go_ret
  exact takepost_ok HSE.out ((HU0.out.mono fun _ _ h=>h.elim).trans (HP.out.2.mono fun k _ h => .inl h)) HP.out.1 (fun k hk => .inl hk)
 by_cases hN6:r.num=6
 ·have hty:r.num=6∧(r.ty=1∨r.ty=2):=by omega
  have HSE:=Lib.hid (hiF_6 hty D a t k ph pn nc nb es l f mh mn gh gn)
  have d2:((r.num:Int) == 2)=false:=by rw[beq_eq_false_iff_ne];omega
  have d3:((r.num:Int) == 3)=false:=by rw[beq_eq_false_iff_ne];omega
  have d4:((r.num:Int) == 4)=false:=by rw[beq_eq_false_iff_ne];omega
  have d5:((r.num:Int) == 5)=false:=by rw[beq_eq_false_iff_ne];omega
  have d6:((r.num:Int) == 6)=true:=by rw[beq_iff_eq];omega
  clear hty hk HKN hN6
  go_enter Tryz.func83,Tryz.ntmps83
  go_wp2_with fail
  rw[HW0.out]
  go_upto_region 11 with fail
  all_goals
   obtain ⟨D0,hD0⟩:∃ D0,W0.drew=D0:=⟨_,rfl⟩
   have hB0:Below W0.heap.size W0 D0:=by rw[←hD0];exact (Below.refl _ _).drew
   have hS:(fun w':World=>w'.heap[rb]? = some (.cells #[.int .i64 (r.num:Int),.int .i64 (r.ty:Int),.int .u64 (r.n:Int),.string X,.string ⟨r.raw.toArray⟩] 78 (0,0))) D0:=(hB0.block _ (row_lt HR0.out)).trans HR0.out
   have hne:Nonempty {w':World // (fun w':World=>w'.heap[rb]? = some (.cells #[.int .i64 (r.num:Int),.int .i64 (r.ty:Int),.int .u64 (r.n:Int),.string X,.string ⟨r.raw.toArray⟩] 78 (0,0))) w'}:=⟨⟨_,hS⟩⟩
   refine wp_region_seq (S:=fun w':World=>w'.heap[rb]? = some (.cells #[.int .i64 (r.num:Int),.int .i64 (r.ty:Int),.int .u64 (r.n:Int),.string X,.string ⟨r.raw.toArray⟩] 78 (0,0))) [(0,true),(1,true),(2,true),(3,true),(4,false),(5,true)] (by kernel_rfl) (by kernel_rfl) (by kernel_rfl) (by kernel_rfl) (by rw[hD0];exact hS) ?_
   rw[hD0]
   iterate 3 (refine seq_take _ rfl (fun KC hK=>?_);go_simp;(first|refine hK _ ?_|refine ⟨_,fun _ _=>rfl,hK _ ?_⟩);clear hK KC)
   refine seq_take _ rfl (fun KC hK=>?_);go_simp
   refine ⟨.agg #[.int .i64 (r.num:Int),.int .i64 (r.ty:Int),.int .u64 (r.n:Int),.string X,.string ⟨r.raw.toArray⟩],fun a ha=>by (obtain ⟨e0,e1,e2,e3,e4⟩:=row5 ha);simp only[e0,e1,e2,e3,e4,Result.andThen],hK _ ?_⟩
   clear hK KC
   have H2D:Hid ((hiA bx).rel (a,(t,(k,((ph,pn),(nc,(nb,(es,(l,(f,((mh,mn),(gh,gn))))))))))) (vl,(vnc,(vnb,ves))) P1 D0):=Lib.hid ((hiA bx).kept H20.out ((Upd.of_new (S:=fun _=>False) hB0).mono fun _ _ h=>h.elim))
   obtain ⟨Pi,hls,hsub,hput⟩:=hi_see_nc bx _ _ _ _ H2D.out
   have HPUT:=Lib.hid hput
   have HSUB:=Lib.hid hsub
   clear hput hsub
   have HA:=Lib.hid (addnums_ls (cs:=hiRow (a,(t,(k,((ph,pn),(nc,(nb,(es,(l,(f,((mh,mn),(gh,gn))))))))))) (vl,(vnc,(vnb,ves)))) (T:=50) bx 10 vnc nc (bx+1) Pi r D0 (Lib.hid ((hB0.block _ (row_lt H10.out)).trans H10.out)) rfl (Lib.hid hls) (by omega) (by have:=hB0.size;omega) hlnc (by omega))
   unfold recV at HA
   rw[HX.out] at HA
   clear hls
   refine seq_come _ rfl (fun KC hK=>?_);go_simp
   refine HA.out.mono ?_;intro e w1 hpost
   have hS1:(fun w':World=>w'.heap[rb]? = some (.cells #[.int .i64 (r.num:Int),.int .i64 (r.ty:Int),.int .u64 (r.n:Int),.string X,.string ⟨r.raw.toArray⟩] 78 (0,0))) w1:=(hpost.1.block rb (row_lt hS) (fun e=>by
    rcases e with e|e
    ·omega
    ·have:=HP1.out rb (HSUB.out rb e);have:=HRB.out;omega)).trans hS
   unfold NumsPost at hpost
   cases hrd:fstep nc r with
   | error c =>
    rw[hrd] at hpost HSE
    obtain ⟨hu1,y,rfl,hec⟩:=hpost
    have hu1:=hu1.mono (S':=fun k=>k=bx∨P1 k) (fun k _ h=>h.imp id (HSUB.out k))
    obtain ⟨T',z,rfl⟩:=hec.iface
    go_simp
    refine hK.out _ _ hS1 ?_;clear hK KC
    (refine seq_take _ rfl (fun KC hK=>?_);go_simp;(first|refine hK _ ?_|refine ⟨_,fun _ _=>rfl,hK _ ?_⟩);clear hK KC)
    refine seq_done ?_
    go_wp2_with fail
    go_ret
    exact takepost_no HSE.out (((HU0.out.mono fun _ _ h=>h.elim).trans (Upd.of_new hB0)).trans hu1) hec
   | ok x =>
    rw[hrd] at hpost HSE
    obtain ⟨hu1,rfl,v',P',hr1,hr2,hr3⟩:=hpost
    obtain ⟨hu,P'',hr,hp⟩:=rowL_lst (A:=hiA bx) (put:=fun (v:Value × Value × Value × Value) v'=>((v.1,(v',(v.2.2.1,v.2.2.2))):Value × Value × Value × Value)) (sm:=fun st st':hiS=>(st'.2.2.2.2.2.2.2.1=st.2.2.2.2.2.2.2.1)∧(True)∧(st'.2.2.2.2.2.1=st.2.2.2.2.2.1)∧st'.2.2.2.2.2.2.1=st.2.2.2.2.2.2.1) (ls:=fun st:hiS=>st.2.2.2.2.1) (row:=hiRow) (st:=(a,(t,(k,((ph,pn),(nc,(nb,(es,(l,(f,((mh,mn),(gh,gn)))))))))))) (st':=(a,(t,(k,((ph,pn),(x,(nb,(es,(l,(f,((mh,mn),(gh,gn)))))))))))) (v:=(vl,(vnc,(vnb,ves)))) H2D.out HPUT.out hu1 hr1 hr2 hr3 (fun v'=>rfl) ⟨rfl,trivial,rfl,rfl⟩ rfl HSUB.out
    go_simp
    refine hK.out _ _ hS1 ?_;clear hK KC
    (refine seq_take _ rfl (fun KC hK=>?_);go_simp;(first|refine hK _ ?_|refine ⟨_,fun _ _=>rfl,hK _ ?_⟩);clear hK KC)
    refine seq_done ?_
    have HU:=Lib.hid hu
    have HRL:=Lib.hid hr
    have HP:=Lib.hid hp
    clear hu hr hp hrd hu1 hr1 hr2 hr3
    go_wp2_with fail
    go_ret
    exact takepost_ok HSE.out (((HU0.out.mono fun _ _ h=>h.elim).trans (Upd.of_new hB0)).trans HU.out) HRL.out (fun k hk=>(HP.out k hk).imp id (fun h=>Nat.le_trans (Nat.le_trans hsz hB0.size) h))
 by_cases hN7:r.num=7
 ·have hty:r.num=7∧(r.ty=1∨r.ty=2):=by omega
  have HSE:=Lib.hid (hiF_7 hty D a t k ph pn nc nb es l f mh mn gh gn)
  have d2:((r.num:Int) == 2)=false:=by rw[beq_eq_false_iff_ne];omega
  have d3:((r.num:Int) == 3)=false:=by rw[beq_eq_false_iff_ne];omega
  have d4:((r.num:Int) == 4)=false:=by rw[beq_eq_false_iff_ne];omega
  have d5:((r.num:Int) == 5)=false:=by rw[beq_eq_false_iff_ne];omega
  have d6:((r.num:Int) == 6)=false:=by rw[beq_eq_false_iff_ne];omega
  have d7:((r.num:Int) == 7)=true:=by rw[beq_iff_eq];omega
  clear hty hk HKN hN7
  go_enter Tryz.func83,Tryz.ntmps83
  go_wp2_with fail
  rw[HW0.out]
  go_upto_region 13 with fail
  all_goals
   obtain ⟨D0,hD0⟩:∃ D0,W0.drew=D0:=⟨_,rfl⟩
   have hB0:Below W0.heap.size W0 D0:=by rw[←hD0];exact (Below.refl _ _).drew
   have hS:(fun w':World=>w'.heap[rb]? = some (.cells #[.int .i64 (r.num:Int),.int .i64 (r.ty:Int),.int .u64 (r.n:Int),.string X,.string ⟨r.raw.toArray⟩] 78 (0,0))) D0:=(hB0.block _ (row_lt HR0.out)).trans HR0.out
   have hne:Nonempty {w':World // (fun w':World=>w'.heap[rb]? = some (.cells #[.int .i64 (r.num:Int),.int .i64 (r.ty:Int),.int .u64 (r.n:Int),.string X,.string ⟨r.raw.toArray⟩] 78 (0,0))) w'}:=⟨⟨_,hS⟩⟩
   refine wp_region_seq (S:=fun w':World=>w'.heap[rb]? = some (.cells #[.int .i64 (r.num:Int),.int .i64 (r.ty:Int),.int .u64 (r.n:Int),.string X,.string ⟨r.raw.toArray⟩] 78 (0,0))) [(0,true),(1,true),(2,true),(3,true),(4,false),(5,true)] (by kernel_rfl) (by kernel_rfl) (by kernel_rfl) (by kernel_rfl) (by rw[hD0];exact hS) ?_
   rw[hD0]
   iterate 3 (refine seq_take _ rfl (fun KC hK=>?_);go_simp;(first|refine hK _ ?_|refine ⟨_,fun _ _=>rfl,hK _ ?_⟩);clear hK KC)
   refine seq_take _ rfl (fun KC hK=>?_);go_simp
   refine ⟨.agg #[.int .i64 (r.num:Int),.int .i64 (r.ty:Int),.int .u64 (r.n:Int),.string X,.string ⟨r.raw.toArray⟩],fun a ha=>by (obtain ⟨e0,e1,e2,e3,e4⟩:=row5 ha);simp only[e0,e1,e2,e3,e4,Result.andThen],hK _ ?_⟩
   clear hK KC
   have H2D:Hid ((hiA bx).rel (a,(t,(k,((ph,pn),(nc,(nb,(es,(l,(f,((mh,mn),(gh,gn))))))))))) (vl,(vnc,(vnb,ves))) P1 D0):=Lib.hid ((hiA bx).kept H20.out ((Upd.of_new (S:=fun _=>False) hB0).mono fun _ _ h=>h.elim))
   obtain ⟨Pi,hls,hsub,hput⟩:=hi_see_nb bx _ _ _ _ H2D.out
   have HPUT:=Lib.hid hput
   have HSUB:=Lib.hid hsub
   clear hput hsub
   have HA:=Lib.hid (addnums_ls (cs:=hiRow (a,(t,(k,((ph,pn),(nc,(nb,(es,(l,(f,((mh,mn),(gh,gn))))))))))) (vl,(vnc,(vnb,ves)))) (T:=50) bx 11 vnb nb (bx+1) Pi r D0 (Lib.hid ((hB0.block _ (row_lt H10.out)).trans H10.out)) rfl (Lib.hid hls) (by omega) (by have:=hB0.size;omega) hlnb (by omega))
   unfold recV at HA
   rw[HX.out] at HA
   clear hls
   refine seq_come _ rfl (fun KC hK=>?_);go_simp
   refine HA.out.mono ?_;intro e w1 hpost
   have hS1:(fun w':World=>w'.heap[rb]? = some (.cells #[.int .i64 (r.num:Int),.int .i64 (r.ty:Int),.int .u64 (r.n:Int),.string X,.string ⟨r.raw.toArray⟩] 78 (0,0))) w1:=(hpost.1.block rb (row_lt hS) (fun e=>by
    rcases e with e|e
    ·omega
    ·have:=HP1.out rb (HSUB.out rb e);have:=HRB.out;omega)).trans hS
   unfold NumsPost at hpost
   cases hrd:fstep nb r with
   | error c =>
    rw[hrd] at hpost HSE
    obtain ⟨hu1,y,rfl,hec⟩:=hpost
    have hu1:=hu1.mono (S':=fun k=>k=bx∨P1 k) (fun k _ h=>h.imp id (HSUB.out k))
    obtain ⟨T',z,rfl⟩:=hec.iface
    go_simp
    refine hK.out _ _ hS1 ?_;clear hK KC
    (refine seq_take _ rfl (fun KC hK=>?_);go_simp;(first|refine hK _ ?_|refine ⟨_,fun _ _=>rfl,hK _ ?_⟩);clear hK KC)
    refine seq_done ?_
    go_wp2_with fail
    go_ret
    exact takepost_no HSE.out (((HU0.out.mono fun _ _ h=>h.elim).trans (Upd.of_new hB0)).trans hu1) hec
   | ok x =>
    rw[hrd] at hpost HSE
    obtain ⟨hu1,rfl,v',P',hr1,hr2,hr3⟩:=hpost
    obtain ⟨hu,P'',hr,hp⟩:=rowL_lst (A:=hiA bx) (put:=fun (v:Value × Value × Value × Value) v'=>((v.1,(v.2.1,(v',v.2.2.2))):Value × Value × Value × Value)) (sm:=fun st st':hiS=>(st'.2.2.2.2.2.2.2.1=st.2.2.2.2.2.2.2.1)∧(st'.2.2.2.2.1=st.2.2.2.2.1)∧(True)∧st'.2.2.2.2.2.2.1=st.2.2.2.2.2.2.1) (ls:=fun st:hiS=>st.2.2.2.2.2.1) (row:=hiRow) (st:=(a,(t,(k,((ph,pn),(nc,(nb,(es,(l,(f,((mh,mn),(gh,gn)))))))))))) (st':=(a,(t,(k,((ph,pn),(nc,(x,(es,(l,(f,((mh,mn),(gh,gn)))))))))))) (v:=(vl,(vnc,(vnb,ves)))) H2D.out HPUT.out hu1 hr1 hr2 hr3 (fun v'=>rfl) ⟨rfl,rfl,trivial,rfl⟩ rfl HSUB.out
    go_simp
    refine hK.out _ _ hS1 ?_;clear hK KC
    (refine seq_take _ rfl (fun KC hK=>?_);go_simp;(first|refine hK _ ?_|refine ⟨_,fun _ _=>rfl,hK _ ?_⟩);clear hK KC)
    refine seq_done ?_
    have HU:=Lib.hid hu
    have HRL:=Lib.hid hr
    have HP:=Lib.hid hp
    clear hu hr hp hrd hu1 hr1 hr2 hr3
    go_wp2_with fail
    go_ret
    exact takepost_ok HSE.out (((HU0.out.mono fun _ _ h=>h.elim).trans (Upd.of_new hB0)).trans HU.out) HRL.out (fun k hk=>(HP.out k hk).imp id (fun h=>Nat.le_trans (Nat.le_trans hsz hB0.size) h))
 by_cases hN8:r.num=8
 ·have hty:r.num=8∧r.ty=2:=by omega
  have HSE:=Lib.hid (hiF_8 hty D a t k ph pn nc nb es l f mh mn gh gn)
  have HUK:=Lib.hid (hUes.out hty.1)
  have d2:((r.num:Int) == 2)=false:=by rw[beq_eq_false_iff_ne];omega
  have d3:((r.num:Int) == 3)=false:=by rw[beq_eq_false_iff_ne];omega
  have d4:((r.num:Int) == 4)=false:=by rw[beq_eq_false_iff_ne];omega
  have d5:((r.num:Int) == 5)=false:=by rw[beq_eq_false_iff_ne];omega
  have d6:((r.num:Int) == 6)=false:=by rw[beq_eq_false_iff_ne];omega
  have d7:((r.num:Int) == 7)=false:=by rw[beq_eq_false_iff_ne];omega
  have d8:((r.num:Int) == 8)=true:=by rw[beq_iff_eq];omega
  clear hty hk HKN hN8
  go_enter Tryz.func83,Tryz.ntmps83
  go_wp2_with fail
  rw[HW0.out]
  go_upto_region 15 with fail
  all_goals
   obtain ⟨D0,hD0⟩:∃ D0,W0.drew=D0:=⟨_,rfl⟩
   have hB0:Below W0.heap.size W0 D0:=by rw[←hD0];exact (Below.refl _ _).drew
   have hS:(fun w':World=>w'.heap[rb]? = some (.cells #[.int .i64 (r.num:Int),.int .i64 (r.ty:Int),.int .u64 (r.n:Int),.string X,.string ⟨r.raw.toArray⟩] 78 (0,0))) D0:=(hB0.block _ (row_lt HR0.out)).trans HR0.out
   have hne:Nonempty {w':World // (fun w':World=>w'.heap[rb]? = some (.cells #[.int .i64 (r.num:Int),.int .i64 (r.ty:Int),.int .u64 (r.n:Int),.string X,.string ⟨r.raw.toArray⟩] 78 (0,0))) w'}:=⟨⟨_,hS⟩⟩
   refine wp_region_seq (S:=fun w':World=>w'.heap[rb]? = some (.cells #[.int .i64 (r.num:Int),.int .i64 (r.ty:Int),.int .u64 (r.n:Int),.string X,.string ⟨r.raw.toArray⟩] 78 (0,0))) [(0,true),(1,true),(2,true),(3,true),(4,true),(5,true),(6,false),(7,true)] (by kernel_rfl) (by kernel_rfl) (by kernel_rfl) (by kernel_rfl) (by rw[hD0];exact hS) ?_
   rw[hD0]
   iterate 4 (refine seq_take _ rfl (fun KC hK=>?_);go_simp;(first|refine hK _ ?_|refine ⟨_,fun _ _=>rfl,hK _ ?_⟩);clear hK KC)
   refine seq_take _ rfl (fun KC hK=>?_);go_simp
   refine ⟨.string X,fun a ha=>by rw[row_cell ha (j:=3) rfl];rfl,hK _ ?_⟩
   clear hK KC
   (refine seq_take _ rfl (fun KC hK=>?_);go_simp;(first|refine hK _ ?_|refine ⟨_,fun _ _=>rfl,hK _ ?_⟩);clear hK KC)
   have H2D:Hid ((hiA bx).rel (a,(t,(k,((ph,pn),(nc,(nb,(es,(l,(f,((mh,mn),(gh,gn))))))))))) (vl,(vnc,(vnb,ves))) P1 D0):=Lib.hid ((hiA bx).kept H20.out ((Upd.of_new (S:=fun _=>False) hB0).mono fun _ _ h=>h.elim))
   obtain ⟨Pi,hls,hsub,hput⟩:=hi_see_es bx _ _ _ _ H2D.out
   have HPUT:=Lib.hid hput
   have HSUB:=Lib.hid hsub
   clear hput hsub
   have HA:=Lib.hid (addex_any bx 12 (bx+1) (hiRow (a,(t,(k,((ph,pn),(nc,(nb,(es,(l,(f,((mh,mn),(gh,gn))))))))))) (vl,(vnc,(vnb,ves)))) 50 ves es Pi 107 X (D - 1) (exrd r.s (D - 1)) D0 (enters_of Tryz.func107 (by kernel_rfl) rfl) (Lib.hid ((hB0.block _ (row_lt H10.out)).trans H10.out)) rfl ⟨by omega,by have:=hB0.size;omega⟩ (Lib.hid hls) hles (Lib.hid (fun w'=>by have:=HUK.out X (D - 1) w' (by omega) (by omega);rwa [HXD.out] at this)))
   clear hls
   refine seq_come _ rfl (fun KC hK=>?_);go_simp
   refine HA.out.mono ?_;intro e w1 hpost
   have hS1:(fun w':World=>w'.heap[rb]? = some (.cells #[.int .i64 (r.num:Int),.int .i64 (r.ty:Int),.int .u64 (r.n:Int),.string X,.string ⟨r.raw.toArray⟩] 78 (0,0))) w1:=(hpost.1.block rb (row_lt hS) (fun e=>by
    rcases e with e|e
    ·omega
    ·have:=HP1.out rb (HSUB.out rb e);have:=HRB.out;omega)).trans hS
   cases hrd:exrd r.s (D - 1) with
   | error c =>
    rw[hrd] at hpost HSE
    obtain ⟨hu1,y,rfl,hec⟩:=hpost
    have hu1:=hu1.mono (S':=fun k=>k=bx∨P1 k) (fun k _ h=>h.imp id (HSUB.out k))
    obtain ⟨T',z,rfl⟩:=hec.iface
    go_simp
    refine hK.out _ _ hS1 ?_;clear hK KC
    (refine seq_take _ rfl (fun KC hK=>?_);go_simp;(first|refine hK _ ?_|refine ⟨_,fun _ _=>rfl,hK _ ?_⟩);clear hK KC)
    refine seq_done ?_
    go_wp2_with fail
    go_ret
    exact takepost_no HSE.out (((HU0.out.mono fun _ _ h=>h.elim).trans (Upd.of_new hB0)).trans hu1) hec
   | ok x =>
    rw[hrd] at hpost HSE
    obtain ⟨rfl,hu,P',hr,hp⟩:=rowL_add (A:=hiA bx) (put:=fun (v:Value × Value × Value × Value) v'=>((v.1,(v.2.1,(v.2.2.1,v'))):Value × Value × Value × Value)) (sm:=fun st st':hiS=>(st'.2.2.2.2.2.2.2.1=st.2.2.2.2.2.2.2.1)∧(st'.2.2.2.2.1=st.2.2.2.2.1)∧(st'.2.2.2.2.2.1=st.2.2.2.2.2.1)∧True) (ls:=fun st:hiS=>st.2.2.2.2.2.2.1) (st:=(a,(t,(k,((ph,pn),(nc,(nb,(es,(l,(f,((mh,mn),(gh,gn)))))))))))) (st':=(a,(t,(k,((ph,pn),(nc,(nb,(es++[x],(l,(f,((mh,mn),(gh,gn)))))))))))) (v:=(vl,(vnc,(vnb,ves)))) H2D.out HPUT.out hpost (fun v'=>rfl) ⟨rfl,rfl,rfl,trivial⟩ rfl HSUB.out
    go_simp
    refine hK.out _ _ hS1 ?_;clear hK KC
    (refine seq_take _ rfl (fun KC hK=>?_);go_simp;(first|refine hK _ ?_|refine ⟨_,fun _ _=>rfl,hK _ ?_⟩);clear hK KC)
    refine seq_done ?_
    have HU:=Lib.hid hu
    have HRL:=Lib.hid hr
    have HP:=Lib.hid hp
    clear hu hr hp hpost hrd
    go_wp2_with fail
    go_ret
    exact takepost_ok HSE.out (((HU0.out.mono fun _ _ h=>h.elim).trans (Upd.of_new hB0)).trans HU.out) HRL.out (fun k hk=>(HP.out k hk).imp id (fun h=>Nat.le_trans (Nat.le_trans hsz hB0.size) h))
 by_cases hN9:r.num=9
 ·have hty:r.num=9∧r.ty=2:=by omega
  have HSE:=Lib.hid (hiF_9 hty D a t k ph pn nc nb es l f mh mn gh gn)
  have HUK:=Lib.hid (hUl.out hty.1)
  have d2:((r.num:Int) == 2)=false:=by rw[beq_eq_false_iff_ne];omega
  have d3:((r.num:Int) == 3)=false:=by rw[beq_eq_false_iff_ne];omega
  have d4:((r.num:Int) == 4)=false:=by rw[beq_eq_false_iff_ne];omega
  have d5:((r.num:Int) == 5)=false:=by rw[beq_eq_false_iff_ne];omega
  have d6:((r.num:Int) == 6)=false:=by rw[beq_eq_false_iff_ne];omega
  have d7:((r.num:Int) == 7)=false:=by rw[beq_eq_false_iff_ne];omega
  have d8:((r.num:Int) == 8)=false:=by rw[beq_eq_false_iff_ne];omega
  have d9:((r.num:Int) == 9)=true:=by rw[beq_iff_eq];omega
  clear hty hk HKN hN9
  go_enter Tryz.func83,Tryz.ntmps83
  go_wp2_with fail
  rw[HW0.out]
  go_upto_region 17 with fail
  all_goals
   obtain ⟨D0,hD0⟩:∃ D0,W0.drew=D0:=⟨_,rfl⟩
   have hB0:Below W0.heap.size W0 D0:=by rw[←hD0];exact (Below.refl _ _).drew
   have hS:(fun w':World=>w'.heap[rb]? = some (.cells #[.int .i64 (r.num:Int),.int .i64 (r.ty:Int),.int .u64 (r.n:Int),.string X,.string ⟨r.raw.toArray⟩] 78 (0,0))) D0:=(hB0.block _ (row_lt HR0.out)).trans HR0.out
   have hne:Nonempty {w':World // (fun w':World=>w'.heap[rb]? = some (.cells #[.int .i64 (r.num:Int),.int .i64 (r.ty:Int),.int .u64 (r.n:Int),.string X,.string ⟨r.raw.toArray⟩] 78 (0,0))) w'}:=⟨⟨_,hS⟩⟩
   refine wp_region_seq (S:=fun w':World=>w'.heap[rb]? = some (.cells #[.int .i64 (r.num:Int),.int .i64 (r.ty:Int),.int .u64 (r.n:Int),.string X,.string ⟨r.raw.toArray⟩] 78 (0,0))) [(0,true),(1,true),(2,true),(3,true),(4,true),(5,true),(6,false),(7,true)] (by kernel_rfl) (by kernel_rfl) (by kernel_rfl) (by kernel_rfl) (by rw[hD0];exact hS) ?_
   rw[hD0]
   iterate 4 (refine seq_take _ rfl (fun KC hK=>?_);go_simp;(first|refine hK _ ?_|refine ⟨_,fun _ _=>rfl,hK _ ?_⟩);clear hK KC)
   refine seq_take _ rfl (fun KC hK=>?_);go_simp
   refine ⟨.string X,fun a ha=>by rw[row_cell ha (j:=3) rfl];rfl,hK _ ?_⟩
   clear hK KC
   (refine seq_take _ rfl (fun KC hK=>?_);go_simp;(first|refine hK _ ?_|refine ⟨_,fun _ _=>rfl,hK _ ?_⟩);clear hK KC)
   have H2D:Hid ((hiA bx).rel (a,(t,(k,((ph,pn),(nc,(nb,(es,(l,(f,((mh,mn),(gh,gn))))))))))) (vl,(vnc,(vnb,ves))) P1 D0):=Lib.hid ((hiA bx).kept H20.out ((Upd.of_new (S:=fun _=>False) hB0).mono fun _ _ h=>h.elim))
   obtain ⟨Pi,hls,hsub,hput⟩:=hi_see_l bx _ _ _ _ H2D.out
   have HPUT:=Lib.hid hput
   have HSUB:=Lib.hid hsub
   clear hput hsub
   have HA:=Lib.hid (addk_any bx 0 (bx+1) (hiRow (a,(t,(k,((ph,pn),(nc,(nb,(es,(l,(f,((mh,mn),(gh,gn))))))))))) (vl,(vnc,(vnb,ves)))) 50 vl l Pi 109 X (D - 1) (kread 1000001 r.s (D - 1)) D0 (enters_of Tryz.func109 (by kernel_rfl) rfl) (Lib.hid ((hB0.block _ (row_lt H10.out)).trans H10.out)) rfl ⟨by omega,by have:=hB0.size;omega⟩ (Lib.hid hls) hll (Lib.hid (fun w'=>by have:=HUK.out X (D - 1) w' (by omega) (by omega);rwa [HXD.out] at this)))
   clear hls
   refine seq_come _ rfl (fun KC hK=>?_);go_simp
   refine HA.out.mono ?_;intro e w1 hpost
   have hS1:(fun w':World=>w'.heap[rb]? = some (.cells #[.int .i64 (r.num:Int),.int .i64 (r.ty:Int),.int .u64 (r.n:Int),.string X,.string ⟨r.raw.toArray⟩] 78 (0,0))) w1:=(hpost.1.block rb (row_lt hS) (fun e=>by
    rcases e with e|e
    ·omega
    ·have:=HP1.out rb (HSUB.out rb e);have:=HRB.out;omega)).trans hS
   cases hrd:kread 1000001 r.s (D - 1) with
   | error c =>
    rw[hrd] at hpost HSE
    obtain ⟨hu1,y,rfl,hec⟩:=hpost
    have hu1:=hu1.mono (S':=fun k=>k=bx∨P1 k) (fun k _ h=>h.imp id (HSUB.out k))
    obtain ⟨T',z,rfl⟩:=hec.iface
    go_simp
    refine hK.out _ _ hS1 ?_;clear hK KC
    (refine seq_take _ rfl (fun KC hK=>?_);go_simp;(first|refine hK _ ?_|refine ⟨_,fun _ _=>rfl,hK _ ?_⟩);clear hK KC)
    refine seq_done ?_
    go_wp2_with fail
    go_ret
    exact takepost_no HSE.out (((HU0.out.mono fun _ _ h=>h.elim).trans (Upd.of_new hB0)).trans hu1) hec
   | ok x =>
    rw[hrd] at hpost HSE
    obtain ⟨rfl,hu,P',hr,hp⟩:=rowL_add (A:=hiA bx) (put:=fun (v:Value × Value × Value × Value) v'=>((v',(v.2.1,(v.2.2.1,v.2.2.2))):Value × Value × Value × Value)) (sm:=fun st st':hiS=>(True)∧(st'.2.2.2.2.1=st.2.2.2.2.1)∧(st'.2.2.2.2.2.1=st.2.2.2.2.2.1)∧st'.2.2.2.2.2.2.1=st.2.2.2.2.2.2.1) (ls:=fun st:hiS=>st.2.2.2.2.2.2.2.1) (st:=(a,(t,(k,((ph,pn),(nc,(nb,(es,(l,(f,((mh,mn),(gh,gn)))))))))))) (st':=(a,(t,(k,((ph,pn),(nc,(nb,(es,(l++[x],(f,((mh,mn),(gh,gn)))))))))))) (v:=(vl,(vnc,(vnb,ves)))) H2D.out HPUT.out hpost (fun v'=>rfl) ⟨trivial,rfl,rfl,rfl⟩ rfl HSUB.out
    go_simp
    refine hK.out _ _ hS1 ?_;clear hK KC
    (refine seq_take _ rfl (fun KC hK=>?_);go_simp;(first|refine hK _ ?_|refine ⟨_,fun _ _=>rfl,hK _ ?_⟩);clear hK KC)
    refine seq_done ?_
    have HU:=Lib.hid hu
    have HRL:=Lib.hid hr
    have HP:=Lib.hid hp
    clear hu hr hp hpost hrd
    go_wp2_with fail
    go_ret
    exact takepost_ok HSE.out (((HU0.out.mono fun _ _ h=>h.elim).trans (Upd.of_new hB0)).trans HU.out) HRL.out (fun k hk=>(HP.out k hk).imp id (fun h=>Nat.le_trans (Nat.le_trans hsz hB0.size) h))
 by_cases hN10:r.num=10
 ·have hty:r.num=10∧r.ty=0:=by omega
  have HSE:=Lib.hid (hiF_10 hty D a t k ph pn nc nb es l f mh mn gh gn)
  have d2:((r.num:Int) == 2)=false:=by rw[beq_eq_false_iff_ne];omega
  have d3:((r.num:Int) == 3)=false:=by rw[beq_eq_false_iff_ne];omega
  have d4:((r.num:Int) == 4)=false:=by rw[beq_eq_false_iff_ne];omega
  have d5:((r.num:Int) == 5)=false:=by rw[beq_eq_false_iff_ne];omega
  have d6:((r.num:Int) == 6)=false:=by rw[beq_eq_false_iff_ne];omega
  have d7:((r.num:Int) == 7)=false:=by rw[beq_eq_false_iff_ne];omega
  have d8:((r.num:Int) == 8)=false:=by rw[beq_eq_false_iff_ne];omega
  have d9:((r.num:Int) == 9)=false:=by rw[beq_eq_false_iff_ne];omega
  have d10:((r.num:Int) == 10)=true:=by rw[beq_iff_eq];omega
  have q1:=u32_wrap r.n
  have hc13:W0.cell? ⟨bx,13,none⟩=some (.int .u32 (f:Int)):=row_cell H10.out (j:=13) rfl
  have hf13:W0.frozen? ⟨bx,13,none⟩=false:=row_thaw H10.out 13
  have HP:=Lib.hid (rowL_set (A:=hiA bx) (T0:=50) (row:=hiRow) (st:=(a,(t,(k,((ph,pn),(nc,(nb,(es,(l,(f,((mh,mn),(gh,gn)))))))))))) (st':=(a,(t,(k,((ph,pn),(nc,(nb,(es,(l,(r.n % 4294967296,((mh,mn),(gh,gn)))))))))))) (v:=(vl,(vnc,(vnb,ves)))) 13 (.int .u32 ((r.n:Int) % 4294967296)) H10.out H20.out (by unfold hiRow;rw[show ((r.n:Int) % 4294967296)=((r.n % 4294967296:Nat):Int) by omega];rfl) ⟨rfl,rfl,rfl,rfl⟩)
  rw[←HW0.out] at hc13 hf13
  clear hty hk HKN hN10
  go_enter Tryz.func83,Tryz.ntmps83
  go_wp2_with fail
  rw[HW0.out]
  go_ret
  exact takepost_ok HSE.out ((HU0.out.mono fun _ _ h=>h.elim).trans (HP.out.2.mono fun k _ h => .inl h)) HP.out.1 (fun k hk => .inl hk)
 by_cases hN11:r.num=11
 ·have hty:r.num=11∧r.ty=1:=by omega
  have HSE:=Lib.hid (hiF_11 hty D a t k ph pn nc nb es l f mh mn gh gn)
  have d2:((r.num:Int) == 2)=false:=by rw[beq_eq_false_iff_ne];omega
  have d3:((r.num:Int) == 3)=false:=by rw[beq_eq_false_iff_ne];omega
  have d4:((r.num:Int) == 4)=false:=by rw[beq_eq_false_iff_ne];omega
  have d5:((r.num:Int) == 5)=false:=by rw[beq_eq_false_iff_ne];omega
  have d6:((r.num:Int) == 6)=false:=by rw[beq_eq_false_iff_ne];omega
  have d7:((r.num:Int) == 7)=false:=by rw[beq_eq_false_iff_ne];omega
  have d8:((r.num:Int) == 8)=false:=by rw[beq_eq_false_iff_ne];omega
  have d9:((r.num:Int) == 9)=false:=by rw[beq_eq_false_iff_ne];omega
  have d10:((r.num:Int) == 10)=false:=by rw[beq_eq_false_iff_ne];omega
  have d11:((r.num:Int) == 11)=true:=by rw[beq_iff_eq];omega
  have hca:W0.cell? ⟨bx,6,none⟩=some (.bool mh):=row_cell H10.out (j:=6) rfl
  have hfa:W0.frozen? ⟨bx,6,none⟩=false:=row_thaw H10.out 6
  have hx1:=row_set H10.out 6 (.bool true)
  have hcb:(W0.setCell ⟨bx,6,none⟩ (.bool true)).cell? ⟨bx,7,none⟩=some (.int .u64 (mn:Int)):=row_cell hx1 (j:=7) rfl
  have hfb:(W0.setCell ⟨bx,6,none⟩ (.bool true)).frozen? ⟨bx,7,none⟩=false:=row_thaw hx1 7
  have HP:=Lib.hid (rowL_set2 (A:=hiA bx) (T0:=50) (row:=hiRow) (st:=(a,(t,(k,((ph,pn),(nc,(nb,(es,(l,(f,((mh,mn),(gh,gn)))))))))))) (st':=(a,(t,(k,((ph,pn),(nc,(nb,(es,(l,(f,((true,r.n),(gh,gn)))))))))))) (v:=(vl,(vnc,(vnb,ves)))) 6 7 (.bool true) (.int .u64 (r.n:Int)) H10.out H20.out rfl ⟨rfl,rfl,rfl,rfl⟩)
  rw[←HW0.out] at hca hfa hcb hfb
  clear hty hk HKN hN11 hx1
  go_enter Tryz.func83,Tryz.ntmps83
  go_wp2_with fail
  rw[HW0.out]
  go_ret
  exact takepost_ok HSE.out ((HU0.out.mono fun _ _ h=>h.elim).trans (HP.out.2.mono fun k _ h => .inl h)) HP.out.1 (fun k hk => .inl hk)
 have hty:r.num=12∧r.ty=1:=by omega
 have HSE:=Lib.hid (hiF_12 hty D a t k ph pn nc nb es l f mh mn gh gn)
 have d2:((r.num:Int) == 2)=false:=by rw[beq_eq_false_iff_ne];omega
 have d3:((r.num:Int) == 3)=false:=by rw[beq_eq_false_iff_ne];omega
 have d4:((r.num:Int) == 4)=false:=by rw[beq_eq_false_iff_ne];omega
 have d5:((r.num:Int) == 5)=false:=by rw[beq_eq_false_iff_ne];omega
 have d6:((r.num:Int) == 6)=false:=by rw[beq_eq_false_iff_ne];omega
 have d7:((r.num:Int) == 7)=false:=by rw[beq_eq_false_iff_ne];omega
 have d8:((r.num:Int) == 8)=false:=by rw[beq_eq_false_iff_ne];omega
 have d9:((r.num:Int) == 9)=false:=by rw[beq_eq_false_iff_ne];omega
 have d10:((r.num:Int) == 10)=false:=by rw[beq_eq_false_iff_ne];omega
 have d11:((r.num:Int) == 11)=false:=by rw[beq_eq_false_iff_ne];omega
 have d12:((r.num:Int) == 12)=true:=by rw[beq_iff_eq];omega
 have hca:W0.cell? ⟨bx,8,none⟩=some (.bool gh):=row_cell H10.out (j:=8) rfl
 have hfa:W0.frozen? ⟨bx,8,none⟩=false:=row_thaw H10.out 8
 have hx1:=row_set H10.out 8 (.bool true)
 have hcb:(W0.setCell ⟨bx,8,none⟩ (.bool true)).cell? ⟨bx,9,none⟩=some (.int .u64 (gn:Int)):=row_cell hx1 (j:=9) rfl
 have hfb:(W0.setCell ⟨bx,8,none⟩ (.bool true)).frozen? ⟨bx,9,none⟩=false:=row_thaw hx1 9
 have HP:=Lib.hid (rowL_set2 (A:=hiA bx) (T0:=50) (row:=hiRow) (st:=(a,(t,(k,((ph,pn),(nc,(nb,(es,(l,(f,((mh,mn),(gh,gn)))))))))))) (st':=(a,(t,(k,((ph,pn),(nc,(nb,(es,(l,(f,((mh,mn),(true,r.n)))))))))))) (v:=(vl,(vnc,(vnb,ves)))) 8 9 (.bool true) (.int .u64 (r.n:Int)) H10.out H20.out rfl ⟨rfl,rfl,rfl,rfl⟩)
 rw[←HW0.out] at hca hfa hcb hfb
 clear hty hk HKN hx1
 go_enter Tryz.func83,Tryz.ntmps83
 go_wp2_with fail
 rw[HW0.out]
 go_ret
 exact takepost_ok HSE.out ((HU0.out.mono fun _ _ h=>h.elim).trans (HP.out.2.mono fun k _ h => .inl h)) HP.out.1 (fun k hk => .inl hk)
theorem hiclo_any (bx bd:Nat) (D:Int) (r:Rec) (hUl:Hid (r.num=9→UKey)) (hUes:Hid (r.num=8→ExUn)) (st:hiS) (P:Nat→Prop) (w:World) (hD : -9223372036854775807≤D∧D≤9223372036854775807) (hk:hiF.tk r=true) (hs:r.s.length≤500000) (hll:st.2.2.2.2.2.2.2.1.length≤1000000) (hlnc:st.2.2.2.2.1.length≤1000000) (hlnb:st.2.2.2.2.2.1.length≤1000000) (hles:st.2.2.2.2.2.2.1.length≤1000000) (h:Hid ((capT (hiT bx) bd D).rel st P w)) :
  Calls Tryz.prog 82 #[recV r,.pointer (some ⟨bx,0,none⟩),.pointer (some ⟨bd,0,none⟩)] w (TakePost (capT (hiT bx) bd D) (hiF.step D) st P r w):=by
 obtain ⟨P0,hr,hn,hb,rfl⟩:=h.out
 refine Calls.mono ?_ (fun e w' hp=>capT_post hp hn hb)
 have HR:=Lib.hid hr
 have HB:=Lib.hid hb
 clear h hr hb
 obtain ⟨X,hX⟩:∃ X:ByteArray,(⟨r.s.toArray⟩:ByteArray)=X:=⟨_,rfl⟩
 have HX:Hid ((⟨r.s.toArray⟩:ByteArray)=X):=Lib.hid hX
 obtain ⟨rb,hrb⟩:∃ rb,w.heap.size=rb:=⟨_,rfl⟩
 obtain ⟨W0,hW0⟩:∃ W0,w.alloc (.cells #[.int .i64 (r.num:Int),.int .i64 (r.ty:Int),.int .u64 (r.n:Int),.string X,.string ⟨r.raw.toArray⟩] 78)=W0:=⟨_,rfl⟩
 have HB0:Hid (Below w.heap.size w W0):=Lib.hid (by rw[←hW0];exact below_new _ _)
 have HR0:Hid (W0.heap[rb]? = some (.cells #[.int .i64 (r.num:Int),.int .i64 (r.ty:Int),.int .u64 (r.n:Int),.string X,.string ⟨r.raw.toArray⟩] 78 (0,0))):=Lib.hid (by rw[←hW0,←hrb];exact heap_alloc_new _ _)
 have HW0:=Lib.hid hW0
 have HRB:=Lib.hid hrb
 have q1:IntKind.i64.wrap (D - 1)=D - 1:=IntWalk.i64_in _ (by omega)
 unfold recV
 rw[hX]
 clear hX hW0
 go_enter Tryz.func82,Tryz.ntmps82
 go_wp2_with fail
 rw[HW0.out]
 go_upto_region 1 with fail
 all_goals
  obtain ⟨D0,hD0⟩:∃ D0,W0.drew=D0:=⟨_,rfl⟩
  have hB0:Below W0.heap.size W0 D0:=by rw[←hD0];exact (Below.refl _ _).drew
  have HBD:=Lib.hid (below_step HB0.out hB0)
  have hS:R2 rb #[.int .i64 (r.num:Int),.int .i64 (r.ty:Int),.int .u64 (r.n:Int),.string X,.string ⟨r.raw.toArray⟩] 78 bd #[.int .i64 D] 3 D0:=⟨(hB0.block _ (row_lt HR0.out)).trans HR0.out,(HBD.out.block _ (row_lt HB.out)).trans HB.out⟩
  have hne:Nonempty {w':World // R2 rb #[.int .i64 (r.num:Int),.int .i64 (r.ty:Int),.int .u64 (r.n:Int),.string X,.string ⟨r.raw.toArray⟩] 78 bd #[.int .i64 D] 3 w'}:=⟨⟨_,hS⟩⟩
  refine wp_region_seq (S:=R2 rb #[.int .i64 (r.num:Int),.int .i64 (r.ty:Int),.int .u64 (r.n:Int),.string X,.string ⟨r.raw.toArray⟩] 78 bd #[.int .i64 D] 3) [(0,true),(1,true),(2,true),(3,true),(4,true),(5,false),(6,false),(7,true)] (by kernel_rfl) (by kernel_rfl) (by kernel_rfl) (by kernel_rfl) (by rw[hD0];exact hS) ?_
  rw[hD0]
  (refine seq_take _ rfl (fun KC hK=>?_);go_simp;(first|refine hK _ ?_|refine ⟨_,fun _ _=>rfl,hK _ ?_⟩);clear hK KC)
  refine seq_take _ rfl (fun KC hK=>?_);go_simp
  refine ⟨.int .i64 (r.num:Int),fun a ha=>by rw[row_cell ha.1 (j:=0) rfl];rfl,hK _ ?_⟩
  clear hK KC
  refine seq_take _ rfl (fun KC hK=>?_);go_simp
  refine ⟨.agg #[.int .i64 (r.num:Int),.int .i64 (r.ty:Int),.int .u64 (r.n:Int),.string X,.string ⟨r.raw.toArray⟩],fun a ha=>by (have e0:=row_cell ha.1 (j:=0) rfl;have e1:=row_cell ha.1 (j:=1) rfl;have e2:=row_cell ha.1 (j:=2) rfl;have e3:=row_cell ha.1 (j:=3) rfl;have e4:=row_cell ha.1 (j:=4) rfl);simp only[e0,e1,e2,e3,e4,Result.andThen];rfl,hK _ ?_⟩
  clear hK KC
  refine seq_take _ rfl (fun KC hK=>?_);go_simp
  refine ⟨.int .i64 D,fun a ha=>by rw[row_cell ha.2 (j:=0) rfl];rfl,hK _ ?_⟩
  clear hK KC
  (refine seq_take _ rfl (fun KC hK=>?_);go_simp;(first|refine hK _ ?_|refine ⟨_,fun _ _=>rfl,hK _ ?_⟩);clear hK KC)
  have HT:=Lib.hid (hitake_any bx D r hUl hUes st P0 D0 hD hk hs hll hlnc hlnb hles (Lib.hid ((hiT bx).kept _ _ _ _ HR.out (Upd.of_new HBD.out))))
  unfold recV at HT
  rw[HX.out] at HT
  refine seq_come _ rfl (fun KC hK=>?_);go_simp
  refine HT.out.mono ?_;rintro e w1 ⟨hu,hcase⟩
  have hlt:=(hiT bx).lt _ _ _ HR.out
  have hS1:R2 rb #[.int .i64 (r.num:Int),.int .i64 (r.ty:Int),.int .u64 (r.n:Int),.string X,.string ⟨r.raw.toArray⟩] 78 bd #[.int .i64 D] 3 w1:=⟨(hu.block rb (row_lt hS.1) (fun e=>by have:=hlt rb e;have:=HRB.out;omega)).trans hS.1,(hu.block bd (row_lt hS.2) hn).trans hS.2⟩
  cases hst:hiF.step D st r with
  | error c =>
   rw[hst] at hcase
   obtain ⟨y,rfl,hec⟩:=hcase
   obtain ⟨T',z,rfl⟩:=hec.iface
   have HEC:=Lib.hid hec
   have HU:=Lib.hid hu
   clear hec hu hlt
   go_simp
   refine hK.out _ _ hS1 ?_;clear hK KC
   refine seq_come _ rfl (fun KC hK=>?_);go_simp
   refine (in_any _ _ _ _).mono ?_;rintro e w' ⟨rfl,rfl⟩
   go_simp
   refine hK.out _ _ (hS1.below (below_new _ _)) ?_;clear hK KC
   (refine seq_take _ rfl (fun KC hK=>?_);go_simp;(first|refine hK _ ?_|refine ⟨_,fun _ _=>rfl,hK _ ?_⟩);clear hK KC)
   refine seq_done ?_
   go_wp2_with fail
   go_ret
   exact takepost_no hst (((Upd.of_new HBD.out).trans HU.out).trans (Upd.alloc _ _ _)) (ec_field HEC.out)
  | ok st' =>
   rw[hst] at hcase
   obtain ⟨rfl,P',hr,hp⟩:=hcase
   have HRL:=Lib.hid hr
   have HP:=Lib.hid hp
   have HU:=Lib.hid hu
   clear hr hp hu hlt
   go_simp
   refine hK.out _ _ hS1 ?_;clear hK KC
   refine seq_come _ rfl (fun KC hK=>?_);go_simp
   refine (in_nil _ _).mono ?_;rintro e w' ⟨rfl,rfl⟩
   go_simp
   refine hK.out _ _ hS1 ?_;clear hK KC
   (refine seq_take _ rfl (fun KC hK=>?_);go_simp;(first|refine hK _ ?_|refine ⟨_,fun _ _=>rfl,hK _ ?_⟩);clear hK KC)
   refine seq_done ?_
   go_wp2_with fail
   go_ret
   exact takepost_ok hst ((Upd.of_new HBD.out).trans HU.out) HRL.out (fun k hk=>(HP.out k hk).imp id (fun h=>Nat.le_trans HBD.out.size h))
theorem hi_set {w:World} {g:Nat} {T:TypeId} {z0 z1 z2 z3 z4 z5 z6 z7 z8 z9 z10 z11 z12 z13 z14:Value} (h:w.heap[g]? = some (.cells #[z0,z1,z2,z3,z4,z5,z6,z7,z8,z9,z10,z11,z12,z13,z14] T (0,0))) (c0 c1 c2 c3 c4 c5 c6 c7 c8 c9 c10 c11 c12 c13 c14:Value):(((((((((((((((w.setCell ⟨g,0,none⟩ c0).setCell ⟨g,1,none⟩ c1).setCell ⟨g,2,none⟩ c2).setCell ⟨g,3,none⟩ c3).setCell ⟨g,4,none⟩ c4).setCell ⟨g,5,none⟩ c5).setCell ⟨g,6,none⟩ c6).setCell ⟨g,7,none⟩ c7).setCell ⟨g,8,none⟩ c8).setCell ⟨g,9,none⟩ c9).setCell ⟨g,10,none⟩ c10).setCell ⟨g,11,none⟩ c11).setCell ⟨g,12,none⟩ c12).setCell ⟨g,13,none⟩ c13).setCell ⟨g,14,none⟩ c14).heap[g]? = some (.cells #[c0,c1,c2,c3,c4,c5,c6,c7,c8,c9,c10,c11,c12,c13,c14] T (0,0))∧Upd (fun k=>k=g) w (((((((((((((((w.setCell ⟨g,0,none⟩ c0).setCell ⟨g,1,none⟩ c1).setCell ⟨g,2,none⟩ c2).setCell ⟨g,3,none⟩ c3).setCell ⟨g,4,none⟩ c4).setCell ⟨g,5,none⟩ c5).setCell ⟨g,6,none⟩ c6).setCell ⟨g,7,none⟩ c7).setCell ⟨g,8,none⟩ c8).setCell ⟨g,9,none⟩ c9).setCell ⟨g,10,none⟩ c10).setCell ⟨g,11,none⟩ c11).setCell ⟨g,12,none⟩ c12).setCell ⟨g,13,none⟩ c13).setCell ⟨g,14,none⟩ c14):=by
 have r0:(w.setCell ⟨g,0,none⟩ c0).heap[g]? = some (.cells #[c0,z1,z2,z3,z4,z5,z6,z7,z8,z9,z10,z11,z12,z13,z14] T (0,0)):=row_set h 0 c0
 have u0:Upd (fun k=>k=g) w (w.setCell ⟨g,0,none⟩ c0):=Upd.set w ⟨g,0,none⟩ c0
 have r1:((w.setCell ⟨g,0,none⟩ c0).setCell ⟨g,1,none⟩ c1).heap[g]? = some (.cells #[c0,c1,z2,z3,z4,z5,z6,z7,z8,z9,z10,z11,z12,z13,z14] T (0,0)):=row_set r0 1 c1
 have u1:Upd (fun k=>k=g) w ((w.setCell ⟨g,0,none⟩ c0).setCell ⟨g,1,none⟩ c1):=u0.trans (Upd.set (w.setCell ⟨g,0,none⟩ c0) ⟨g,1,none⟩ c1)
 have r2:(((w.setCell ⟨g,0,none⟩ c0).setCell ⟨g,1,none⟩ c1).setCell ⟨g,2,none⟩ c2).heap[g]? = some (.cells #[c0,c1,c2,z3,z4,z5,z6,z7,z8,z9,z10,z11,z12,z13,z14] T (0,0)):=row_set r1 2 c2
 have u2:Upd (fun k=>k=g) w (((w.setCell ⟨g,0,none⟩ c0).setCell ⟨g,1,none⟩ c1).setCell ⟨g,2,none⟩ c2):=u1.trans (Upd.set ((w.setCell ⟨g,0,none⟩ c0).setCell ⟨g,1,none⟩ c1) ⟨g,2,none⟩ c2)
 have r3:((((w.setCell ⟨g,0,none⟩ c0).setCell ⟨g,1,none⟩ c1).setCell ⟨g,2,none⟩ c2).setCell ⟨g,3,none⟩ c3).heap[g]? = some (.cells #[c0,c1,c2,c3,z4,z5,z6,z7,z8,z9,z10,z11,z12,z13,z14] T (0,0)):=row_set r2 3 c3
 have u3:Upd (fun k=>k=g) w ((((w.setCell ⟨g,0,none⟩ c0).setCell ⟨g,1,none⟩ c1).setCell ⟨g,2,none⟩ c2).setCell ⟨g,3,none⟩ c3):=u2.trans (Upd.set (((w.setCell ⟨g,0,none⟩ c0).setCell ⟨g,1,none⟩ c1).setCell ⟨g,2,none⟩ c2) ⟨g,3,none⟩ c3)
 have r4:(((((w.setCell ⟨g,0,none⟩ c0).setCell ⟨g,1,none⟩ c1).setCell ⟨g,2,none⟩ c2).setCell ⟨g,3,none⟩ c3).setCell ⟨g,4,none⟩ c4).heap[g]? = some (.cells #[c0,c1,c2,c3,c4,z5,z6,z7,z8,z9,z10,z11,z12,z13,z14] T (0,0)):=row_set r3 4 c4
 have u4:Upd (fun k=>k=g) w (((((w.setCell ⟨g,0,none⟩ c0).setCell ⟨g,1,none⟩ c1).setCell ⟨g,2,none⟩ c2).setCell ⟨g,3,none⟩ c3).setCell ⟨g,4,none⟩ c4):=u3.trans (Upd.set ((((w.setCell ⟨g,0,none⟩ c0).setCell ⟨g,1,none⟩ c1).setCell ⟨g,2,none⟩ c2).setCell ⟨g,3,none⟩ c3) ⟨g,4,none⟩ c4)
 have r5:((((((w.setCell ⟨g,0,none⟩ c0).setCell ⟨g,1,none⟩ c1).setCell ⟨g,2,none⟩ c2).setCell ⟨g,3,none⟩ c3).setCell ⟨g,4,none⟩ c4).setCell ⟨g,5,none⟩ c5).heap[g]? = some (.cells #[c0,c1,c2,c3,c4,c5,z6,z7,z8,z9,z10,z11,z12,z13,z14] T (0,0)):=row_set r4 5 c5
 have u5:Upd (fun k=>k=g) w ((((((w.setCell ⟨g,0,none⟩ c0).setCell ⟨g,1,none⟩ c1).setCell ⟨g,2,none⟩ c2).setCell ⟨g,3,none⟩ c3).setCell ⟨g,4,none⟩ c4).setCell ⟨g,5,none⟩ c5):=u4.trans (Upd.set (((((w.setCell ⟨g,0,none⟩ c0).setCell ⟨g,1,none⟩ c1).setCell ⟨g,2,none⟩ c2).setCell ⟨g,3,none⟩ c3).setCell ⟨g,4,none⟩ c4) ⟨g,5,none⟩ c5)
 have r6:(((((((w.setCell ⟨g,0,none⟩ c0).setCell ⟨g,1,none⟩ c1).setCell ⟨g,2,none⟩ c2).setCell ⟨g,3,none⟩ c3).setCell ⟨g,4,none⟩ c4).setCell ⟨g,5,none⟩ c5).setCell ⟨g,6,none⟩ c6).heap[g]? = some (.cells #[c0,c1,c2,c3,c4,c5,c6,z7,z8,z9,z10,z11,z12,z13,z14] T (0,0)):=row_set r5 6 c6
 have u6:Upd (fun k=>k=g) w (((((((w.setCell ⟨g,0,none⟩ c0).setCell ⟨g,1,none⟩ c1).setCell ⟨g,2,none⟩ c2).setCell ⟨g,3,none⟩ c3).setCell ⟨g,4,none⟩ c4).setCell ⟨g,5,none⟩ c5).setCell ⟨g,6,none⟩ c6):=u5.trans (Upd.set ((((((w.setCell ⟨g,0,none⟩ c0).setCell ⟨g,1,none⟩ c1).setCell ⟨g,2,none⟩ c2).setCell ⟨g,3,none⟩ c3).setCell ⟨g,4,none⟩ c4).setCell ⟨g,5,none⟩ c5) ⟨g,6,none⟩ c6)
 have r7:((((((((w.setCell ⟨g,0,none⟩ c0).setCell ⟨g,1,none⟩ c1).setCell ⟨g,2,none⟩ c2).setCell ⟨g,3,none⟩ c3).setCell ⟨g,4,none⟩ c4).setCell ⟨g,5,none⟩ c5).setCell ⟨g,6,none⟩ c6).setCell ⟨g,7,none⟩ c7).heap[g]? = some (.cells #[c0,c1,c2,c3,c4,c5,c6,c7,z8,z9,z10,z11,z12,z13,z14] T (0,0)):=row_set r6 7 c7
 have u7:Upd (fun k=>k=g) w ((((((((w.setCell ⟨g,0,none⟩ c0).setCell ⟨g,1,none⟩ c1).setCell ⟨g,2,none⟩ c2).setCell ⟨g,3,none⟩ c3).setCell ⟨g,4,none⟩ c4).setCell ⟨g,5,none⟩ c5).setCell ⟨g,6,none⟩ c6).setCell ⟨g,7,none⟩ c7):=u6.trans (Upd.set (((((((w.setCell ⟨g,0,none⟩ c0).setCell ⟨g,1,none⟩ c1).setCell ⟨g,2,none⟩ c2).setCell ⟨g,3,none⟩ c3).setCell ⟨g,4,none⟩ c4).setCell ⟨g,5,none⟩ c5).setCell ⟨g,6,none⟩ c6) ⟨g,7,none⟩ c7)
 have r8:(((((((((w.setCell ⟨g,0,none⟩ c0).setCell ⟨g,1,none⟩ c1).setCell ⟨g,2,none⟩ c2).setCell ⟨g,3,none⟩ c3).setCell ⟨g,4,none⟩ c4).setCell ⟨g,5,none⟩ c5).setCell ⟨g,6,none⟩ c6).setCell ⟨g,7,none⟩ c7).setCell ⟨g,8,none⟩ c8).heap[g]? = some (.cells #[c0,c1,c2,c3,c4,c5,c6,c7,c8,z9,z10,z11,z12,z13,z14] T (0,0)):=row_set r7 8 c8
 have u8:Upd (fun k=>k=g) w (((((((((w.setCell ⟨g,0,none⟩ c0).setCell ⟨g,1,none⟩ c1).setCell ⟨g,2,none⟩ c2).setCell ⟨g,3,none⟩ c3).setCell ⟨g,4,none⟩ c4).setCell ⟨g,5,none⟩ c5).setCell ⟨g,6,none⟩ c6).setCell ⟨g,7,none⟩ c7).setCell ⟨g,8,none⟩ c8):=u7.trans (Upd.set ((((((((w.setCell ⟨g,0,none⟩ c0).setCell ⟨g,1,none⟩ c1).setCell ⟨g,2,none⟩ c2).setCell ⟨g,3,none⟩ c3).setCell ⟨g,4,none⟩ c4).setCell ⟨g,5,none⟩ c5).setCell ⟨g,6,none⟩ c6).setCell ⟨g,7,none⟩ c7) ⟨g,8,none⟩ c8)
 have r9:((((((((((w.setCell ⟨g,0,none⟩ c0).setCell ⟨g,1,none⟩ c1).setCell ⟨g,2,none⟩ c2).setCell ⟨g,3,none⟩ c3).setCell ⟨g,4,none⟩ c4).setCell ⟨g,5,none⟩ c5).setCell ⟨g,6,none⟩ c6).setCell ⟨g,7,none⟩ c7).setCell ⟨g,8,none⟩ c8).setCell ⟨g,9,none⟩ c9).heap[g]? = some (.cells #[c0,c1,c2,c3,c4,c5,c6,c7,c8,c9,z10,z11,z12,z13,z14] T (0,0)):=row_set r8 9 c9
 have u9:Upd (fun k=>k=g) w ((((((((((w.setCell ⟨g,0,none⟩ c0).setCell ⟨g,1,none⟩ c1).setCell ⟨g,2,none⟩ c2).setCell ⟨g,3,none⟩ c3).setCell ⟨g,4,none⟩ c4).setCell ⟨g,5,none⟩ c5).setCell ⟨g,6,none⟩ c6).setCell ⟨g,7,none⟩ c7).setCell ⟨g,8,none⟩ c8).setCell ⟨g,9,none⟩ c9):=u8.trans (Upd.set (((((((((w.setCell ⟨g,0,none⟩ c0).setCell ⟨g,1,none⟩ c1).setCell ⟨g,2,none⟩ c2).setCell ⟨g,3,none⟩ c3).setCell ⟨g,4,none⟩ c4).setCell ⟨g,5,none⟩ c5).setCell ⟨g,6,none⟩ c6).setCell ⟨g,7,none⟩ c7).setCell ⟨g,8,none⟩ c8) ⟨g,9,none⟩ c9)
 have r10:(((((((((((w.setCell ⟨g,0,none⟩ c0).setCell ⟨g,1,none⟩ c1).setCell ⟨g,2,none⟩ c2).setCell ⟨g,3,none⟩ c3).setCell ⟨g,4,none⟩ c4).setCell ⟨g,5,none⟩ c5).setCell ⟨g,6,none⟩ c6).setCell ⟨g,7,none⟩ c7).setCell ⟨g,8,none⟩ c8).setCell ⟨g,9,none⟩ c9).setCell ⟨g,10,none⟩ c10).heap[g]? = some (.cells #[c0,c1,c2,c3,c4,c5,c6,c7,c8,c9,c10,z11,z12,z13,z14] T (0,0)):=row_set r9 10 c10
 have u10:Upd (fun k=>k=g) w (((((((((((w.setCell ⟨g,0,none⟩ c0).setCell ⟨g,1,none⟩ c1).setCell ⟨g,2,none⟩ c2).setCell ⟨g,3,none⟩ c3).setCell ⟨g,4,none⟩ c4).setCell ⟨g,5,none⟩ c5).setCell ⟨g,6,none⟩ c6).setCell ⟨g,7,none⟩ c7).setCell ⟨g,8,none⟩ c8).setCell ⟨g,9,none⟩ c9).setCell ⟨g,10,none⟩ c10):=u9.trans (Upd.set ((((((((((w.setCell ⟨g,0,none⟩ c0).setCell ⟨g,1,none⟩ c1).setCell ⟨g,2,none⟩ c2).setCell ⟨g,3,none⟩ c3).setCell ⟨g,4,none⟩ c4).setCell ⟨g,5,none⟩ c5).setCell ⟨g,6,none⟩ c6).setCell ⟨g,7,none⟩ c7).setCell ⟨g,8,none⟩ c8).setCell ⟨g,9,none⟩ c9) ⟨g,10,none⟩ c10)
 have r11:((((((((((((w.setCell ⟨g,0,none⟩ c0).setCell ⟨g,1,none⟩ c1).setCell ⟨g,2,none⟩ c2).setCell ⟨g,3,none⟩ c3).setCell ⟨g,4,none⟩ c4).setCell ⟨g,5,none⟩ c5).setCell ⟨g,6,none⟩ c6).setCell ⟨g,7,none⟩ c7).setCell ⟨g,8,none⟩ c8).setCell ⟨g,9,none⟩ c9).setCell ⟨g,10,none⟩ c10).setCell ⟨g,11,none⟩ c11).heap[g]? = some (.cells #[c0,c1,c2,c3,c4,c5,c6,c7,c8,c9,c10,c11,z12,z13,z14] T (0,0)):=row_set r10 11 c11
 have u11:Upd (fun k=>k=g) w ((((((((((((w.setCell ⟨g,0,none⟩ c0).setCell ⟨g,1,none⟩ c1).setCell ⟨g,2,none⟩ c2).setCell ⟨g,3,none⟩ c3).setCell ⟨g,4,none⟩ c4).setCell ⟨g,5,none⟩ c5).setCell ⟨g,6,none⟩ c6).setCell ⟨g,7,none⟩ c7).setCell ⟨g,8,none⟩ c8).setCell ⟨g,9,none⟩ c9).setCell ⟨g,10,none⟩ c10).setCell ⟨g,11,none⟩ c11):=u10.trans (Upd.set (((((((((((w.setCell ⟨g,0,none⟩ c0).setCell ⟨g,1,none⟩ c1).setCell ⟨g,2,none⟩ c2).setCell ⟨g,3,none⟩ c3).setCell ⟨g,4,none⟩ c4).setCell ⟨g,5,none⟩ c5).setCell ⟨g,6,none⟩ c6).setCell ⟨g,7,none⟩ c7).setCell ⟨g,8,none⟩ c8).setCell ⟨g,9,none⟩ c9).setCell ⟨g,10,none⟩ c10) ⟨g,11,none⟩ c11)
 have r12:(((((((((((((w.setCell ⟨g,0,none⟩ c0).setCell ⟨g,1,none⟩ c1).setCell ⟨g,2,none⟩ c2).setCell ⟨g,3,none⟩ c3).setCell ⟨g,4,none⟩ c4).setCell ⟨g,5,none⟩ c5).setCell ⟨g,6,none⟩ c6).setCell ⟨g,7,none⟩ c7).setCell ⟨g,8,none⟩ c8).setCell ⟨g,9,none⟩ c9).setCell ⟨g,10,none⟩ c10).setCell ⟨g,11,none⟩ c11).setCell ⟨g,12,none⟩ c12).heap[g]? = some (.cells #[c0,c1,c2,c3,c4,c5,c6,c7,c8,c9,c10,c11,c12,z13,z14] T (0,0)):=row_set r11 12 c12
 have u12:Upd (fun k=>k=g) w (((((((((((((w.setCell ⟨g,0,none⟩ c0).setCell ⟨g,1,none⟩ c1).setCell ⟨g,2,none⟩ c2).setCell ⟨g,3,none⟩ c3).setCell ⟨g,4,none⟩ c4).setCell ⟨g,5,none⟩ c5).setCell ⟨g,6,none⟩ c6).setCell ⟨g,7,none⟩ c7).setCell ⟨g,8,none⟩ c8).setCell ⟨g,9,none⟩ c9).setCell ⟨g,10,none⟩ c10).setCell ⟨g,11,none⟩ c11).setCell ⟨g,12,none⟩ c12):=u11.trans (Upd.set ((((((((((((w.setCell ⟨g,0,none⟩ c0).setCell ⟨g,1,none⟩ c1).setCell ⟨g,2,none⟩ c2).setCell ⟨g,3,none⟩ c3).setCell ⟨g,4,none⟩ c4).setCell ⟨g,5,none⟩ c5).setCell ⟨g,6,none⟩ c6).setCell ⟨g,7,none⟩ c7).setCell ⟨g,8,none⟩ c8).setCell ⟨g,9,none⟩ c9).setCell ⟨g,10,none⟩ c10).setCell ⟨g,11,none⟩ c11) ⟨g,12,none⟩ c12)
 have r13:((((((((((((((w.setCell ⟨g,0,none⟩ c0).setCell ⟨g,1,none⟩ c1).setCell ⟨g,2,none⟩ c2).setCell ⟨g,3,none⟩ c3).setCell ⟨g,4,none⟩ c4).setCell ⟨g,5,none⟩ c5).setCell ⟨g,6,none⟩ c6).setCell ⟨g,7,none⟩ c7).setCell ⟨g,8,none⟩ c8).setCell ⟨g,9,none⟩ c9).setCell ⟨g,10,none⟩ c10).setCell ⟨g,11,none⟩ c11).setCell ⟨g,12,none⟩ c12).setCell ⟨g,13,none⟩ c13).heap[g]? = some (.cells #[c0,c1,c2,c3,c4,c5,c6,c7,c8,c9,c10,c11,c12,c13,z14] T (0,0)):=row_set r12 13 c13
 have u13:Upd (fun k=>k=g) w ((((((((((((((w.setCell ⟨g,0,none⟩ c0).setCell ⟨g,1,none⟩ c1).setCell ⟨g,2,none⟩ c2).setCell ⟨g,3,none⟩ c3).setCell ⟨g,4,none⟩ c4).setCell ⟨g,5,none⟩ c5).setCell ⟨g,6,none⟩ c6).setCell ⟨g,7,none⟩ c7).setCell ⟨g,8,none⟩ c8).setCell ⟨g,9,none⟩ c9).setCell ⟨g,10,none⟩ c10).setCell ⟨g,11,none⟩ c11).setCell ⟨g,12,none⟩ c12).setCell ⟨g,13,none⟩ c13):=u12.trans (Upd.set (((((((((((((w.setCell ⟨g,0,none⟩ c0).setCell ⟨g,1,none⟩ c1).setCell ⟨g,2,none⟩ c2).setCell ⟨g,3,none⟩ c3).setCell ⟨g,4,none⟩ c4).setCell ⟨g,5,none⟩ c5).setCell ⟨g,6,none⟩ c6).setCell ⟨g,7,none⟩ c7).setCell ⟨g,8,none⟩ c8).setCell ⟨g,9,none⟩ c9).setCell ⟨g,10,none⟩ c10).setCell ⟨g,11,none⟩ c11).setCell ⟨g,12,none⟩ c12) ⟨g,13,none⟩ c13)
 have r14:(((((((((((((((w.setCell ⟨g,0,none⟩ c0).setCell ⟨g,1,none⟩ c1).setCell ⟨g,2,none⟩ c2).setCell ⟨g,3,none⟩ c3).setCell ⟨g,4,none⟩ c4).setCell ⟨g,5,none⟩ c5).setCell ⟨g,6,none⟩ c6).setCell ⟨g,7,none⟩ c7).setCell ⟨g,8,none⟩ c8).setCell ⟨g,9,none⟩ c9).setCell ⟨g,10,none⟩ c10).setCell ⟨g,11,none⟩ c11).setCell ⟨g,12,none⟩ c12).setCell ⟨g,13,none⟩ c13).setCell ⟨g,14,none⟩ c14).heap[g]? = some (.cells #[c0,c1,c2,c3,c4,c5,c6,c7,c8,c9,c10,c11,c12,c13,c14] T (0,0)):=row_set r13 14 c14
 have u14:Upd (fun k=>k=g) w (((((((((((((((w.setCell ⟨g,0,none⟩ c0).setCell ⟨g,1,none⟩ c1).setCell ⟨g,2,none⟩ c2).setCell ⟨g,3,none⟩ c3).setCell ⟨g,4,none⟩ c4).setCell ⟨g,5,none⟩ c5).setCell ⟨g,6,none⟩ c6).setCell ⟨g,7,none⟩ c7).setCell ⟨g,8,none⟩ c8).setCell ⟨g,9,none⟩ c9).setCell ⟨g,10,none⟩ c10).setCell ⟨g,11,none⟩ c11).setCell ⟨g,12,none⟩ c12).setCell ⟨g,13,none⟩ c13).setCell ⟨g,14,none⟩ c14):=u13.trans (Upd.set ((((((((((((((w.setCell ⟨g,0,none⟩ c0).setCell ⟨g,1,none⟩ c1).setCell ⟨g,2,none⟩ c2).setCell ⟨g,3,none⟩ c3).setCell ⟨g,4,none⟩ c4).setCell ⟨g,5,none⟩ c5).setCell ⟨g,6,none⟩ c6).setCell ⟨g,7,none⟩ c7).setCell ⟨g,8,none⟩ c8).setCell ⟨g,9,none⟩ c9).setCell ⟨g,10,none⟩ c10).setCell ⟨g,11,none⟩ c11).setCell ⟨g,12,none⟩ c12).setCell ⟨g,13,none⟩ c13) ⟨g,14,none⟩ c14)
 exact ⟨r14,u14⟩
theorem hi_len_l {d:Int} {pre:List Rec} {st:hiS} (h1:∀ x∈pre,IsRec d x) (h2:mfold hiF.tk (hiF.step d) hiF.z pre = .ok st) (h3:(pre.flatMap Rec.raw).length≤500000):st.2.2.2.2.2.2.2.1.length≤1000000:=by
 have hi:=mfold_tlen (d:=d) 1000000 (hiF.inv d) (hiF_ok.go d) pre hiF.z st 0 h1 (hiF_ok.start d) (by have:=tlen_le hiF.tk pre;omega) h2
 rw[Nat.zero_add] at hi
 have:=tlen_le hiF.tk pre
 obtain ⟨s,t,q,_,⟨sb,tb,qb,_,⟨sbb,tbb,qbb,_,⟨sbbb,tbbb,qbbb,_,⟨sbbbb,tbbbb,qbbbb,_,⟨sbbbbb,tbbbbb,qbbbbb,_,⟨sbbbbbb,tbbbbbb,qbbbbbb,_,⟨sbbbbbbb,tbbbbbbb,qbbbbbbb,i1,_⟩⟩⟩⟩⟩⟩⟩⟩:=hi
 have:=kv_len i1
 omega
theorem hi_len_nc {d:Int} {pre:List Rec} {st:hiS} (h1:∀ x∈pre,IsRec d x) (h2:mfold hiF.tk (hiF.step d) hiF.z pre = .ok st) (h3:(pre.flatMap Rec.raw).length≤500000):st.2.2.2.2.1.length≤1000000:=by
 have hi:=mfold_tlen (d:=d) 1000000 (hiF.inv d) (hiF_ok.go d) pre hiF.z st 0 h1 (hiF_ok.start d) (by have:=tlen_le hiF.tk pre;omega) h2
 rw[Nat.zero_add] at hi
 have:=tlen_le hiF.tk pre
 obtain ⟨s,t,q,_,⟨sb,tb,qb,_,⟨sbb,tbb,qbb,_,⟨sbbb,tbbb,qbbb,_,⟨sbbbb,tbbbb,qbbbb,i1,_⟩⟩⟩⟩⟩:=hi
 have i2:8 * st.2.2.2.2.1.length≤_:=i1.2
 omega
theorem hi_len_nb {d:Int} {pre:List Rec} {st:hiS} (h1:∀ x∈pre,IsRec d x) (h2:mfold hiF.tk (hiF.step d) hiF.z pre = .ok st) (h3:(pre.flatMap Rec.raw).length≤500000):st.2.2.2.2.2.1.length≤1000000:=by
 have hi:=mfold_tlen (d:=d) 1000000 (hiF.inv d) (hiF_ok.go d) pre hiF.z st 0 h1 (hiF_ok.start d) (by have:=tlen_le hiF.tk pre;omega) h2
 rw[Nat.zero_add] at hi
 have:=tlen_le hiF.tk pre
 obtain ⟨s,t,q,_,⟨sb,tb,qb,_,⟨sbb,tbb,qbb,_,⟨sbbb,tbbb,qbbb,_,⟨sbbbb,tbbbb,qbbbb,_,⟨sbbbbb,tbbbbb,qbbbbb,i1,_⟩⟩⟩⟩⟩⟩:=hi
 have i2:8 * st.2.2.2.2.2.1.length≤_:=i1.2
 omega
theorem hi_len_es {d:Int} {pre:List Rec} {st:hiS} (h1:∀ x∈pre,IsRec d x) (h2:mfold hiF.tk (hiF.step d) hiF.z pre = .ok st) (h3:(pre.flatMap Rec.raw).length≤500000):st.2.2.2.2.2.2.1.length≤1000000:=by
 have hi:=mfold_tlen (d:=d) 1000000 (hiF.inv d) (hiF_ok.go d) pre hiF.z st 0 h1 (hiF_ok.start d) (by have:=tlen_le hiF.tk pre;omega) h2
 rw[Nat.zero_add] at hi
 have:=tlen_le hiF.tk pre
 obtain ⟨s,t,q,_,⟨sb,tb,qb,_,⟨sbb,tbb,qbb,_,⟨sbbb,tbbb,qbbb,_,⟨sbbbb,tbbbb,qbbbb,_,⟨sbbbbb,tbbbbb,qbbbbb,_,⟨sbbbbbb,tbbbbbb,qbbbbbb,i1,_⟩⟩⟩⟩⟩⟩⟩:=hi
 have i2:lwt exSb st.2.2.2.2.2.2.1≤51 * _:=i1.2
 have:=exs_len st.2.2.2.2.2.2.1
 omega
theorem load_hi {w:World} {g:Nat} {cs:Array Value} (hg:w.heap[g]? = some (.cells cs 50 (0,0))) (hc:cs.size=15):(loadVar 50 ⟨g,0,none⟩).run Tryz.prog w = .ok (.agg cs) w :=
 run_loadVar_row w g 50 50 cs (0,0) _ hg Tryz.underlying50 rfl (by rw[hc];kernel_rfl)
theorem unhi_if (X:ByteArray) (d:Int) (hUl:Hid (∀ r:Rec,(∀ rs,wall X.data.toList d = .ok rs→r∈rs)→r.num=9→UKey)) (hUes:Hid (∀ r:Rec,(∀ rs,wall X.data.toList d = .ok rs→r∈rs)→r.num=8→ExUn)) (w:World) (hX:X.size≤500000) (hd : -9223372036854775808≤d∧d≤9223372036854775807) :
  Calls Tryz.prog 23 #[.string X,.int .i64 d] w (RdPost hiCel hizero (hird X.data.toList d) X.size w):=by
 have HE1:=enters_of Tryz.func81 (by kernel_rfl) rfl
 have HE2:=enters_of Tryz.func82 (by kernel_rfl) rfl
 obtain ⟨g,hg⟩:∃ g,w.heap.size=g:=⟨_,rfl⟩
 obtain ⟨W0,hW0⟩:∃ W0,((w.alloc (.cells #[.int .i64 d] 3)).alloc (.cells #[.slice none 0 0,.int .u64 0,.int .u64 0,.int .u64 0,.bool false,.int .u64 0,.bool false,.int .u64 0,.bool false,.int .u64 0,.slice none 0 0,.slice none 0 0,.slice none 0 0,.int .u32 0,.string ⟨#[]⟩] 50)).alloc (.cells #[.slice none 0 0,.int .u64 0,.int .u64 0,.int .u64 0,.bool false,.int .u64 0,.bool false,.int .u64 0,.bool false,.int .u64 0,.slice none 0 0,.slice none 0 0,.slice none 0 0,.int .u32 0,.string ⟨#[]⟩] 50)=W0:=⟨_,rfl⟩
 have HB0:Hid (Below w.heap.size w W0):=Lib.hid (by rw[←hW0];exact below_step (below_step (below_new _ _) (below_new _ _)) (below_new _ _))
 have h3:=new_three_c hg (.cells #[.int .i64 d] 3) (.cells #[.slice none 0 0,.int .u64 0,.int .u64 0,.int .u64 0,.bool false,.int .u64 0,.bool false,.int .u64 0,.bool false,.int .u64 0,.slice none 0 0,.slice none 0 0,.slice none 0 0,.int .u32 0,.string ⟨#[]⟩] 50) (.cells #[.slice none 0 0,.int .u64 0,.int .u64 0,.int .u64 0,.bool false,.int .u64 0,.bool false,.int .u64 0,.bool false,.int .u64 0,.slice none 0 0,.slice none 0 0,.slice none 0 0,.int .u32 0,.string ⟨#[]⟩] 50)
 rw[hW0] at h3
 have HR0:=Lib.hid h3.2.1
 have hcd:W0.cell? ⟨g,0,none⟩=some (.int .i64 d):=row_cell h3.1 (j:=0) rfl
 have htk:(capT (hiT (g+2)) g d).rel hiF.z (fun k=>(k=g+2∨False)∨k=g) W0:=⟨fun k=>k=g+2∨False,⟨(.slice none 0 0,(.slice none 0 0,(.slice none 0 0,.slice none 0 0))),fun _=>False,h3.2.2,ltwo_nil (lone_nil rfl) (ltwo_nil (lone_nil rfl) (ltwo_nil (lone_nil rfl) (lone_nil rfl))),rfl⟩,by simp,h3.1,rfl⟩
 have HRD:Hid (Calls Tryz.prog 43 #[.string X,.int .i64 d,.func (.func 81) #[] #[],.func (.func 82) #[] #[.pointer (some ⟨g+2,0,none⟩),.pointer (some ⟨g,0,none⟩)]] W0 (ReadPost (capT (hiT (g+2)) g d) hiF.tk (hiF.step d) hiF.z (fun k=>(k=g+2∨False)∨k=g) X d W0)):=Lib.hid (by
  by_cases h0:d<0
  ·refine (mread_neg _ _ _ X d W0 h0).mono ?_
   rintro e w' ⟨v,rfl,hb,he⟩
   refine ⟨Upd.of_new hb,?_⟩
   have e6:mread (σ:=hiS) hiF.tk (hiF.step d) hiF.z X.data.toList d = .error 6:=by unfold mread;rw[if_pos h0]
   rw[e6]
   exact ⟨v,0,rfl,Nat.zero_le _,he⟩
  ·exact mread_any (capT (hiT (g+2)) g d) hiF.tk (hiF.step d) 81 82 #[.pointer (some ⟨g+2,0,none⟩),.pointer (some ⟨g,0,none⟩)] hiF.z X d W0 (by omega) HE1 HE2 (fun r w _=>hitakes_any r w) (fun r st P w hk hr hraw hmem hpre h=>hiclo_any (g+2) g d r (Lib.hid (fun h1=>hUl.out r hmem h1)) (Lib.hid (fun h1=>hUes.out r hmem h1)) st P w (by omega) hk (by have:=isrec_s hr;omega) (by obtain ⟨pre,h1,h2,h3⟩:=hpre;exact hi_len_l h1 h2 (by omega)) (by obtain ⟨pre,h1,h2,h3⟩:=hpre;exact hi_len_nc h1 h2 (by omega)) (by obtain ⟨pre,h1,h2,h3⟩:=hpre;exact hi_len_nb h1 h2 (by omega)) (by obtain ⟨pre,h1,h2,h3⟩:=hpre;exact hi_len_es h1 h2 (by omega)) (Lib.hid h)) _ htk)
 have HW0:=Lib.hid hW0
 have HGG:=Lib.hid hg
 clear hW0 h3 htk HE1 HE2
 go_enter Tryz.func23,Tryz.ntmps23
 go_wp2_with fail
 rw[HW0.out]
 go_wp2_with fail
 refine HRD.out.mono ?_;intro e w1 hpost
 obtain ⟨hu,hcase⟩:=hpost
 have hu1:Upd (fun k=>k=g+2∨k=g) W0 w1:=hu.mono (fun k _ h=>by
  rcases h with (h|h)|h
  ·exact .inl h
  ·exact h.elim
  ·exact .inr h)
 have HR1:Hid (w1.heap[g+1]? = some (.cells #[.slice none 0 0,.int .u64 0,.int .u64 0,.int .u64 0,.bool false,.int .u64 0,.bool false,.int .u64 0,.bool false,.int .u64 0,.slice none 0 0,.slice none 0 0,.slice none 0 0,.int .u32 0,.string ⟨#[]⟩] 50 (0,0))):=Lib.hid ((hu1.block (g+1) (row_lt HR0.out) (by omega)).trans HR0.out)
 have HB1:Hid (Below w.heap.size w w1):=Lib.hid (HB0.out.trans (hu1.below (by have:=HB0.out.size;omega) (fun k _ h=>by omega)))
 clear hu hu1 hcd HRD
 have hz0:w1.cell? ⟨g+1,0,none⟩=some (.slice none 0 0):=row_cell HR1.out (j:=0) rfl
 have fz0:w1.frozen? ⟨g+1,0,none⟩=false:=row_thaw HR1.out 0
 have hz1:w1.cell? ⟨g+1,1,none⟩=some (.int .u64 0):=row_cell HR1.out (j:=1) rfl
 have fz1:w1.frozen? ⟨g+1,1,none⟩=false:=row_thaw HR1.out 1
 have hz2:w1.cell? ⟨g+1,2,none⟩=some (.int .u64 0):=row_cell HR1.out (j:=2) rfl
 have fz2:w1.frozen? ⟨g+1,2,none⟩=false:=row_thaw HR1.out 2
 have hz3:w1.cell? ⟨g+1,3,none⟩=some (.int .u64 0):=row_cell HR1.out (j:=3) rfl
 have fz3:w1.frozen? ⟨g+1,3,none⟩=false:=row_thaw HR1.out 3
 have hz4:w1.cell? ⟨g+1,4,none⟩=some (.bool false):=row_cell HR1.out (j:=4) rfl
 have fz4:w1.frozen? ⟨g+1,4,none⟩=false:=row_thaw HR1.out 4
 have hz5:w1.cell? ⟨g+1,5,none⟩=some (.int .u64 0):=row_cell HR1.out (j:=5) rfl
 have fz5:w1.frozen? ⟨g+1,5,none⟩=false:=row_thaw HR1.out 5
 have hz6:w1.cell? ⟨g+1,6,none⟩=some (.bool false):=row_cell HR1.out (j:=6) rfl
 have fz6:w1.frozen? ⟨g+1,6,none⟩=false:=row_thaw HR1.out 6
 have hz7:w1.cell? ⟨g+1,7,none⟩=some (.int .u64 0):=row_cell HR1.out (j:=7) rfl
 have fz7:w1.frozen? ⟨g+1,7,none⟩=false:=row_thaw HR1.out 7
 have hz8:w1.cell? ⟨g+1,8,none⟩=some (.bool false):=row_cell HR1.out (j:=8) rfl
 have fz8:w1.frozen? ⟨g+1,8,none⟩=false:=row_thaw HR1.out 8
 have hz9:w1.cell? ⟨g+1,9,none⟩=some (.int .u64 0):=row_cell HR1.out (j:=9) rfl
 have fz9:w1.frozen? ⟨g+1,9,none⟩=false:=row_thaw HR1.out 9
 have hz10:w1.cell? ⟨g+1,10,none⟩=some (.slice none 0 0):=row_cell HR1.out (j:=10) rfl
 have fz10:w1.frozen? ⟨g+1,10,none⟩=false:=row_thaw HR1.out 10
 have hz11:w1.cell? ⟨g+1,11,none⟩=some (.slice none 0 0):=row_cell HR1.out (j:=11) rfl
 have fz11:w1.frozen? ⟨g+1,11,none⟩=false:=row_thaw HR1.out 11
 have hz12:w1.cell? ⟨g+1,12,none⟩=some (.slice none 0 0):=row_cell HR1.out (j:=12) rfl
 have fz12:w1.frozen? ⟨g+1,12,none⟩=false:=row_thaw HR1.out 12
 have hz13:w1.cell? ⟨g+1,13,none⟩=some (.int .u32 0):=row_cell HR1.out (j:=13) rfl
 have fz13:w1.frozen? ⟨g+1,13,none⟩=false:=row_thaw HR1.out 13
 have hz14:w1.cell? ⟨g+1,14,none⟩=some (.string ⟨#[]⟩):=row_cell HR1.out (j:=14) rfl
 have fz14:w1.frozen? ⟨g+1,14,none⟩=false:=row_thaw HR1.out 14
 cases hb:mread (σ:=hiS) hiF.tk (hiF.step d) hiF.z X.data.toList d with
 | error c =>
  rw[hb] at hcase
  obtain ⟨v,q,rfl,hq,hew⟩:=hcase
  obtain ⟨T',y,rfl⟩:=hew.iface
  have HBR:Hid (hird X.data.toList d = .error c):=Lib.hid hb
  have HEW:=Lib.hid hew
  clear hb hew
  go_wp2_with fail
  obtain ⟨hr,hua⟩:=hi_set HR1.out (.slice none 0 0) (.int .u64 0) (.int .u64 0) (.int .u64 0) (.bool false) (.int .u64 0) (.bool false) (.int .u64 0) (.bool false) (.int .u64 0) (.slice none 0 0) (.slice none 0 0) (.slice none 0 0) (.int .u32 0) (.string ⟨#[]⟩)
  refine body_cell2v rfl rfl (load_hi hr rfl) rfl ?_
  refine ⟨HB1.out.trans (hua.below (by have:=HB1.out.size;omega) (fun k _ h=>by have h:k=g+1:=h;omega)),?_⟩
  rw[HBR.out]
  obtain ⟨ws,he⟩:=HEW.out
  exact ⟨_,q,rfl,hq,ws,isErr_upd hua (fun k hk b m e h=>by have hk:k=g+1:=hk;subst hk;rw[HR1.out] at h;simp at h) he⟩
 | ok xu =>
  obtain ⟨st,u⟩:=xu
  rw[hb] at hcase
  obtain ⟨rfl,P',⟨P0,⟨v,P1,h1,h2,rfl⟩,h3,h4,rfl⟩,hp⟩:=hcase
  obtain ⟨a,⟨t,⟨k,⟨⟨ph,pn⟩,⟨nc,⟨nb,⟨es,⟨l,⟨f,⟨⟨mh,mn⟩,⟨gh,gn⟩⟩⟩⟩⟩⟩⟩⟩⟩⟩⟩:=st
  obtain ⟨vl,⟨vnc,⟨vnb,ves⟩⟩⟩:=v
  have HBR:Hid (hird X.data.toList d = .ok ((a,(t,(k,((ph,pn),(nc,(nb,(es,(l,(f,((mh,mn),(gh,gn))))))))))),u)):=Lib.hid hb
  obtain ⟨Q0a,Q0b,r0,h2,_,rfl⟩:=h2
  have r0:LsAt kcel 98 (g+2+1) vl l _ w1:=r0
  have HLT0:=Lib.hid (LsAt.lt r0)
  obtain ⟨css,Q,g2,g3,g4,g5,rfl⟩:=r0
  obtain ⟨lo,lc,rfl⟩:=own_slice g2
  have HRL0:=Lib.hid (KRel_own g2 g3 (P:=fun k=>g+3≤k) (fun j a1 a2=>KRel.upd (Upd.refl (fun _=>False) w1) (fun _ _ h=>h) (fun k hk=>(g5 k hk).2.1) _ _ (g4 j a1 a2)) (fun k hk=>(g2.lt k hk).1))
  clear g2 g3 g4 g5
  obtain ⟨Q1a,Q1b,r1,h2,_,rfl⟩:=h2
  have r1:LsAt natCel 24 (g+2+1) vnc nc _ w1:=r1
  have HLT1:=Lib.hid (LsAt.lt r1)
  obtain ⟨nco,ncc,rfl⟩:∃ ao cap,vnc = .slice ao nc.length cap:=by obtain ⟨_,_,g2,_⟩:=r1;exact own_slice g2
  have HRL1:=Lib.hid (CRels.of_ls r1)
  clear r1
  obtain ⟨Q2a,Q2b,r2,h2,_,rfl⟩:=h2
  have r2:LsAt natCel 24 (g+2+1) vnb nb _ w1:=r2
  have HLT2:=Lib.hid (LsAt.lt r2)
  obtain ⟨nbo,nbc,rfl⟩:∃ ao cap,vnb = .slice ao nb.length cap:=by obtain ⟨_,_,g2,_⟩:=r2;exact own_slice g2
  have HRL2:=Lib.hid (CRels.of_ls r2)
  clear r2
  have r3:LsAt exCel 91 (g+2+1) ves es _ w1:=h2
  have HLT3:=Lib.hid (LsAt.lt r3)
  obtain ⟨eo,ec,rfl⟩:∃ ao cap,ves = .slice ao es.length cap:=by obtain ⟨_,_,g2,_⟩:=r3;exact own_slice g2
  have HRL3:=Lib.hid (CRels.of_ls r3)
  clear r3
  obtain ⟨Xu,hU⟩:∃ U:ByteArray,(⟨u.toArray⟩:ByteArray)=U:=⟨_,rfl⟩
  have HUU:=Lib.hid hU
  rw[hU]
  have HX1:Hid (w1.heap[g+2]? = some (.cells #[.slice lo l.length lc,.int .u64 (a:Int),.int .u64 (t:Int),.int .u64 (k:Int),.bool ph,.int .u64 (pn:Int),.bool mh,.int .u64 (mn:Int),.bool gh,.int .u64 (gn:Int),.slice nco nc.length ncc,.slice nbo nb.length nbc,.slice eo es.length ec,.int .u32 (f:Int),.string ⟨#[]⟩] 50 (0,0))):=Lib.hid (h1)
  have hx0:w1.cell? ⟨g+2,0,none⟩=some (.slice lo l.length lc):=row_cell HX1.out (j:=0) rfl
  have hx1:w1.cell? ⟨g+2,1,none⟩=some (.int .u64 (a:Int)):=row_cell HX1.out (j:=1) rfl
  have hx2:w1.cell? ⟨g+2,2,none⟩=some (.int .u64 (t:Int)):=row_cell HX1.out (j:=2) rfl
  have hx3:w1.cell? ⟨g+2,3,none⟩=some (.int .u64 (k:Int)):=row_cell HX1.out (j:=3) rfl
  have hx4:w1.cell? ⟨g+2,4,none⟩=some (.bool ph):=row_cell HX1.out (j:=4) rfl
  have hx5:w1.cell? ⟨g+2,5,none⟩=some (.int .u64 (pn:Int)):=row_cell HX1.out (j:=5) rfl
  have hx6:w1.cell? ⟨g+2,6,none⟩=some (.bool mh):=row_cell HX1.out (j:=6) rfl
  have hx7:w1.cell? ⟨g+2,7,none⟩=some (.int .u64 (mn:Int)):=row_cell HX1.out (j:=7) rfl
  have hx8:w1.cell? ⟨g+2,8,none⟩=some (.bool gh):=row_cell HX1.out (j:=8) rfl
  have hx9:w1.cell? ⟨g+2,9,none⟩=some (.int .u64 (gn:Int)):=row_cell HX1.out (j:=9) rfl
  have hx10:w1.cell? ⟨g+2,10,none⟩=some (.slice nco nc.length ncc):=row_cell HX1.out (j:=10) rfl
  have hx11:w1.cell? ⟨g+2,11,none⟩=some (.slice nbo nb.length nbc):=row_cell HX1.out (j:=11) rfl
  have hx12:w1.cell? ⟨g+2,12,none⟩=some (.slice eo es.length ec):=row_cell HX1.out (j:=12) rfl
  have hx13:w1.cell? ⟨g+2,13,none⟩=some (.int .u32 (f:Int)):=row_cell HX1.out (j:=13) rfl
  have hx14:w1.cell? ⟨g+2,14,none⟩=some (.string ⟨#[]⟩):=row_cell HX1.out (j:=14) rfl
  have hfx:w1.frozen? ⟨g+2,14,none⟩=false:=row_thaw HX1.out 14
  clear hb h1 h2 h3 h4 hp hU
  go_wp2_with fail
  have hux:=Upd.set w1 ⟨g+2,14,none⟩ (.string Xu)
  obtain ⟨hr,hua⟩:=hi_set ((hux.block (g+1) (row_lt HR1.out) (fun e=>by have e:g+1=g+2:=e;omega)).trans HR1.out) (.slice lo l.length lc) (.int .u64 (a:Int)) (.int .u64 (t:Int)) (.int .u64 (k:Int)) (.bool ph) (.int .u64 (pn:Int)) (.bool mh) (.int .u64 (mn:Int)) (.bool gh) (.int .u64 (gn:Int)) (.slice nco nc.length ncc) (.slice nbo nb.length nbc) (.slice eo es.length ec) (.int .u32 (f:Int)) (.string Xu)
  refine body_cell2v rfl rfl (load_hi hr rfl) rfl ?_
  have hub:=(hux.mono (S':=fun k=>k=g+1∨k=g+2) fun k _ h => .inr h).trans (hua.mono fun k _ h => .inl h)
  refine ⟨HB1.out.trans (hub.below (by have:=HB1.out.size;omega) (fun k _ h=>by omega)),?_⟩
  rw[HBR.out]
  refine ⟨[.slice lo l.length lc,.int .u64 (a:Int),.int .u64 (t:Int),.int .u64 (k:Int),.bool ph,.int .u64 (pn:Int),.bool mh,.int .u64 (mn:Int),.bool gh,.int .u64 (gn:Int),.slice nco nc.length ncc,.slice nbo nb.length nbc,.slice eo es.length ec,.int .u32 (f:Int),.string Xu],rfl,lo,lc,nco,ncc,nbo,nbc,eo,ec,?_,KRels.upd hub (fun k hk e=>by omega) (fun k hk=>by omega) _ _ _ HRL0.out,CRels.upd hub (fun k hk e=>by have:=(HLT1.out k hk).1;omega) (fun k hk=>by have:=(HLT1.out k hk).1;omega) HRL1.out,CRels.upd hub (fun k hk e=>by have:=(HLT2.out k hk).1;omega) (fun k hk=>by have:=(HLT2.out k hk).1;omega) HRL2.out,CRels.upd hub (fun k hk e=>by have:=(HLT3.out k hk).1;omega) (fun k hk=>by have:=(HLT3.out k hk).1;omega) HRL3.out⟩
  rw[←HUU.out];rfl
end Go.Proofs.YtjbingoliffjiaaGreatDoor
