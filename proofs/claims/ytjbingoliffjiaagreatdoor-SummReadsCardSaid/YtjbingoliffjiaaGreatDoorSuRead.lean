/-
  summ.take, Unmarshal: any text.
-/
import Derived.Test.YtjbingoliffjiaaGreatDoorSuTakes
import Derived.Test.YtjbingoliffjiaaGreatDoorQuRead
import Derived.Test.YtjbingoliffjiaaGreatDoorQuList
import Derived.Test.YtjbingoliffjiaaGreatDoorValKey
import Derived.Test.YtjbingoliffjiaaGreatDoorRowL
set_option maxRecDepth 1000000
set_option maxHeartbeats 16000000
namespace Go.Proofs.YtjbingoliffjiaaGreatDoor
open Go.RowKit
def QuUn:Prop:=∀ (Y:ByteArray) (d':Int) (w':World),Y.size≤500000 → -9223372036854775808≤d'∧d'≤9223372036854775807→Calls Tryz.prog 144 #[.string Y,.int .i64 d'] w' (RdPost quCel quzero (qurd Y.data.toList d') Y.size w')
abbrev suS:Type:=Nat × Nat × Nat × Nat × List Qu × List KV × Nat
def suA (bx:Nat):LPart suS (bx+1):=ltwo (lone kcel 98 (bx+1) (fun st:suS=>st.2.2.2.2.2.1)) (lone quCel 141 (bx+1) (fun st:suS=>st.2.2.2.2.1))
def suRow:suS→Value × Value→Array Value
 | (a,(t,(k,(n,(_,(_,f)))))),(vl,vqs)=>#[vl,.int .u64 (a:Int),.int .u64 (t:Int),.int .u64 (k:Int),.int .u64 (n:Int),vqs,.int .u32 (f:Int),.string ⟨#[]⟩]
def suT (bx:Nat):Taker suS:=rowL (suA bx) 64 suRow
theorem su_see_l (bx:Nat):(suA bx).Sees kcel 98 (fun st:suS=>st.2.2.2.2.2.1) (fun v:Value × Value=>v.1) (fun (v:Value × Value) v'=>((v',v.2):Value × Value)) (fun st st'=>(True)∧st'.2.2.2.2.1=st.2.2.2.2.1):=(sees_l (sees_one _ _ _ _))
theorem su_see_qs (bx:Nat):(suA bx).Sees quCel 141 (fun st:suS=>st.2.2.2.2.1) (fun v:Value × Value=>v.2) (fun (v:Value × Value) v'=>((v.1,v'):Value × Value)) (fun st st'=>(st'.2.2.2.2.2.1=st.2.2.2.2.2.1)∧True):=(sees_r (sees_one _ _ _ _))
theorem sutake_any (bx:Nat) (D:Int) (r:Rec) (hUl:Hid (r.num=7→UKey)) (hUqs:Hid (r.num=6→QuUn)) (st:suS) (P:Nat→Prop) (w:World) (hD : -9223372036854775807≤D∧D≤9223372036854775807) (hk:suF.tk r=true) (hs:r.s.length≤500000) (hll:st.2.2.2.2.2.1.length≤1000000) (hlqs:st.2.2.2.2.1.length≤1000000) (h:Hid ((suT bx).rel st P w)) :
  Calls Tryz.prog 96 #[.pointer (some ⟨bx,0,none⟩),recV r,.int .i64 (D - 1)] w (TakePost (suT bx) (suF.step D) st P r w):=by
 obtain ⟨v,P1,h1,h2,rfl⟩:=h.out
 obtain ⟨a,⟨t,⟨k,⟨n,⟨qs,⟨l,f⟩⟩⟩⟩⟩⟩:=st
 obtain ⟨vl,vqs⟩:=v
 have H1:=Lib.hid h1
 have H2:=Lib.hid h2
 clear h h1 h2
 obtain ⟨X,hX⟩:∃ X:ByteArray,(⟨r.s.toArray⟩:ByteArray)=X:=⟨_,rfl⟩
 have hXs:X.size≤500000:=by rw[←hX];simp[ByteArray.size];omega
 have HXD:Hid (X.data.toList=r.s):=Lib.hid (by rw[←hX])
 have HX:Hid ((⟨r.s.toArray⟩:ByteArray)=X):=Lib.hid hX
 obtain ⟨rb,hrb⟩:∃ rb,w.heap.size=rb:=⟨_,rfl⟩
 obtain ⟨W0,hW0⟩:∃ W0,w.alloc (.cells #[.int .i64 (r.num:Int),.int .i64 (r.ty:Int),.int .u64 (r.n:Int),.string X,.string ⟨r.raw.toArray⟩] 78)=W0:=⟨_,rfl⟩
 have HU0:Hid (Upd (fun _=>False) w W0):=Lib.hid (by rw[←hW0];exact Upd.alloc _ _ _)
 have HR0:Hid (W0.heap[rb]? = some (.cells #[.int .i64 (r.num:Int),.int .i64 (r.ty:Int),.int .u64 (r.n:Int),.string X,.string ⟨r.raw.toArray⟩] 78 (0,0))):=Lib.hid (by rw[←hW0,←hrb];exact heap_alloc_new _ _)
 have H10:Hid (W0.heap[bx]? = some (.cells (suRow (a,(t,(k,(n,(qs,(l,f)))))) (vl,vqs)) 64 (0,0))):=Lib.hid ((HU0.out.block bx (row_lt H1.out) (fun h=>h)).trans H1.out)
 have H20:Hid ((suA bx).rel (a,(t,(k,(n,(qs,(l,f)))))) (vl,vqs) P1 W0):=Lib.hid ((suA bx).kept H2.out (HU0.out.mono fun _ _ h=>h.elim))
 have HP1:Hid (∀ k,P1 k→k<w.heap.size):=Lib.hid (fun k hk=>((suA bx).lt H2.out k hk).2)
 have HW0:=Lib.hid hW0
 have HRB:=Lib.hid hrb
 have hsz:=HU0.out.size
 have hbx:=row_lt H1.out
 have hn0:W0.cell? ⟨rb,0,none⟩=some (.int .i64 (r.num:Int)):=row_cell HR0.out (j:=0) rfl
 rw[suF_tk,decide_eq_true_eq] at hk
 have HKN:=Lib.hid hk
 unfold recV
 rw[hX]
 rw[←hW0,←hrb] at hn0
 clear hX hW0
 by_cases hN2:r.num=2
 ·have hty:r.num=2∧r.ty=1:=by omega
  have HSE:=Lib.hid (suF_2 hty D a t k n qs l f)
  have d2:((r.num:Int) == 2)=true:=by rw[beq_iff_eq];omega
  have hc1:W0.cell? ⟨bx,1,none⟩=some (.int .u64 (a:Int)):=row_cell H10.out (j:=1) rfl
  have hf1:W0.frozen? ⟨bx,1,none⟩=false:=row_thaw H10.out 1
  have HP:=Lib.hid (rowL_set (A:=suA bx) (T0:=64) (row:=suRow) (st:=(a,(t,(k,(n,(qs,(l,f))))))) (st':=(r.n,(t,(k,(n,(qs,(l,f))))))) (v:=(vl,vqs)) 1 (.int .u64 (r.n:Int)) H10.out H20.out (rfl) ⟨rfl,rfl⟩)
  rw[←HW0.out] at hc1 hf1
  clear hty hk HKN hN2
  go_enter Tryz.func96,Tryz.ntmps96
  go_wp2_with fail
  rw[HW0.out]
  go_ret
  exact takepost_ok HSE.out ((HU0.out.mono fun _ _ h=>h.elim).trans (HP.out.2.mono fun k _ h => .inl h)) HP.out.1 (fun k hk => .inl hk)
 by_cases hN3:r.num=3
 ·have hty:r.num=3∧r.ty=1:=by omega
  have HSE:=Lib.hid (suF_3 hty D a t k n qs l f)
  have d2:((r.num:Int) == 2)=false:=by rw[beq_eq_false_iff_ne];omega
  have d3:((r.num:Int) == 3)=true:=by rw[beq_iff_eq];omega
  have hc2:W0.cell? ⟨bx,2,none⟩=some (.int .u64 (t:Int)):=row_cell H10.out (j:=2) rfl
  have hf2:W0.frozen? ⟨bx,2,none⟩=false:=row_thaw H10.out 2
  have HP:=Lib.hid (rowL_set (A:=suA bx) (T0:=64) (row:=suRow) (st:=(a,(t,(k,(n,(qs,(l,f))))))) (st':=(a,(r.n,(k,(n,(qs,(l,f))))))) (v:=(vl,vqs)) 2 (.int .u64 (r.n:Int)) H10.out H20.out (rfl) ⟨rfl,rfl⟩)
  rw[←HW0.out] at hc2 hf2
  clear hty hk HKN hN3
  go_enter Tryz.func96,Tryz.ntmps96
  go_wp2_with fail
  rw[HW0.out]
  go_ret
  exact takepost_ok HSE.out ((HU0.out.mono fun _ _ h=>h.elim).trans (HP.out.2.mono fun k _ h => .inl h)) HP.out.1 (fun k hk => .inl hk)
 by_cases hN4:r.num=4
 ·have hty:r.num=4∧r.ty=1:=by omega
  have HSE:=Lib.hid (suF_4 hty D a t k n qs l f)
  have d2:((r.num:Int) == 2)=false:=by rw[beq_eq_false_iff_ne];omega
  have d3:((r.num:Int) == 3)=false:=by rw[beq_eq_false_iff_ne];omega
  have d4:((r.num:Int) == 4)=true:=by rw[beq_iff_eq];omega
  have hc3:W0.cell? ⟨bx,3,none⟩=some (.int .u64 (k:Int)):=row_cell H10.out (j:=3) rfl
  have hf3:W0.frozen? ⟨bx,3,none⟩=false:=row_thaw H10.out 3
  have HP:=Lib.hid (rowL_set (A:=suA bx) (T0:=64) (row:=suRow) (st:=(a,(t,(k,(n,(qs,(l,f))))))) (st':=(a,(t,(r.n,(n,(qs,(l,f))))))) (v:=(vl,vqs)) 3 (.int .u64 (r.n:Int)) H10.out H20.out (rfl) ⟨rfl,rfl⟩)
  rw[←HW0.out] at hc3 hf3
  clear hty hk HKN hN4
  go_enter Tryz.func96,Tryz.ntmps96
  go_wp2_with fail
  rw[HW0.out]
  go_ret
  exact takepost_ok HSE.out ((HU0.out.mono fun _ _ h=>h.elim).trans (HP.out.2.mono fun k _ h => .inl h)) HP.out.1 (fun k hk => .inl hk)
 by_cases hN5:r.num=5
 ·have hty:r.num=5∧r.ty=1:=by omega
  have HSE:=Lib.hid (suF_5 hty D a t k n qs l f)
  have d2:((r.num:Int) == 2)=false:=by rw[beq_eq_false_iff_ne];omega
  have d3:((r.num:Int) == 3)=false:=by rw[beq_eq_false_iff_ne];omega
  have d4:((r.num:Int) == 4)=false:=by rw[beq_eq_false_iff_ne];omega
  have d5:((r.num:Int) == 5)=true:=by rw[beq_iff_eq];omega
  have hc4:W0.cell? ⟨bx,4,none⟩=some (.int .u64 (n:Int)):=row_cell H10.out (j:=4) rfl
  have hf4:W0.frozen? ⟨bx,4,none⟩=false:=row_thaw H10.out 4
  have HP:=Lib.hid (rowL_set (A:=suA bx) (T0:=64) (row:=suRow) (st:=(a,(t,(k,(n,(qs,(l,f))))))) (st':=(a,(t,(k,(r.n,(qs,(l,f))))))) (v:=(vl,vqs)) 4 (.int .u64 (r.n:Int)) H10.out H20.out (rfl) ⟨rfl,rfl⟩)
  rw[←HW0.out] at hc4 hf4
  clear hty hk HKN hN5
  go_enter Tryz.func96,Tryz.ntmps96
  go_wp2_with fail
  rw[HW0.out]
  go_ret
  exact takepost_ok HSE.out ((HU0.out.mono fun _ _ h=>h.elim).trans (HP.out.2.mono fun k _ h => .inl h)) HP.out.1 (fun k hk => .inl hk)
 by_cases hN6:r.num=6
 ·have hty:r.num=6∧r.ty=2:=by omega
  have HSE:=Lib.hid (suF_6 hty D a t k n qs l f)
  have HUK:=Lib.hid (hUqs.out hty.1)
  have d2:((r.num:Int) == 2)=false:=by rw[beq_eq_false_iff_ne];omega
  have d3:((r.num:Int) == 3)=false:=by rw[beq_eq_false_iff_ne];omega
  have d4:((r.num:Int) == 4)=false:=by rw[beq_eq_false_iff_ne];omega
  have d5:((r.num:Int) == 5)=false:=by rw[beq_eq_false_iff_ne];omega
  have d6:((r.num:Int) == 6)=true:=by rw[beq_iff_eq];omega
  clear hty hk HKN hN6
  go_enter Tryz.func96,Tryz.ntmps96
  go_wp2_with fail
  rw[HW0.out]
  go_upto_region 11 with fail
  all_goals
   obtain ⟨D0,hD0⟩:∃ D0,W0.drew=D0:=⟨_,rfl⟩
   have hB0:Below W0.heap.size W0 D0:=by rw[←hD0];exact (Below.refl _ _).drew
   have hS:(fun w':World=>w'.heap[rb]? = some (.cells #[.int .i64 (r.num:Int),.int .i64 (r.ty:Int),.int .u64 (r.n:Int),.string X,.string ⟨r.raw.toArray⟩] 78 (0,0))) D0:=(hB0.block _ (row_lt HR0.out)).trans HR0.out
   have hne:Nonempty {w':World // (fun w':World=>w'.heap[rb]? = some (.cells #[.int .i64 (r.num:Int),.int .i64 (r.ty:Int),.int .u64 (r.n:Int),.string X,.string ⟨r.raw.toArray⟩] 78 (0,0))) w'}:=⟨⟨_,hS⟩⟩
   refine wp_region_seq (S:=fun w':World=>w'.heap[rb]? = some (.cells #[.int .i64 (r.num:Int),.int .i64 (r.ty:Int),.int .u64 (r.n:Int),.string X,.string ⟨r.raw.toArray⟩] 78 (0,0))) [(0,true),(1,true),(2,true),(3,true),(4,true),(5,true),(6,false),(7,true)] (by kernel_rfl) (by kernel_rfl) (by kernel_rfl) (by kernel_rfl) (by rw[hD0];exact hS) ?_
   rw[hD0]
   iterate 4 (refine seq_take _ rfl (fun KC hK=>?_);go_simp;(first|refine hK _ ?_|refine ⟨_,fun _ _=>rfl,hK _ ?_⟩);clear hK KC)
   refine seq_take _ rfl (fun KC hK=>?_);go_simp
   refine ⟨.string X,fun a ha=>by rw[row_cell ha (j:=3) rfl];rfl,hK _ ?_⟩
   clear hK KC
   (refine seq_take _ rfl (fun KC hK=>?_);go_simp;(first|refine hK _ ?_|refine ⟨_,fun _ _=>rfl,hK _ ?_⟩);clear hK KC)
   have H2D:Hid ((suA bx).rel (a,(t,(k,(n,(qs,(l,f)))))) (vl,vqs) P1 D0):=Lib.hid ((suA bx).kept H20.out ((Upd.of_new (S:=fun _=>False) hB0).mono fun _ _ h=>h.elim))
   obtain ⟨Pi,hls,hsub,hput⟩:=su_see_qs bx _ _ _ _ H2D.out
   have HPUT:=Lib.hid hput
   have HSUB:=Lib.hid hsub
   clear hput hsub
   have HA:=Lib.hid (addqu_any bx 5 (bx+1) (suRow (a,(t,(k,(n,(qs,(l,f)))))) (vl,vqs)) 64 vqs qs Pi 144 X (D - 1) (qurd r.s (D - 1)) D0 (enters_of Tryz.func144 (by kernel_rfl) rfl) (Lib.hid ((hB0.block _ (row_lt H10.out)).trans H10.out)) rfl ⟨by omega,by have:=hB0.size;omega⟩ (Lib.hid hls) hlqs (Lib.hid (fun w'=>by have:=HUK.out X (D - 1) w' (by omega) (by omega);rwa [HXD.out] at this)))
   clear hls
   refine seq_come _ rfl (fun KC hK=>?_);go_simp
   refine HA.out.mono ?_;intro e w1 hpost
   have hS1:(fun w':World=>w'.heap[rb]? = some (.cells #[.int .i64 (r.num:Int),.int .i64 (r.ty:Int),.int .u64 (r.n:Int),.string X,.string ⟨r.raw.toArray⟩] 78 (0,0))) w1:=(hpost.1.block rb (row_lt hS) (fun e=>by
    rcases e with e|e
    ·omega
    ·have:=HP1.out rb (HSUB.out rb e);have:=HRB.out;omega)).trans hS
   cases hrd:qurd r.s (D - 1) with
   | error c =>
    rw[hrd] at hpost HSE
    obtain ⟨hu1,y,rfl,hec⟩:=hpost
    have hu1:=hu1.mono (S':=fun k=>k=bx∨P1 k) (fun k _ h=>h.imp id (HSUB.out k))
    obtain ⟨T',z,rfl⟩:=hec.iface
    go_simp
    refine hK.out _ _ hS1 ?_;clear hK KC
    (refine seq_take _ rfl (fun KC hK=>?_);go_simp;(first|refine hK _ ?_|refine ⟨_,fun _ _=>rfl,hK _ ?_⟩);clear hK KC)
    refine seq_done ?_
    go_wp2_with fail
    go_ret
    exact takepost_no HSE.out (((HU0.out.mono fun _ _ h=>h.elim).trans (Upd.of_new hB0)).trans hu1) hec
   | ok x =>
    rw[hrd] at hpost HSE
    obtain ⟨rfl,hu,P',hr,hp⟩:=rowL_add (A:=suA bx) (put:=fun (v:Value × Value) v'=>((v.1,v'):Value × Value)) (sm:=fun st st':suS=>(st'.2.2.2.2.2.1=st.2.2.2.2.2.1)∧True) (ls:=fun st:suS=>st.2.2.2.2.1) (st:=(a,(t,(k,(n,(qs,(l,f))))))) (st':=(a,(t,(k,(n,(qs++[x],(l,f))))))) (v:=(vl,vqs)) H2D.out HPUT.out hpost (fun v'=>rfl) ⟨rfl,trivial⟩ rfl HSUB.out
    go_simp
    refine hK.out _ _ hS1 ?_;clear hK KC
    (refine seq_take _ rfl (fun KC hK=>?_);go_simp;(first|refine hK _ ?_|refine ⟨_,fun _ _=>rfl,hK _ ?_⟩);clear hK KC)
    refine seq_done ?_
    have HU:=Lib.hid hu
    have HRL:=Lib.hid hr
    have HP:=Lib.hid hp
    clear hu hr hp hpost hrd
    go_wp2_with fail
    go_ret
    exact takepost_ok HSE.out (((HU0.out.mono fun _ _ h=>h.elim).trans (Upd.of_new hB0)).trans HU.out) HRL.out (fun k hk=>(HP.out k hk).imp id (fun h=>Nat.le_trans (Nat.le_trans hsz hB0.size) h))
 by_cases hN7:r.num=7
 ·have hty:r.num=7∧r.ty=2:=by omega
  have HSE:=Lib.hid (suF_7 hty D a t k n qs l f)
  have HUK:=Lib.hid (hUl.out hty.1)
  have d2:((r.num:Int) == 2)=false:=by rw[beq_eq_false_iff_ne];omega
  have d3:((r.num:Int) == 3)=false:=by rw[beq_eq_false_iff_ne];omega
  have d4:((r.num:Int) == 4)=false:=by rw[beq_eq_false_iff_ne];omega
  have d5:((r.num:Int) == 5)=false:=by rw[beq_eq_false_iff_ne];omega
  have d6:((r.num:Int) == 6)=false:=by rw[beq_eq_false_iff_ne];omega
  have d7:((r.num:Int) == 7)=true:=by rw[beq_iff_eq];omega
  clear hty hk HKN hN7
  go_enter Tryz.func96,Tryz.ntmps96
  go_wp2_with fail
  rw[HW0.out]
  go_upto_region 13 with fail
  all_goals
   obtain ⟨D0,hD0⟩:∃ D0,W0.drew=D0:=⟨_,rfl⟩
   have hB0:Below W0.heap.size W0 D0:=by rw[←hD0];exact (Below.refl _ _).drew
   have hS:(fun w':World=>w'.heap[rb]? = some (.cells #[.int .i64 (r.num:Int),.int .i64 (r.ty:Int),.int .u64 (r.n:Int),.string X,.string ⟨r.raw.toArray⟩] 78 (0,0))) D0:=(hB0.block _ (row_lt HR0.out)).trans HR0.out
   have hne:Nonempty {w':World // (fun w':World=>w'.heap[rb]? = some (.cells #[.int .i64 (r.num:Int),.int .i64 (r.ty:Int),.int .u64 (r.n:Int),.string X,.string ⟨r.raw.toArray⟩] 78 (0,0))) w'}:=⟨⟨_,hS⟩⟩
   refine wp_region_seq (S:=fun w':World=>w'.heap[rb]? = some (.cells #[.int .i64 (r.num:Int),.int .i64 (r.ty:Int),.int .u64 (r.n:Int),.string X,.string ⟨r.raw.toArray⟩] 78 (0,0))) [(0,true),(1,true),(2,true),(3,true),(4,true),(5,true),(6,false),(7,true)] (by kernel_rfl) (by kernel_rfl) (by kernel_rfl) (by kernel_rfl) (by rw[hD0];exact hS) ?_
   rw[hD0]
   iterate 4 (refine seq_take _ rfl (fun KC hK=>?_);go_simp;(first|refine hK _ ?_|refine ⟨_,fun _ _=>rfl,hK _ ?_⟩);clear hK KC)
   refine seq_take _ rfl (fun KC hK=>?_);go_simp
   refine ⟨.string X,fun a ha=>by rw[row_cell ha (j:=3) rfl];rfl,hK _ ?_⟩
   clear hK KC
   (refine seq_take _ rfl (fun KC hK=>?_);go_simp;(first|refine hK _ ?_|refine ⟨_,fun _ _=>rfl,hK _ ?_⟩);clear hK KC)
   have H2D:Hid ((suA bx).rel (a,(t,(k,(n,(qs,(l,f)))))) (vl,vqs) P1 D0):=Lib.hid ((suA bx).kept H20.out ((Upd.of_new (S:=fun _=>False) hB0).mono fun _ _ h=>h.elim))
   obtain ⟨Pi,hls,hsub,hput⟩:=su_see_l bx _ _ _ _ H2D.out
   have HPUT:=Lib.hid hput
   have HSUB:=Lib.hid hsub
   clear hput hsub
   have HA:=Lib.hid (addk_any bx 0 (bx+1) (suRow (a,(t,(k,(n,(qs,(l,f)))))) (vl,vqs)) 64 vl l Pi 109 X (D - 1) (kread 1000001 r.s (D - 1)) D0 (enters_of Tryz.func109 (by kernel_rfl) rfl) (Lib.hid ((hB0.block _ (row_lt H10.out)).trans H10.out)) rfl ⟨by omega,by have:=hB0.size;omega⟩ (Lib.hid hls) hll (Lib.hid (fun w'=>by have:=HUK.out X (D - 1) w' (by omega) (by omega);rwa [HXD.out] at this)))
   clear hls
   refine seq_come _ rfl (fun KC hK=>?_);go_simp
   refine HA.out.mono ?_;intro e w1 hpost
   have hS1:(fun w':World=>w'.heap[rb]? = some (.cells #[.int .i64 (r.num:Int),.int .i64 (r.ty:Int),.int .u64 (r.n:Int),.string X,.string ⟨r.raw.toArray⟩] 78 (0,0))) w1:=(hpost.1.block rb (row_lt hS) (fun e=>by
    rcases e with e|e
    ·omega
    ·have:=HP1.out rb (HSUB.out rb e);have:=HRB.out;omega)).trans hS
   cases hrd:kread 1000001 r.s (D - 1) with
   | error c =>
    rw[hrd] at hpost HSE
    obtain ⟨hu1,y,rfl,hec⟩:=hpost
    have hu1:=hu1.mono (S':=fun k=>k=bx∨P1 k) (fun k _ h=>h.imp id (HSUB.out k))
    obtain ⟨T',z,rfl⟩:=hec.iface
    go_simp
    refine hK.out _ _ hS1 ?_;clear hK KC
    (refine seq_take _ rfl (fun KC hK=>?_);go_simp;(first|refine hK _ ?_|refine ⟨_,fun _ _=>rfl,hK _ ?_⟩);clear hK KC)
    refine seq_done ?_
    go_wp2_with fail
    go_ret
    exact takepost_no HSE.out (((HU0.out.mono fun _ _ h=>h.elim).trans (Upd.of_new hB0)).trans hu1) hec
   | ok x =>
    rw[hrd] at hpost HSE
    obtain ⟨rfl,hu,P',hr,hp⟩:=rowL_add (A:=suA bx) (put:=fun (v:Value × Value) v'=>((v',v.2):Value × Value)) (sm:=fun st st':suS=>(True)∧st'.2.2.2.2.1=st.2.2.2.2.1) (ls:=fun st:suS=>st.2.2.2.2.2.1) (st:=(a,(t,(k,(n,(qs,(l,f))))))) (st':=(a,(t,(k,(n,(qs,(l++[x],f))))))) (v:=(vl,vqs)) H2D.out HPUT.out hpost (fun v'=>rfl) ⟨trivial,rfl⟩ rfl HSUB.out
    go_simp
    refine hK.out _ _ hS1 ?_;clear hK KC
    (refine seq_take _ rfl (fun KC hK=>?_);go_simp;(first|refine hK _ ?_|refine ⟨_,fun _ _=>rfl,hK _ ?_⟩);clear hK KC)
    refine seq_done ?_
    have HU:=Lib.hid hu
    have HRL:=Lib.hid hr
    have HP:=Lib.hid hp
    clear hu hr hp hpost hrd
    go_wp2_with fail
    go_ret
    exact takepost_ok HSE.out (((HU0.out.mono fun _ _ h=>h.elim).trans (Upd.of_new hB0)).trans HU.out) HRL.out (fun k hk=>(HP.out k hk).imp id (fun h=>Nat.le_trans (Nat.le_trans hsz hB0.size) h))
 have hty:r.num=8∧r.ty=0:=by omega
 have HSE:=Lib.hid (suF_8 hty D a t k n qs l f)
 have d2:((r.num:Int) == 2)=false:=by rw[beq_eq_false_iff_ne];omega
 have d3:((r.num:Int) == 3)=false:=by rw[beq_eq_false_iff_ne];omega
 have d4:((r.num:Int) == 4)=false:=by rw[beq_eq_false_iff_ne];omega
 have d5:((r.num:Int) == 5)=false:=by rw[beq_eq_false_iff_ne];omega
 have d6:((r.num:Int) == 6)=false:=by rw[beq_eq_false_iff_ne];omega
 have d7:((r.num:Int) == 7)=false:=by rw[beq_eq_false_iff_ne];omega
 have d8:((r.num:Int) == 8)=true:=by rw[beq_iff_eq];omega
 have q1:=u32_wrap r.n
 have hc6:W0.cell? ⟨bx,6,none⟩=some (.int .u32 (f:Int)):=row_cell H10.out (j:=6) rfl
 have hf6:W0.frozen? ⟨bx,6,none⟩=false:=row_thaw H10.out 6
 have HP:=Lib.hid (rowL_set (A:=suA bx) (T0:=64) (row:=suRow) (st:=(a,(t,(k,(n,(qs,(l,f))))))) (st':=(a,(t,(k,(n,(qs,(l,r.n % 4294967296))))))) (v:=(vl,vqs)) 6 (.int .u32 ((r.n:Int) % 4294967296)) H10.out H20.out (by unfold suRow;rw[show ((r.n:Int) % 4294967296)=((r.n % 4294967296:Nat):Int) by omega];rfl) ⟨rfl,rfl⟩)
 rw[←HW0.out] at hc6 hf6
 clear hty hk HKN
 go_enter Tryz.func96,Tryz.ntmps96
 go_wp2_with fail
 rw[HW0.out]
 go_ret
 exact takepost_ok HSE.out ((HU0.out.mono fun _ _ h=>h.elim).trans (HP.out.2.mono fun k _ h => .inl h)) HP.out.1 (fun k hk => .inl hk)
theorem suclo_any (bx bd:Nat) (D:Int) (r:Rec) (hUl:Hid (r.num=7→UKey)) (hUqs:Hid (r.num=6→QuUn)) (st:suS) (P:Nat→Prop) (w:World) (hD : -9223372036854775807≤D∧D≤9223372036854775807) (hk:suF.tk r=true) (hs:r.s.length≤500000) (hll:st.2.2.2.2.2.1.length≤1000000) (hlqs:st.2.2.2.2.1.length≤1000000) (h:Hid ((capT (suT bx) bd D).rel st P w)) :
  Calls Tryz.prog 95 #[recV r,.pointer (some ⟨bx,0,none⟩),.pointer (some ⟨bd,0,none⟩)] w (TakePost (capT (suT bx) bd D) (suF.step D) st P r w):=by
 obtain ⟨P0,hr,hn,hb,rfl⟩:=h.out
 refine Calls.mono ?_ (fun e w' hp=>capT_post hp hn hb)
 have HR:=Lib.hid hr
 have HB:=Lib.hid hb
 clear h hr hb
 obtain ⟨X,hX⟩:∃ X:ByteArray,(⟨r.s.toArray⟩:ByteArray)=X:=⟨_,rfl⟩
 have HX:Hid ((⟨r.s.toArray⟩:ByteArray)=X):=Lib.hid hX
 obtain ⟨rb,hrb⟩:∃ rb,w.heap.size=rb:=⟨_,rfl⟩
 obtain ⟨W0,hW0⟩:∃ W0,w.alloc (.cells #[.int .i64 (r.num:Int),.int .i64 (r.ty:Int),.int .u64 (r.n:Int),.string X,.string ⟨r.raw.toArray⟩] 78)=W0:=⟨_,rfl⟩
 have HB0:Hid (Below w.heap.size w W0):=Lib.hid (by rw[←hW0];exact below_new _ _)
 have HR0:Hid (W0.heap[rb]? = some (.cells #[.int .i64 (r.num:Int),.int .i64 (r.ty:Int),.int .u64 (r.n:Int),.string X,.string ⟨r.raw.toArray⟩] 78 (0,0))):=Lib.hid (by rw[←hW0,←hrb];exact heap_alloc_new _ _)
 have HW0:=Lib.hid hW0
 have HRB:=Lib.hid hrb
 have q1:IntKind.i64.wrap (D - 1)=D - 1:=IntWalk.i64_in _ (by omega)
 unfold recV
 rw[hX]
 clear hX hW0
 go_enter Tryz.func95,Tryz.ntmps95
 go_wp2_with fail
 rw[HW0.out]
 go_upto_region 1 with fail
 all_goals
  obtain ⟨D0,hD0⟩:∃ D0,W0.drew=D0:=⟨_,rfl⟩
  have hB0:Below W0.heap.size W0 D0:=by rw[←hD0];exact (Below.refl _ _).drew
  have HBD:=Lib.hid (below_step HB0.out hB0)
  have hS:R2 rb #[.int .i64 (r.num:Int),.int .i64 (r.ty:Int),.int .u64 (r.n:Int),.string X,.string ⟨r.raw.toArray⟩] 78 bd #[.int .i64 D] 3 D0:=⟨(hB0.block _ (row_lt HR0.out)).trans HR0.out,(HBD.out.block _ (row_lt HB.out)).trans HB.out⟩
  have hne:Nonempty {w':World // R2 rb #[.int .i64 (r.num:Int),.int .i64 (r.ty:Int),.int .u64 (r.n:Int),.string X,.string ⟨r.raw.toArray⟩] 78 bd #[.int .i64 D] 3 w'}:=⟨⟨_,hS⟩⟩
  refine wp_region_seq (S:=R2 rb #[.int .i64 (r.num:Int),.int .i64 (r.ty:Int),.int .u64 (r.n:Int),.string X,.string ⟨r.raw.toArray⟩] 78 bd #[.int .i64 D] 3) [(0,true),(1,true),(2,true),(3,true),(4,true),(5,false),(6,false),(7,true)] (by kernel_rfl) (by kernel_rfl) (by kernel_rfl) (by kernel_rfl) (by rw[hD0];exact hS) ?_
  rw[hD0]
  (refine seq_take _ rfl (fun KC hK=>?_);go_simp;(first|refine hK _ ?_|refine ⟨_,fun _ _=>rfl,hK _ ?_⟩);clear hK KC)
  refine seq_take _ rfl (fun KC hK=>?_);go_simp
  refine ⟨.int .i64 (r.num:Int),fun a ha=>by rw[row_cell ha.1 (j:=0) rfl];rfl,hK _ ?_⟩
  clear hK KC
  refine seq_take _ rfl (fun KC hK=>?_);go_simp
  refine ⟨.agg #[.int .i64 (r.num:Int),.int .i64 (r.ty:Int),.int .u64 (r.n:Int),.string X,.string ⟨r.raw.toArray⟩],fun a ha=>by (have e0:=row_cell ha.1 (j:=0) rfl;have e1:=row_cell ha.1 (j:=1) rfl;have e2:=row_cell ha.1 (j:=2) rfl;have e3:=row_cell ha.1 (j:=3) rfl;have e4:=row_cell ha.1 (j:=4) rfl);simp only[e0,e1,e2,e3,e4,Result.andThen];rfl,hK _ ?_⟩
  clear hK KC
  refine seq_take _ rfl (fun KC hK=>?_);go_simp
  refine ⟨.int .i64 D,fun a ha=>by rw[row_cell ha.2 (j:=0) rfl];rfl,hK _ ?_⟩
  clear hK KC
  (refine seq_take _ rfl (fun KC hK=>?_);go_simp;(first|refine hK _ ?_|refine ⟨_,fun _ _=>rfl,hK _ ?_⟩);clear hK KC)
  have HT:=Lib.hid (sutake_any bx D r hUl hUqs st P0 D0 hD hk hs hll hlqs (Lib.hid ((suT bx).kept _ _ _ _ HR.out (Upd.of_new HBD.out))))
  unfold recV at HT
  rw[HX.out] at HT
  refine seq_come _ rfl (fun KC hK=>?_);go_simp
  refine HT.out.mono ?_;rintro e w1 ⟨hu,hcase⟩
  have hlt:=(suT bx).lt _ _ _ HR.out
  have hS1:R2 rb #[.int .i64 (r.num:Int),.int .i64 (r.ty:Int),.int .u64 (r.n:Int),.string X,.string ⟨r.raw.toArray⟩] 78 bd #[.int .i64 D] 3 w1:=⟨(hu.block rb (row_lt hS.1) (fun e=>by have:=hlt rb e;have:=HRB.out;omega)).trans hS.1,(hu.block bd (row_lt hS.2) hn).trans hS.2⟩
  cases hst:suF.step D st r with
  | error c =>
   rw[hst] at hcase
   obtain ⟨y,rfl,hec⟩:=hcase
   obtain ⟨T',z,rfl⟩:=hec.iface
   have HEC:=Lib.hid hec
   have HU:=Lib.hid hu
   clear hec hu hlt
   go_simp
   refine hK.out _ _ hS1 ?_;clear hK KC
   refine seq_come _ rfl (fun KC hK=>?_);go_simp
   refine (in_any _ _ _ _).mono ?_;rintro e w' ⟨rfl,rfl⟩
   go_simp
   refine hK.out _ _ (hS1.below (below_new _ _)) ?_;clear hK KC
   (refine seq_take _ rfl (fun KC hK=>?_);go_simp;(first|refine hK _ ?_|refine ⟨_,fun _ _=>rfl,hK _ ?_⟩);clear hK KC)
   refine seq_done ?_
   go_wp2_with fail
   go_ret
   exact takepost_no hst (((Upd.of_new HBD.out).trans HU.out).trans (Upd.alloc _ _ _)) (ec_field HEC.out)
  | ok st' =>
   rw[hst] at hcase
   obtain ⟨rfl,P',hr,hp⟩:=hcase
   have HRL:=Lib.hid hr
   have HP:=Lib.hid hp
   have HU:=Lib.hid hu
   clear hr hp hu hlt
   go_simp
   refine hK.out _ _ hS1 ?_;clear hK KC
   refine seq_come _ rfl (fun KC hK=>?_);go_simp
   refine (in_nil _ _).mono ?_;rintro e w' ⟨rfl,rfl⟩
   go_simp
   refine hK.out _ _ hS1 ?_;clear hK KC
   (refine seq_take _ rfl (fun KC hK=>?_);go_simp;(first|refine hK _ ?_|refine ⟨_,fun _ _=>rfl,hK _ ?_⟩);clear hK KC)
   refine seq_done ?_
   go_wp2_with fail
   go_ret
   exact takepost_ok hst ((Upd.of_new HBD.out).trans HU.out) HRL.out (fun k hk=>(HP.out k hk).imp id (fun h=>Nat.le_trans HBD.out.size h))
theorem su_cnt {d:Int}:∀ (rs:List Rec) (st st':suS),mfold (σ:=suS) suF.tk (suF.step d) st rs = .ok st'→st'.2.2.2.2.1.length≤st.2.2.2.2.1.length+rs.length
 | [],st,st',h=>by
  have h:Except.ok st=Except.ok st':=h
  rw[Except.ok.inj h];simp
 | r :: rs,st,st',h=>by
  cases e:suF.tk r with
  | false =>
   have:=su_cnt rs st st' ((mfold_skip (σ:=suS) e).symm.trans h)
   rw[List.length_cons];omega
  | true =>
   obtain ⟨s1,h1,h2⟩:∃ s1:suS,suF.step d st r = .ok s1∧mfold (σ:=suS) suF.tk (suF.step d) s1 rs = .ok st':=by
    cases e1:suF.step d st r with
    | error c=>rw[mfold_bad (σ:=suS) e e1] at h;cases h
    | ok s1=>exact ⟨s1,rfl,(mfold_take (σ:=suS) e e1).symm.trans h⟩
   have h3:=su_cnt rs s1 st' h2
   have h4:s1.2.2.2.2.1.length≤st.2.2.2.2.1.length+1:=by
    obtain ⟨a,⟨t,⟨k,⟨n,⟨qs,⟨l,f⟩⟩⟩⟩⟩⟩:=st
    have hk:=e
    rw[suF_tk,decide_eq_true_eq] at hk
    rcases hk with hk|hk|hk|hk|hk|hk|hk
    ·have h6:_=s1:=Except.ok.inj ((suF_2 hk d a t k n qs l f).symm.trans h1);rw[←h6];simp
    ·have h6:_=s1:=Except.ok.inj ((suF_3 hk d a t k n qs l f).symm.trans h1);rw[←h6];simp
    ·have h6:_=s1:=Except.ok.inj ((suF_4 hk d a t k n qs l f).symm.trans h1);rw[←h6];simp
    ·have h6:_=s1:=Except.ok.inj ((suF_5 hk d a t k n qs l f).symm.trans h1);rw[←h6];simp
    ·have h5:=(suF_6 hk d a t k n qs l f).symm.trans h1
     cases e2:qurd r.s (d - 1) with
     | error c=>rw[e2] at h5;cases h5
     | ok y=>rw[e2] at h5;have h6:_=s1:=Except.ok.inj h5;rw[←h6];simp
    ·have h5:=(suF_7 hk d a t k n qs l f).symm.trans h1
     cases e2:kread 1000001 r.s (d - 1) with
     | error c=>rw[e2] at h5;cases h5
     | ok y=>rw[e2] at h5;have h6:_=s1:=Except.ok.inj h5;rw[←h6];simp
    ·have h6:_=s1:=Except.ok.inj ((suF_8 hk d a t k n qs l f).symm.trans h1);rw[←h6];simp
   rw[List.length_cons];omega
theorem raws_ge {d:Int}:∀ rs:List Rec,(∀ x∈rs,IsRec d x)→2 * rs.length≤(rs.flatMap Rec.raw).length
 | [],_=>by simp
 | r::rs,h=>by
  have h1:=raws_ge rs (fun x hx=>h x (List.mem_cons_of_mem _ hx))
  have h2:=(isrec_facts (h r (List.mem_cons_self ..))).2.2.1
  rw[List.flatMap_cons,List.length_append,List.length_cons];omega
theorem su_set {w:World} {g:Nat} {T:TypeId} {z0 z1 z2 z3 z4 z5 z6 z7:Value} (h:w.heap[g]? = some (.cells #[z0,z1,z2,z3,z4,z5,z6,z7] T (0,0))) (c0 c1 c2 c3 c4 c5 c6 c7:Value):((((((((w.setCell ⟨g,0,none⟩ c0).setCell ⟨g,1,none⟩ c1).setCell ⟨g,2,none⟩ c2).setCell ⟨g,3,none⟩ c3).setCell ⟨g,4,none⟩ c4).setCell ⟨g,5,none⟩ c5).setCell ⟨g,6,none⟩ c6).setCell ⟨g,7,none⟩ c7).heap[g]? = some (.cells #[c0,c1,c2,c3,c4,c5,c6,c7] T (0,0))∧Upd (fun k=>k=g) w ((((((((w.setCell ⟨g,0,none⟩ c0).setCell ⟨g,1,none⟩ c1).setCell ⟨g,2,none⟩ c2).setCell ⟨g,3,none⟩ c3).setCell ⟨g,4,none⟩ c4).setCell ⟨g,5,none⟩ c5).setCell ⟨g,6,none⟩ c6).setCell ⟨g,7,none⟩ c7):=by
 have r0:(w.setCell ⟨g,0,none⟩ c0).heap[g]? = some (.cells #[c0,z1,z2,z3,z4,z5,z6,z7] T (0,0)):=row_set h 0 c0
 have u0:Upd (fun k=>k=g) w (w.setCell ⟨g,0,none⟩ c0):=Upd.set w ⟨g,0,none⟩ c0
 have r1:((w.setCell ⟨g,0,none⟩ c0).setCell ⟨g,1,none⟩ c1).heap[g]? = some (.cells #[c0,c1,z2,z3,z4,z5,z6,z7] T (0,0)):=row_set r0 1 c1
 have u1:Upd (fun k=>k=g) w ((w.setCell ⟨g,0,none⟩ c0).setCell ⟨g,1,none⟩ c1):=u0.trans (Upd.set (w.setCell ⟨g,0,none⟩ c0) ⟨g,1,none⟩ c1)
 have r2:(((w.setCell ⟨g,0,none⟩ c0).setCell ⟨g,1,none⟩ c1).setCell ⟨g,2,none⟩ c2).heap[g]? = some (.cells #[c0,c1,c2,z3,z4,z5,z6,z7] T (0,0)):=row_set r1 2 c2
 have u2:Upd (fun k=>k=g) w (((w.setCell ⟨g,0,none⟩ c0).setCell ⟨g,1,none⟩ c1).setCell ⟨g,2,none⟩ c2):=u1.trans (Upd.set ((w.setCell ⟨g,0,none⟩ c0).setCell ⟨g,1,none⟩ c1) ⟨g,2,none⟩ c2)
 have r3:((((w.setCell ⟨g,0,none⟩ c0).setCell ⟨g,1,none⟩ c1).setCell ⟨g,2,none⟩ c2).setCell ⟨g,3,none⟩ c3).heap[g]? = some (.cells #[c0,c1,c2,c3,z4,z5,z6,z7] T (0,0)):=row_set r2 3 c3
 have u3:Upd (fun k=>k=g) w ((((w.setCell ⟨g,0,none⟩ c0).setCell ⟨g,1,none⟩ c1).setCell ⟨g,2,none⟩ c2).setCell ⟨g,3,none⟩ c3):=u2.trans (Upd.set (((w.setCell ⟨g,0,none⟩ c0).setCell ⟨g,1,none⟩ c1).setCell ⟨g,2,none⟩ c2) ⟨g,3,none⟩ c3)
 have r4:(((((w.setCell ⟨g,0,none⟩ c0).setCell ⟨g,1,none⟩ c1).setCell ⟨g,2,none⟩ c2).setCell ⟨g,3,none⟩ c3).setCell ⟨g,4,none⟩ c4).heap[g]? = some (.cells #[c0,c1,c2,c3,c4,z5,z6,z7] T (0,0)):=row_set r3 4 c4
 have u4:Upd (fun k=>k=g) w (((((w.setCell ⟨g,0,none⟩ c0).setCell ⟨g,1,none⟩ c1).setCell ⟨g,2,none⟩ c2).setCell ⟨g,3,none⟩ c3).setCell ⟨g,4,none⟩ c4):=u3.trans (Upd.set ((((w.setCell ⟨g,0,none⟩ c0).setCell ⟨g,1,none⟩ c1).setCell ⟨g,2,none⟩ c2).setCell ⟨g,3,none⟩ c3) ⟨g,4,none⟩ c4)
 have r5:((((((w.setCell ⟨g,0,none⟩ c0).setCell ⟨g,1,none⟩ c1).setCell ⟨g,2,none⟩ c2).setCell ⟨g,3,none⟩ c3).setCell ⟨g,4,none⟩ c4).setCell ⟨g,5,none⟩ c5).heap[g]? = some (.cells #[c0,c1,c2,c3,c4,c5,z6,z7] T (0,0)):=row_set r4 5 c5
 have u5:Upd (fun k=>k=g) w ((((((w.setCell ⟨g,0,none⟩ c0).setCell ⟨g,1,none⟩ c1).setCell ⟨g,2,none⟩ c2).setCell ⟨g,3,none⟩ c3).setCell ⟨g,4,none⟩ c4).setCell ⟨g,5,none⟩ c5):=u4.trans (Upd.set (((((w.setCell ⟨g,0,none⟩ c0).setCell ⟨g,1,none⟩ c1).setCell ⟨g,2,none⟩ c2).setCell ⟨g,3,none⟩ c3).setCell ⟨g,4,none⟩ c4) ⟨g,5,none⟩ c5)
 have r6:(((((((w.setCell ⟨g,0,none⟩ c0).setCell ⟨g,1,none⟩ c1).setCell ⟨g,2,none⟩ c2).setCell ⟨g,3,none⟩ c3).setCell ⟨g,4,none⟩ c4).setCell ⟨g,5,none⟩ c5).setCell ⟨g,6,none⟩ c6).heap[g]? = some (.cells #[c0,c1,c2,c3,c4,c5,c6,z7] T (0,0)):=row_set r5 6 c6
 have u6:Upd (fun k=>k=g) w (((((((w.setCell ⟨g,0,none⟩ c0).setCell ⟨g,1,none⟩ c1).setCell ⟨g,2,none⟩ c2).setCell ⟨g,3,none⟩ c3).setCell ⟨g,4,none⟩ c4).setCell ⟨g,5,none⟩ c5).setCell ⟨g,6,none⟩ c6):=u5.trans (Upd.set ((((((w.setCell ⟨g,0,none⟩ c0).setCell ⟨g,1,none⟩ c1).setCell ⟨g,2,none⟩ c2).setCell ⟨g,3,none⟩ c3).setCell ⟨g,4,none⟩ c4).setCell ⟨g,5,none⟩ c5) ⟨g,6,none⟩ c6)
 have r7:((((((((w.setCell ⟨g,0,none⟩ c0).setCell ⟨g,1,none⟩ c1).setCell ⟨g,2,none⟩ c2).setCell ⟨g,3,none⟩ c3).setCell ⟨g,4,none⟩ c4).setCell ⟨g,5,none⟩ c5).setCell ⟨g,6,none⟩ c6).setCell ⟨g,7,none⟩ c7).heap[g]? = some (.cells #[c0,c1,c2,c3,c4,c5,c6,c7] T (0,0)):=row_set r6 7 c7
 have u7:Upd (fun k=>k=g) w ((((((((w.setCell ⟨g,0,none⟩ c0).setCell ⟨g,1,none⟩ c1).setCell ⟨g,2,none⟩ c2).setCell ⟨g,3,none⟩ c3).setCell ⟨g,4,none⟩ c4).setCell ⟨g,5,none⟩ c5).setCell ⟨g,6,none⟩ c6).setCell ⟨g,7,none⟩ c7):=u6.trans (Upd.set (((((((w.setCell ⟨g,0,none⟩ c0).setCell ⟨g,1,none⟩ c1).setCell ⟨g,2,none⟩ c2).setCell ⟨g,3,none⟩ c3).setCell ⟨g,4,none⟩ c4).setCell ⟨g,5,none⟩ c5).setCell ⟨g,6,none⟩ c6) ⟨g,7,none⟩ c7)
 exact ⟨r7,u7⟩
theorem su_len_l {d:Int} {pre:List Rec} {st:suS} (h1:∀ x∈pre,IsRec d x) (h2:mfold suF.tk (suF.step d) suF.z pre = .ok st) (h3:(pre.flatMap Rec.raw).length≤500000):st.2.2.2.2.2.1.length≤1000000:=by
 have hi:=mfold_tlen (d:=d) 1000000 (suF.inv d) (suF_ok.go d) pre suF.z st 0 h1 (suF_ok.start d) (by have:=tlen_le suF.tk pre;omega) h2
 rw[Nat.zero_add] at hi
 have:=tlen_le suF.tk pre
 obtain ⟨s,t,q,_,⟨sb,tb,qb,_,⟨sbb,tbb,qbb,_,⟨sbbb,tbbb,qbbb,_,⟨sbbbb,tbbbb,qbbbb,_,⟨sbbbbb,tbbbbb,qbbbbb,i1,_⟩⟩⟩⟩⟩⟩:=hi
 have:=kv_len i1
 omega
theorem su_len_qs {d:Int} {pre:List Rec} {st:suS} (h1:∀ x∈pre,IsRec d x) (h2:mfold suF.tk (suF.step d) suF.z pre = .ok st) (h3:(pre.flatMap Rec.raw).length≤500000):st.2.2.2.2.1.length≤1000000:=by
 have h4:=su_cnt (d:=d) pre suF.z st h2
 have h5:=raws_ge pre h1
 have h6:(suF.z:suS).2.2.2.2.1.length=0:=rfl
 omega
theorem load_su {w:World} {g:Nat} {cs:Array Value} (hg:w.heap[g]? = some (.cells cs 64 (0,0))) (hc:cs.size=8):(loadVar 64 ⟨g,0,none⟩).run Tryz.prog w = .ok (.agg cs) w :=
 run_loadVar_row w g 64 64 cs (0,0) _ hg Tryz.underlying64 rfl (by rw[hc];kernel_rfl)
theorem unsu_if (X:ByteArray) (d:Int) (hUl:Hid (∀ r:Rec,(∀ rs,wall X.data.toList d = .ok rs→r∈rs)→r.num=7→UKey)) (hUqs:Hid (∀ r:Rec,(∀ rs,wall X.data.toList d = .ok rs→r∈rs)→r.num=6→QuUn)) (w:World) (hX:X.size≤500000) (hd : -9223372036854775808≤d∧d≤9223372036854775807) :
  Calls Tryz.prog 34 #[.string X,.int .i64 d] w (RdPost suCel suzero (surd X.data.toList d) X.size w):=by
 have HE1:=enters_of Tryz.func94 (by kernel_rfl) rfl
 have HE2:=enters_of Tryz.func95 (by kernel_rfl) rfl
 obtain ⟨g,hg⟩:∃ g,w.heap.size=g:=⟨_,rfl⟩
 obtain ⟨W0,hW0⟩:∃ W0,((w.alloc (.cells #[.int .i64 d] 3)).alloc (.cells #[.slice none 0 0,.int .u64 0,.int .u64 0,.int .u64 0,.int .u64 0,.slice none 0 0,.int .u32 0,.string ⟨#[]⟩] 64)).alloc (.cells #[.slice none 0 0,.int .u64 0,.int .u64 0,.int .u64 0,.int .u64 0,.slice none 0 0,.int .u32 0,.string ⟨#[]⟩] 64)=W0:=⟨_,rfl⟩
 have HB0:Hid (Below w.heap.size w W0):=Lib.hid (by rw[←hW0];exact below_step (below_step (below_new _ _) (below_new _ _)) (below_new _ _))
 have h3:=new_three_c hg (.cells #[.int .i64 d] 3) (.cells #[.slice none 0 0,.int .u64 0,.int .u64 0,.int .u64 0,.int .u64 0,.slice none 0 0,.int .u32 0,.string ⟨#[]⟩] 64) (.cells #[.slice none 0 0,.int .u64 0,.int .u64 0,.int .u64 0,.int .u64 0,.slice none 0 0,.int .u32 0,.string ⟨#[]⟩] 64)
 rw[hW0] at h3
 have HR0:=Lib.hid h3.2.1
 have hcd:W0.cell? ⟨g,0,none⟩=some (.int .i64 d):=row_cell h3.1 (j:=0) rfl
 have htk:(capT (suT (g+2)) g d).rel suF.z (fun k=>(k=g+2∨False)∨k=g) W0:=⟨fun k=>k=g+2∨False,⟨(.slice none 0 0,.slice none 0 0),fun _=>False,h3.2.2,ltwo_nil (lone_nil rfl) (lone_nil rfl),rfl⟩,by simp,h3.1,rfl⟩
 have HRD:Hid (Calls Tryz.prog 43 #[.string X,.int .i64 d,.func (.func 94) #[] #[],.func (.func 95) #[] #[.pointer (some ⟨g+2,0,none⟩),.pointer (some ⟨g,0,none⟩)]] W0 (ReadPost (capT (suT (g+2)) g d) suF.tk (suF.step d) suF.z (fun k=>(k=g+2∨False)∨k=g) X d W0)):=Lib.hid (by
  by_cases h0:d<0
  ·refine (mread_neg _ _ _ X d W0 h0).mono ?_
   rintro e w' ⟨v,rfl,hb,he⟩
   refine ⟨Upd.of_new hb,?_⟩
   have e6:mread (σ:=suS) suF.tk (suF.step d) suF.z X.data.toList d = .error 6:=by unfold mread;rw[if_pos h0]
   rw[e6]
   exact ⟨v,0,rfl,Nat.zero_le _,he⟩
  ·exact mread_any (capT (suT (g+2)) g d) suF.tk (suF.step d) 94 95 #[.pointer (some ⟨g+2,0,none⟩),.pointer (some ⟨g,0,none⟩)] suF.z X d W0 (by omega) HE1 HE2 (fun r w _=>sutakes_any r w) (fun r st P w hk hr hraw hmem hpre h=>suclo_any (g+2) g d r (Lib.hid (fun h1=>hUl.out r hmem h1)) (Lib.hid (fun h1=>hUqs.out r hmem h1)) st P w (by omega) hk (by have:=isrec_s hr;omega) (by obtain ⟨pre,h1,h2,h3⟩:=hpre;exact su_len_l h1 h2 (by omega)) (by obtain ⟨pre,h1,h2,h3⟩:=hpre;exact su_len_qs h1 h2 (by omega)) (Lib.hid h)) _ htk)
 have HW0:=Lib.hid hW0
 have HGG:=Lib.hid hg
 clear hW0 h3 htk HE1 HE2
 go_enter Tryz.func34,Tryz.ntmps34
 go_wp2_with fail
 rw[HW0.out]
 go_wp2_with fail
 refine HRD.out.mono ?_;intro e w1 hpost
 obtain ⟨hu,hcase⟩:=hpost
 have hu1:Upd (fun k=>k=g+2∨k=g) W0 w1:=hu.mono (fun k _ h=>by
  rcases h with (h|h)|h
  ·exact .inl h
  ·exact h.elim
  ·exact .inr h)
 have HR1:Hid (w1.heap[g+1]? = some (.cells #[.slice none 0 0,.int .u64 0,.int .u64 0,.int .u64 0,.int .u64 0,.slice none 0 0,.int .u32 0,.string ⟨#[]⟩] 64 (0,0))):=Lib.hid ((hu1.block (g+1) (row_lt HR0.out) (by omega)).trans HR0.out)
 have HB1:Hid (Below w.heap.size w w1):=Lib.hid (HB0.out.trans (hu1.below (by have:=HB0.out.size;omega) (fun k _ h=>by omega)))
 clear hu hu1 hcd HRD
 have hz0:w1.cell? ⟨g+1,0,none⟩=some (.slice none 0 0):=row_cell HR1.out (j:=0) rfl
 have fz0:w1.frozen? ⟨g+1,0,none⟩=false:=row_thaw HR1.out 0
 have hz1:w1.cell? ⟨g+1,1,none⟩=some (.int .u64 0):=row_cell HR1.out (j:=1) rfl
 have fz1:w1.frozen? ⟨g+1,1,none⟩=false:=row_thaw HR1.out 1
 have hz2:w1.cell? ⟨g+1,2,none⟩=some (.int .u64 0):=row_cell HR1.out (j:=2) rfl
 have fz2:w1.frozen? ⟨g+1,2,none⟩=false:=row_thaw HR1.out 2
 have hz3:w1.cell? ⟨g+1,3,none⟩=some (.int .u64 0):=row_cell HR1.out (j:=3) rfl
 have fz3:w1.frozen? ⟨g+1,3,none⟩=false:=row_thaw HR1.out 3
 have hz4:w1.cell? ⟨g+1,4,none⟩=some (.int .u64 0):=row_cell HR1.out (j:=4) rfl
 have fz4:w1.frozen? ⟨g+1,4,none⟩=false:=row_thaw HR1.out 4
 have hz5:w1.cell? ⟨g+1,5,none⟩=some (.slice none 0 0):=row_cell HR1.out (j:=5) rfl
 have fz5:w1.frozen? ⟨g+1,5,none⟩=false:=row_thaw HR1.out 5
 have hz6:w1.cell? ⟨g+1,6,none⟩=some (.int .u32 0):=row_cell HR1.out (j:=6) rfl
 have fz6:w1.frozen? ⟨g+1,6,none⟩=false:=row_thaw HR1.out 6
 have hz7:w1.cell? ⟨g+1,7,none⟩=some (.string ⟨#[]⟩):=row_cell HR1.out (j:=7) rfl
 have fz7:w1.frozen? ⟨g+1,7,none⟩=false:=row_thaw HR1.out 7
 cases hb:mread (σ:=suS) suF.tk (suF.step d) suF.z X.data.toList d with
 | error c =>
  rw[hb] at hcase
  obtain ⟨v,q,rfl,hq,hew⟩:=hcase
  obtain ⟨T',y,rfl⟩:=hew.iface
  have HBR:Hid (surd X.data.toList d = .error c):=Lib.hid hb
  have HEW:=Lib.hid hew
  clear hb hew
  go_wp2_with fail
  obtain ⟨hr,hua⟩:=su_set HR1.out (.slice none 0 0) (.int .u64 0) (.int .u64 0) (.int .u64 0) (.int .u64 0) (.slice none 0 0) (.int .u32 0) (.string ⟨#[]⟩)
  refine body_cell2v rfl rfl (load_su hr rfl) rfl ?_
  refine ⟨HB1.out.trans (hua.below (by have:=HB1.out.size;omega) (fun k _ h=>by have h:k=g+1:=h;omega)),?_⟩
  rw[HBR.out]
  obtain ⟨ws,he⟩:=HEW.out
  exact ⟨_,q,rfl,hq,ws,isErr_upd hua (fun k hk b m e h=>by have hk:k=g+1:=hk;subst hk;rw[HR1.out] at h;simp at h) he⟩
 | ok xu =>
  obtain ⟨st,u⟩:=xu
  rw[hb] at hcase
  obtain ⟨rfl,P',⟨P0,⟨v,P1,h1,h2,rfl⟩,h3,h4,rfl⟩,hp⟩:=hcase
  obtain ⟨a,⟨t,⟨k,⟨n,⟨qs,⟨l,f⟩⟩⟩⟩⟩⟩:=st
  obtain ⟨vl,vqs⟩:=v
  have HBR:Hid (surd X.data.toList d = .ok ((a,(t,(k,(n,(qs,(l,f)))))),u)):=Lib.hid hb
  obtain ⟨Q0a,Q0b,r0,h2,_,rfl⟩:=h2
  have r0:LsAt kcel 98 (g+2+1) vl l _ w1:=r0
  have HLT0:=Lib.hid (LsAt.lt r0)
  obtain ⟨css,Q,g2,g3,g4,g5,rfl⟩:=r0
  obtain ⟨lo,lc,rfl⟩:=own_slice g2
  have HRL0:=Lib.hid (KRel_own g2 g3 (P:=fun k=>g+3≤k) (fun j a1 a2=>KRel.upd (Upd.refl (fun _=>False) w1) (fun _ _ h=>h) (fun k hk=>(g5 k hk).2.1) _ _ (g4 j a1 a2)) (fun k hk=>(g2.lt k hk).1))
  clear g2 g3 g4 g5
  have r1:LsAt quCel 141 (g+2+1) vqs qs _ w1:=h2
  have HLT1:=Lib.hid (LsAt.lt r1)
  obtain ⟨qo,qc,rfl⟩:∃ ao cap,vqs = .slice ao qs.length cap:=by obtain ⟨_,_,g2,_⟩:=r1;exact own_slice g2
  have HRL1:=Lib.hid (CRels.of_ls r1)
  clear r1
  obtain ⟨Xu,hU⟩:∃ U:ByteArray,(⟨u.toArray⟩:ByteArray)=U:=⟨_,rfl⟩
  have HUU:=Lib.hid hU
  rw[hU]
  have HX1:Hid (w1.heap[g+2]? = some (.cells #[.slice lo l.length lc,.int .u64 (a:Int),.int .u64 (t:Int),.int .u64 (k:Int),.int .u64 (n:Int),.slice qo qs.length qc,.int .u32 (f:Int),.string ⟨#[]⟩] 64 (0,0))):=Lib.hid (h1)
  have hx0:w1.cell? ⟨g+2,0,none⟩=some (.slice lo l.length lc):=row_cell HX1.out (j:=0) rfl
  have hx1:w1.cell? ⟨g+2,1,none⟩=some (.int .u64 (a:Int)):=row_cell HX1.out (j:=1) rfl
  have hx2:w1.cell? ⟨g+2,2,none⟩=some (.int .u64 (t:Int)):=row_cell HX1.out (j:=2) rfl
  have hx3:w1.cell? ⟨g+2,3,none⟩=some (.int .u64 (k:Int)):=row_cell HX1.out (j:=3) rfl
  have hx4:w1.cell? ⟨g+2,4,none⟩=some (.int .u64 (n:Int)):=row_cell HX1.out (j:=4) rfl
  have hx5:w1.cell? ⟨g+2,5,none⟩=some (.slice qo qs.length qc):=row_cell HX1.out (j:=5) rfl
  have hx6:w1.cell? ⟨g+2,6,none⟩=some (.int .u32 (f:Int)):=row_cell HX1.out (j:=6) rfl
  have hx7:w1.cell? ⟨g+2,7,none⟩=some (.string ⟨#[]⟩):=row_cell HX1.out (j:=7) rfl
  have hfx:w1.frozen? ⟨g+2,7,none⟩=false:=row_thaw HX1.out 7
  clear hb h1 h2 h3 h4 hp hU
  go_wp2_with fail
  have hux:=Upd.set w1 ⟨g+2,7,none⟩ (.string Xu)
  obtain ⟨hr,hua⟩:=su_set ((hux.block (g+1) (row_lt HR1.out) (fun e=>by have e:g+1=g+2:=e;omega)).trans HR1.out) (.slice lo l.length lc) (.int .u64 (a:Int)) (.int .u64 (t:Int)) (.int .u64 (k:Int)) (.int .u64 (n:Int)) (.slice qo qs.length qc) (.int .u32 (f:Int)) (.string Xu)
  refine body_cell2v rfl rfl (load_su hr rfl) rfl ?_
  have hub:=(hux.mono (S':=fun k=>k=g+1∨k=g+2) fun k _ h => .inr h).trans (hua.mono fun k _ h => .inl h)
  refine ⟨HB1.out.trans (hub.below (by have:=HB1.out.size;omega) (fun k _ h=>by omega)),?_⟩
  rw[HBR.out]
  refine ⟨[.slice lo l.length lc,.int .u64 (a:Int),.int .u64 (t:Int),.int .u64 (k:Int),.int .u64 (n:Int),.slice qo qs.length qc,.int .u32 (f:Int),.string Xu],rfl,lo,lc,qo,qc,?_,KRels.upd hub (fun k hk e=>by omega) (fun k hk=>by omega) _ _ _ HRL0.out,CRels.upd hub (fun k hk e=>by have:=(HLT1.out k hk).1;omega) (fun k hk=>by have:=(HLT1.out k hk).1;omega) HRL1.out⟩
  rw[←HUU.out];rfl
theorem su_un (X:ByteArray) (d:Int) (w:World) (hX:X.size≤500000) (hd : -9223372036854775808≤d∧d≤9223372036854775807) :
  Calls Tryz.prog 34 #[.string X,.int .i64 d] w (RdPost suCel suzero (surd X.data.toList d) X.size w):=unsu_if X d (Lib.hid fun _ _ _=>ukey_any) (Lib.hid (fun _ _ _=>fun Y d' w'=>qu_un Y d' w')) w hX hd
end Go.Proofs.YtjbingoliffjiaaGreatDoor
