/-
  exem.take, takes, Unmarshal: any text.
-/
import Derived.Test.YtficgfemmijaaaaGreatExMar
import Derived.Test.YtficgfemmijaaaaGreatFld
set_option maxRecDepth 1000000
set_option maxHeartbeats 16000000
namespace Go.Proofs.YtficgfemmijaaaaGreat
open Go.RowKit
open Lib (hid)
theorem rowT_set2 {σ α:Type}{C:Cel α}{T T0:TypeId}{row:σ→Value→Array Value}{ls:σ→List α}{bx:Nat}{st st':σ}{v:Value}{P1:Nat→Prop}{w:World}(o o2:Nat)(u u2:Value)(h1:w.heap[bx]? = some (.cells (row st v) T0 (0,0)))(h2:LsAt C T (bx+1) v (ls st) P1 w)(hr:((row st v).setIfInBounds o u).setIfInBounds o2 u2=row st' v)(hl:ls st'=ls st) :
  (rowT C T T0 row ls bx).rel st' (fun k=>k=bx∨P1 k) ((w.setCell ⟨bx,o,none⟩ u).setCell ⟨bx,o2,none⟩ u2)∧Upd (fun k=>k=bx) w ((w.setCell ⟨bx,o,none⟩ u).setCell ⟨bx,o2,none⟩ u2):=by
 have hu:=(Upd.set w ⟨bx,o,none⟩ u).trans (Upd.set _ ⟨bx,o2,none⟩ u2);refine ⟨⟨v,P1,hr ▸ row_set (row_set h1 o u) o2 u2,?_,rfl⟩,hu⟩;rw[hl];exact h2.kept (hu.mono fun k _ h h'=>by have h:k=bx:=h;have:=(h2.lt k h').1;omega)
abbrev exS:Type:=Nat × ((Int × Nat) × List UInt8 × List UInt8) × List KV
def exRow:exS→Value→Array Value
 | (t,(((k,n),(a,b)),_)),v=>#[v,.int .u64 t,.int .i64 k,.int .u64 n,strV a,strV b,.string ⟨#[]⟩]
def exT (bx:Nat):Taker exS:=rowT kcel 65 54 exRow (fun st=>st.2.2) bx
theorem extake_any (bx:Nat)(D:Int)(r:Rec)(hU:Hid (r.num=7→UKey))(st:exS)(P:Nat→Prop)(w:World)(hD:-9223372036854775807≤D∧D≤9223372036854775807)(hk:exF.tk r=true)(hs:r.s.length≤1000000)(hl:st.2.2.length≤1000000)(h:Hid ((exT bx).rel st P w)) :
  Calls Tryz.prog 100 #[.pointer (some ⟨bx,0,none⟩),recV r,.int .i64 (D - 1)] w (TakePost (exT bx) (exF.step D) st P r w):=by
 obtain ⟨v,P1,h1,h2,rfl⟩:=h.out;obtain ⟨t,⟨⟨⟨k,n⟩,⟨a,b⟩⟩,l⟩⟩:=st;have H1:=hid h1;have H2:=hid h2;clear h h1 h2;obtain ⟨X,hX⟩:∃ X:ByteArray,(⟨r.s.toArray⟩:ByteArray)=X:=⟨_,rfl⟩
 have hXs:X.size≤1000000:=by rw[←hX];simp[ByteArray.size];omega
 have HXD:Hid (X.data.toList=r.s):=hid (by rw[←hX]);have HX:Hid ((⟨r.s.toArray⟩:ByteArray)=X):=hid hX;obtain ⟨rb,hrb⟩:∃ rb,w.heap.size=rb:=⟨_,rfl⟩
 obtain ⟨W0,hW0⟩:∃ W0,w.alloc (.cells #[.int .i64 r.num,.int .i64 r.ty,.int .u64 r.n,.string X,.string ⟨r.raw.toArray⟩] 83)=W0:=⟨_,rfl⟩
 have HU0:Hid (Upd (fun _=>False) w W0):=hid (by rw[←hW0];exact Upd.alloc _ _ _);have HR0:Hid (W0.heap[rb]? = some (.cells #[.int .i64 r.num,.int .i64 r.ty,.int .u64 r.n,.string X,.string ⟨r.raw.toArray⟩] 83 (0,0))):=hid (by rw[←hW0,←hrb];exact heap_alloc_new _ _);have H10:Hid (W0.heap[bx]? = some (.cells (exRow (t,(((k,n),(a,b)),l)) v) 54 (0,0))):=hid ((HU0.out.block bx (row_lt H1.out) (fun h=>h)).trans H1.out);have H20:Hid (LsAt kcel 65 (bx+1) v l P1 W0):=hid (H2.out.kept (HU0.out.mono fun _ _ h=>h.elim));have HW0:=hid hW0;have HRB:=hid hrb;have hsz:=HU0.out.size;have hbx:=row_lt H1.out;have hn0:W0.cell? ⟨rb,0,none⟩=some (.int .i64 r.num):=row_cell HR0.out (j:=0) rfl;rw[exF_tk,decide_eq_true_eq] at hk;have HKN:=hid hk;unfold recV;rw[hX];rw[←hW0,←hrb] at hn0;clear hX hW0
 by_cases hN2:r.num=2
 ·have hty:r.num=2∧r.ty=1:=by omega
  have HSE:=hid (exF_2 hty D t k n a b l);have d2:((r.num:Int) == 2)=true:=by rw[beq_iff_eq];omega
  have hc1:W0.cell? ⟨bx,1,none⟩=some (.int .u64 t):=row_cell H10.out (j:=1) rfl;have hf1:W0.frozen? ⟨bx,1,none⟩=false:=row_thaw H10.out 1;have HP:=hid (rowT_set (C:=kcel) (T:=65) (row:=exRow) (ls:=fun st:exS=>st.2.2) (st:=(t,(((k,n),(a,b)),l))) (st':=(r.n,(((k,n),(a,b)),l))) 1 (.int .u64 r.n) H10.out H20.out (rfl) rfl);rw[←HW0.out] at hc1 hf1;clear hty hk HKN hN2;go_enter Tryz.func100,Tryz.ntmps100;go_wp2_with fail;rw[HW0.out];go_ret;exact takepost_ok HSE.out ((HU0.out.mono fun _ _ h=>h.elim).trans (HP.out.2.mono fun k _ h => .inl h)) HP.out.1 (fun k hk => .inl hk)
 by_cases hN6:r.num=6
 ·have hty:r.num=6∧r.ty=1:=by omega
  have HSE:=hid (exF_6 hty D t k n a b l);have d2:((r.num:Int) == 2)=false:=by rw[beq_eq_false_iff_ne];omega
  have d6:((r.num:Int) == 6)=true:=by rw[beq_iff_eq];omega
  clear hty hk HKN hN6;go_enter Tryz.func100,Tryz.ntmps100;go_wp2_with fail;rw[HW0.out];go_upto_region 11 with fail
  all_goals
   obtain ⟨D0,hD0⟩:∃ D0,W0.drew=D0:=⟨_,rfl⟩
   have hB0:Below W0.heap.size W0 D0:=by rw[←hD0];exact (Below.refl _ _).drew
   have hS:(fun w':World=>w'.heap[rb]? = some (.cells #[.int .i64 r.num,.int .i64 r.ty,.int .u64 r.n,.string X,.string ⟨r.raw.toArray⟩] 83 (0,0))) D0:=(hB0.block _ (row_lt HR0.out)).trans HR0.out;have hne:Nonempty {w':World // (fun w':World=>w'.heap[rb]? = some (.cells #[.int .i64 r.num,.int .i64 r.ty,.int .u64 r.n,.string X,.string ⟨r.raw.toArray⟩] 83 (0,0))) w'}:=⟨⟨_,hS⟩⟩
   have hx:D0.heap[bx]? = some (.cells (exRow (t,(((k,n),(a,b)),l)) v) 54 (0,0)):=(hB0.block _ (row_lt H10.out)).trans H10.out;have hset:=rowT_set2 (C:=kcel) (T:=65) (row:=exRow) (ls:=fun st:exS=>st.2.2) (st:=(t,(((k,n),(a,b)),l))) (st':=(t,(((2,r.n),(a,b)),l))) 2 3 (.int .i64 2) (.int .u64 r.n) hx (H20.out.kept ((Upd.of_new (S:=fun _=>False) hB0).mono fun _ _ h=>h.elim)) rfl rfl;have hS1:(fun w':World=>w'.heap[rb]? = some (.cells #[.int .i64 r.num,.int .i64 r.ty,.int .u64 r.n,.string X,.string ⟨r.raw.toArray⟩] 83 (0,0))) (D0.setCell ⟨bx,2,none⟩ (.int .i64 2)):=((Upd.set D0 ⟨bx,2,none⟩ (.int .i64 2)).block rb (row_lt hS) (fun e=>by have e:rb=bx:=e;omega)).trans hS;have hS2:(fun w':World=>w'.heap[rb]? = some (.cells #[.int .i64 r.num,.int .i64 r.ty,.int .u64 r.n,.string X,.string ⟨r.raw.toArray⟩] 83 (0,0))) ((D0.setCell ⟨bx,2,none⟩ (.int .i64 2)).setCell ⟨bx,3,none⟩ (.int .u64 r.n)):=((Upd.set _ ⟨bx,3,none⟩ (.int .u64 r.n)).block rb (row_lt hS1) (fun e=>by have e:rb=bx:=e;omega)).trans hS1;have HSET:=hid hset;have hc1:D0.cell? ⟨bx,2,none⟩=some (.int .i64 k):=row_cell hx (j:=2) rfl;have hf1:D0.frozen? ⟨bx,2,none⟩=false:=row_thaw hx 2;have hx1:=row_set hx 2 (.int .i64 2);have hc2:(D0.setCell ⟨bx,2,none⟩ (.int .i64 2)).cell? ⟨bx,3,none⟩=some (.int .u64 n):=row_cell hx1 (j:=3) rfl;have hf2:(D0.setCell ⟨bx,2,none⟩ (.int .i64 2)).frozen? ⟨bx,3,none⟩=false:=row_thaw hx1 3;clear hset hx hx1;refine wp_region_seq (S:=fun w':World=>w'.heap[rb]? = some (.cells #[.int .i64 r.num,.int .i64 r.ty,.int .u64 r.n,.string X,.string ⟨r.raw.toArray⟩] 83 (0,0))) [(0,true),(1,true),(2,true),(3,true),(4,true),(5,true),(6,true),(7,false),(8,true),(9,true),(10,false)] (by kernel_rfl) (by kernel_rfl) (by kernel_rfl) (by kernel_rfl) (by rw[hD0];exact hS) ?_;rw[hD0]
   iterate 4 (refine seq_take _ rfl (fun KC hK=>?_);go_simp;(first|refine hK _ ?_|refine ⟨_,fun _ _=>rfl,hK _ ?_⟩);clear hK KC)
   refine seq_take _ rfl (fun KC hK=>?_);go_simp;refine ⟨.int .u64 r.n,fun a ha=>by rw[row_cell ha (j:=2) rfl];rfl,hK _ ?_⟩;clear hK KC
   iterate 2 (refine seq_take _ rfl (fun KC hK=>?_);go_simp;(first|refine hK _ ?_|refine ⟨_,fun _ _=>rfl,hK _ ?_⟩);clear hK KC)
   refine seq_come _ rfl (fun KC hK=>?_);go_simp;refine hK.out _ _ hS1 ?_;clear hK KC
   iterate 2 (refine seq_take _ rfl (fun KC hK=>?_);go_simp;(first|refine hK _ ?_|refine ⟨_,fun _ _=>rfl,hK _ ?_⟩);clear hK KC)
   refine seq_come _ rfl (fun KC hK=>?_);go_simp;refine hK.out _ _ hS2 ?_;clear hK KC;refine seq_done ?_;go_wp2_with fail;go_ret;exact takepost_ok HSE.out (((HU0.out.mono fun _ _ h=>h.elim).trans (Upd.of_new hB0)).trans (HSET.out.2.mono fun k _ h => .inl h)) HSET.out.1 (fun k hk => .inl hk)
 by_cases hN3:r.num=3
 ·have hty:r.num=3∧r.ty=1:=by omega
  have HSE:=hid (exF_3 hty D t k n a b l);have d2:((r.num:Int) == 2)=false:=by rw[beq_eq_false_iff_ne];omega
  have d6:((r.num:Int) == 6)=false:=by rw[beq_eq_false_iff_ne];omega
  have d3:((r.num:Int) == 3)=true:=by rw[beq_iff_eq];omega
  clear hty hk HKN hN3;go_enter Tryz.func100,Tryz.ntmps100;go_wp2_with fail;rw[HW0.out];go_upto_region 11 with fail
  all_goals
   obtain ⟨D0,hD0⟩:∃ D0,W0.drew=D0:=⟨_,rfl⟩
   have hB0:Below W0.heap.size W0 D0:=by rw[←hD0];exact (Below.refl _ _).drew
   have hS:(fun w':World=>w'.heap[rb]? = some (.cells #[.int .i64 r.num,.int .i64 r.ty,.int .u64 r.n,.string X,.string ⟨r.raw.toArray⟩] 83 (0,0))) D0:=(hB0.block _ (row_lt HR0.out)).trans HR0.out;have hne:Nonempty {w':World // (fun w':World=>w'.heap[rb]? = some (.cells #[.int .i64 r.num,.int .i64 r.ty,.int .u64 r.n,.string X,.string ⟨r.raw.toArray⟩] 83 (0,0))) w'}:=⟨⟨_,hS⟩⟩
   have hx:D0.heap[bx]? = some (.cells (exRow (t,(((k,n),(a,b)),l)) v) 54 (0,0)):=(hB0.block _ (row_lt H10.out)).trans H10.out;have hset:=rowT_set2 (C:=kcel) (T:=65) (row:=exRow) (ls:=fun st:exS=>st.2.2) (st:=(t,(((k,n),(a,b)),l))) (st':=(t,(((1,r.n),(a,b)),l))) 2 3 (.int .i64 1) (.int .u64 r.n) hx (H20.out.kept ((Upd.of_new (S:=fun _=>False) hB0).mono fun _ _ h=>h.elim)) rfl rfl;have hS1:(fun w':World=>w'.heap[rb]? = some (.cells #[.int .i64 r.num,.int .i64 r.ty,.int .u64 r.n,.string X,.string ⟨r.raw.toArray⟩] 83 (0,0))) (D0.setCell ⟨bx,2,none⟩ (.int .i64 1)):=((Upd.set D0 ⟨bx,2,none⟩ (.int .i64 1)).block rb (row_lt hS) (fun e=>by have e:rb=bx:=e;omega)).trans hS;have hS2:(fun w':World=>w'.heap[rb]? = some (.cells #[.int .i64 r.num,.int .i64 r.ty,.int .u64 r.n,.string X,.string ⟨r.raw.toArray⟩] 83 (0,0))) ((D0.setCell ⟨bx,2,none⟩ (.int .i64 1)).setCell ⟨bx,3,none⟩ (.int .u64 r.n)):=((Upd.set _ ⟨bx,3,none⟩ (.int .u64 r.n)).block rb (row_lt hS1) (fun e=>by have e:rb=bx:=e;omega)).trans hS1;have HSET:=hid hset;have hc1:D0.cell? ⟨bx,2,none⟩=some (.int .i64 k):=row_cell hx (j:=2) rfl;have hf1:D0.frozen? ⟨bx,2,none⟩=false:=row_thaw hx 2;have hx1:=row_set hx 2 (.int .i64 1);have hc2:(D0.setCell ⟨bx,2,none⟩ (.int .i64 1)).cell? ⟨bx,3,none⟩=some (.int .u64 n):=row_cell hx1 (j:=3) rfl;have hf2:(D0.setCell ⟨bx,2,none⟩ (.int .i64 1)).frozen? ⟨bx,3,none⟩=false:=row_thaw hx1 3;clear hset hx hx1;refine wp_region_seq (S:=fun w':World=>w'.heap[rb]? = some (.cells #[.int .i64 r.num,.int .i64 r.ty,.int .u64 r.n,.string X,.string ⟨r.raw.toArray⟩] 83 (0,0))) [(0,true),(1,true),(2,true),(3,true),(4,true),(5,true),(6,true),(7,false),(8,true),(9,true),(10,false)] (by kernel_rfl) (by kernel_rfl) (by kernel_rfl) (by kernel_rfl) (by rw[hD0];exact hS) ?_;rw[hD0]
   iterate 4 (refine seq_take _ rfl (fun KC hK=>?_);go_simp;(first|refine hK _ ?_|refine ⟨_,fun _ _=>rfl,hK _ ?_⟩);clear hK KC)
   refine seq_take _ rfl (fun KC hK=>?_);go_simp;refine ⟨.int .u64 r.n,fun a ha=>by rw[row_cell ha (j:=2) rfl];rfl,hK _ ?_⟩;clear hK KC
   iterate 2 (refine seq_take _ rfl (fun KC hK=>?_);go_simp;(first|refine hK _ ?_|refine ⟨_,fun _ _=>rfl,hK _ ?_⟩);clear hK KC)
   refine seq_come _ rfl (fun KC hK=>?_);go_simp;refine hK.out _ _ hS1 ?_;clear hK KC
   iterate 2 (refine seq_take _ rfl (fun KC hK=>?_);go_simp;(first|refine hK _ ?_|refine ⟨_,fun _ _=>rfl,hK _ ?_⟩);clear hK KC)
   refine seq_come _ rfl (fun KC hK=>?_);go_simp;refine hK.out _ _ hS2 ?_;clear hK KC;refine seq_done ?_;go_wp2_with fail;go_ret;exact takepost_ok HSE.out (((HU0.out.mono fun _ _ h=>h.elim).trans (Upd.of_new hB0)).trans (HSET.out.2.mono fun k _ h => .inl h)) HSET.out.1 (fun k hk => .inl hk)
 by_cases hN4:r.num=4
 ·have hty:r.num=4∧r.ty=2:=by omega
  have HSE:=hid (exF_4 hty D t k n a b l);have d2:((r.num:Int) == 2)=false:=by rw[beq_eq_false_iff_ne];omega
  have d6:((r.num:Int) == 6)=false:=by rw[beq_eq_false_iff_ne];omega
  have d3:((r.num:Int) == 3)=false:=by rw[beq_eq_false_iff_ne];omega
  have d4:((r.num:Int) == 4)=true:=by rw[beq_iff_eq];omega
  have hc4:W0.cell? ⟨bx,4,none⟩=some (strV a):=row_cell H10.out (j:=4) rfl;have hf4:W0.frozen? ⟨bx,4,none⟩=false:=row_thaw H10.out 4;have HP:=hid (rowT_set (C:=kcel) (T:=65) (row:=exRow) (ls:=fun st:exS=>st.2.2) (st:=(t,(((k,n),(a,b)),l))) (st':=(t,(((k,n),(r.s,b)),l))) 4 (.string X) H10.out H20.out (by rw[←HX.out];rfl) rfl);rw[←HW0.out] at hc4 hf4;clear hty hk HKN hN4;go_enter Tryz.func100,Tryz.ntmps100;go_wp2_with fail;rw[HW0.out];go_ret;exact takepost_ok HSE.out ((HU0.out.mono fun _ _ h=>h.elim).trans (HP.out.2.mono fun k _ h => .inl h)) HP.out.1 (fun k hk => .inl hk)
 by_cases hN5:r.num=5
 ·have hty:r.num=5∧r.ty=2:=by omega
  have HSE:=hid (exF_5 hty D t k n a b l);have d2:((r.num:Int) == 2)=false:=by rw[beq_eq_false_iff_ne];omega
  have d6:((r.num:Int) == 6)=false:=by rw[beq_eq_false_iff_ne];omega
  have d3:((r.num:Int) == 3)=false:=by rw[beq_eq_false_iff_ne];omega
  have d4:((r.num:Int) == 4)=false:=by rw[beq_eq_false_iff_ne];omega
  have d5:((r.num:Int) == 5)=true:=by rw[beq_iff_eq];omega
  have hc5:W0.cell? ⟨bx,5,none⟩=some (strV b):=row_cell H10.out (j:=5) rfl;have hf5:W0.frozen? ⟨bx,5,none⟩=false:=row_thaw H10.out 5;have HP:=hid (rowT_set (C:=kcel) (T:=65) (row:=exRow) (ls:=fun st:exS=>st.2.2) (st:=(t,(((k,n),(a,b)),l))) (st':=(t,(((k,n),(a,r.s)),l))) 5 (.string X) H10.out H20.out (by rw[←HX.out];rfl) rfl);rw[←HW0.out] at hc5 hf5;clear hty hk HKN hN5;go_enter Tryz.func100,Tryz.ntmps100;go_wp2_with fail;rw[HW0.out];go_ret;exact takepost_ok HSE.out ((HU0.out.mono fun _ _ h=>h.elim).trans (HP.out.2.mono fun k _ h => .inl h)) HP.out.1 (fun k hk => .inl hk)
 have hty:r.num=7∧r.ty=2:=by omega
 have HSE:=hid (exF_7 hty D t k n a b l);have HUK:=hid (hU.out hty.1);have d2:((r.num:Int) == 2)=false:=by rw[beq_eq_false_iff_ne];omega
 have d6:((r.num:Int) == 6)=false:=by rw[beq_eq_false_iff_ne];omega
 have d3:((r.num:Int) == 3)=false:=by rw[beq_eq_false_iff_ne];omega
 have d4:((r.num:Int) == 4)=false:=by rw[beq_eq_false_iff_ne];omega
 have d5:((r.num:Int) == 5)=false:=by rw[beq_eq_false_iff_ne];omega
 have d7:((r.num:Int) == 7)=true:=by rw[beq_iff_eq];omega
 clear hty hk HKN;go_enter Tryz.func100,Tryz.ntmps100;go_wp2_with fail;rw[HW0.out];go_upto_region 14 with fail
 all_goals
  obtain ⟨D0,hD0⟩:∃ D0,W0.drew=D0:=⟨_,rfl⟩
  have hB0:Below W0.heap.size W0 D0:=by rw[←hD0];exact (Below.refl _ _).drew
  have hS:(fun w':World=>w'.heap[rb]? = some (.cells #[.int .i64 r.num,.int .i64 r.ty,.int .u64 r.n,.string X,.string ⟨r.raw.toArray⟩] 83 (0,0))) D0:=(hB0.block _ (row_lt HR0.out)).trans HR0.out;have hne:Nonempty {w':World // (fun w':World=>w'.heap[rb]? = some (.cells #[.int .i64 r.num,.int .i64 r.ty,.int .u64 r.n,.string X,.string ⟨r.raw.toArray⟩] 83 (0,0))) w'}:=⟨⟨_,hS⟩⟩
  refine wp_region_seq (S:=fun w':World=>w'.heap[rb]? = some (.cells #[.int .i64 r.num,.int .i64 r.ty,.int .u64 r.n,.string X,.string ⟨r.raw.toArray⟩] 83 (0,0))) [(0,true),(1,true),(2,true),(3,true),(4,true),(5,true),(6,false),(7,true)] (by kernel_rfl) (by kernel_rfl) (by kernel_rfl) (by kernel_rfl) (by rw[hD0];exact hS) ?_;rw[hD0]
  iterate 4 (refine seq_take _ rfl (fun KC hK=>?_);go_simp;(first|refine hK _ ?_|refine ⟨_,fun _ _=>rfl,hK _ ?_⟩);clear hK KC)
  refine seq_take _ rfl (fun KC hK=>?_);go_simp;refine ⟨.string X,fun a ha=>by rw[row_cell ha (j:=3) rfl];rfl,hK _ ?_⟩;clear hK KC
  (refine seq_take _ rfl (fun KC hK=>?_);go_simp;(first|refine hK _ ?_|refine ⟨_,fun _ _=>rfl,hK _ ?_⟩);clear hK KC)
  have HA:=hid (addk_any bx 0 (bx+1) (exRow (t,(((k,n),(a,b)),l)) v) 54 v l P1 71 X (D - 1) (kread 1000001 r.s (D - 1)) D0 (enters_of Tryz.func71 (by kernel_rfl) rfl) (hid ((hB0.block _ (row_lt H10.out)).trans H10.out)) rfl ⟨by omega,by have:=hB0.size;omega⟩ (hid (H20.out.kept ((Upd.of_new (S:=fun _=>False) hB0).mono fun _ _ h=>h.elim))) hl (hid (fun w'=>by have:=HUK.out X (D - 1) w' hXs (by omega);rwa [HXD.out] at this)));refine seq_come _ rfl (fun KC hK=>?_);go_simp;refine HA.out.mono ?_;intro e w1 hpost
  have hS1:(fun w':World=>w'.heap[rb]? = some (.cells #[.int .i64 r.num,.int .i64 r.ty,.int .u64 r.n,.string X,.string ⟨r.raw.toArray⟩] 83 (0,0))) w1:=(hpost.1.block rb (row_lt hS) (fun e=>by
   rcases e with e|e
   ·omega
   ·have:=(H2.out.lt rb e).2;have:=HRB.out;omega)).trans hS
  cases hrd:kread 1000001 r.s (D - 1) with
  | error c =>
   rw[hrd] at hpost HSE;obtain ⟨hu1,y,rfl,hec⟩:=hpost;obtain ⟨T',z,rfl⟩:=hec.iface;go_simp;refine hK.out _ _ hS1 ?_;clear hK KC
   (refine seq_take _ rfl (fun KC hK=>?_);go_simp;(first|refine hK _ ?_|refine ⟨_,fun _ _=>rfl,hK _ ?_⟩);clear hK KC)
   refine seq_done ?_;go_wp2_with fail;go_ret;exact takepost_no HSE.out (((HU0.out.mono fun _ _ h=>h.elim).trans (Upd.of_new hB0)).trans hu1) hec
  | ok x =>
   rw[hrd] at hpost HSE;obtain ⟨rfl,hu,P',hr,hp⟩:=rowT_add (ls:=fun st:exS=>st.2.2) (st:=(t,(((k,n),(a,b)),l))) (st':=(t,(((k,n),(a,b)),l++[x]))) hpost (fun v'=>rfl) rfl;go_simp;refine hK.out _ _ hS1 ?_;clear hK KC
   (refine seq_take _ rfl (fun KC hK=>?_);go_simp;(first|refine hK _ ?_|refine ⟨_,fun _ _=>rfl,hK _ ?_⟩);clear hK KC)
   refine seq_done ?_;have HU:=hid hu;have HRL:=hid hr;have HP:=hid hp;clear hu hr hp hpost hrd;go_wp2_with fail;go_ret;exact takepost_ok HSE.out (((HU0.out.mono fun _ _ h=>h.elim).trans (Upd.of_new hB0)).trans HU.out) HRL.out (fun k hk=>(HP.out k hk).imp id (fun h=>Nat.le_trans (Nat.le_trans hsz hB0.size) h))
theorem exclo_any (bx bd:Nat)(D:Int)(r:Rec)(hU:Hid (r.num=7→UKey))(st:exS)(P:Nat→Prop)(w:World)(hD:-9223372036854775807≤D∧D≤9223372036854775807)(hk:exF.tk r=true)(hs:r.s.length≤1000000)(hl:st.2.2.length≤1000000)(h:Hid ((capT (exT bx) bd D).rel st P w)) :
  Calls Tryz.prog 99 #[recV r,.pointer (some ⟨bx,0,none⟩),.pointer (some ⟨bd,0,none⟩)] w (TakePost (capT (exT bx) bd D) (exF.step D) st P r w):=by
 obtain ⟨P0,hr,hn,hb,rfl⟩:=h.out;refine Calls.mono ?_ (fun e w' hp=>capT_post hp hn hb);have HR:=hid hr;have HB:=hid hb;clear h hr hb;obtain ⟨X,hX⟩:∃ X:ByteArray,(⟨r.s.toArray⟩:ByteArray)=X:=⟨_,rfl⟩
 have HX:Hid ((⟨r.s.toArray⟩:ByteArray)=X):=hid hX;obtain ⟨rb,hrb⟩:∃ rb,w.heap.size=rb:=⟨_,rfl⟩
 obtain ⟨W0,hW0⟩:∃ W0,w.alloc (.cells #[.int .i64 r.num,.int .i64 r.ty,.int .u64 r.n,.string X,.string ⟨r.raw.toArray⟩] 83)=W0:=⟨_,rfl⟩
 have HB0:Hid (Below w.heap.size w W0):=hid (by rw[←hW0];exact below_new _ _);have HR0:Hid (W0.heap[rb]? = some (.cells #[.int .i64 r.num,.int .i64 r.ty,.int .u64 r.n,.string X,.string ⟨r.raw.toArray⟩] 83 (0,0))):=hid (by rw[←hW0,←hrb];exact heap_alloc_new _ _);have HW0:=hid hW0;have HRB:=hid hrb;have q1:IntKind.i64.wrap (D - 1)=D - 1:=IntWalk.i64_in _ (by omega);unfold recV;rw[hX];clear hX hW0;go_enter Tryz.func99,Tryz.ntmps99;go_wp2_with fail;rw[HW0.out];go_upto_region 1 with fail
 all_goals
  obtain ⟨D0,hD0⟩:∃ D0,W0.drew=D0:=⟨_,rfl⟩
  have hB0:Below W0.heap.size W0 D0:=by rw[←hD0];exact (Below.refl _ _).drew
  have HBD:=hid (below_step HB0.out hB0);have hS:R2 rb #[.int .i64 r.num,.int .i64 r.ty,.int .u64 r.n,.string X,.string ⟨r.raw.toArray⟩] 83 bd #[.int .i64 D] 3 D0:=⟨(hB0.block _ (row_lt HR0.out)).trans HR0.out,(HBD.out.block _ (row_lt HB.out)).trans HB.out⟩
  have hne:Nonempty {w':World // R2 rb #[.int .i64 r.num,.int .i64 r.ty,.int .u64 r.n,.string X,.string ⟨r.raw.toArray⟩] 83 bd #[.int .i64 D] 3 w'}:=⟨⟨_,hS⟩⟩
  refine wp_region_seq (S:=R2 rb #[.int .i64 r.num,.int .i64 r.ty,.int .u64 r.n,.string X,.string ⟨r.raw.toArray⟩] 83 bd #[.int .i64 D] 3) [(0,true),(1,true),(2,true),(3,true),(4,true),(5,false),(6,false),(7,true)] (by kernel_rfl) (by kernel_rfl) (by kernel_rfl) (by kernel_rfl) (by rw[hD0];exact hS) ?_;rw[hD0]
  (refine seq_take _ rfl (fun KC hK=>?_);go_simp;(first|refine hK _ ?_|refine ⟨_,fun _ _=>rfl,hK _ ?_⟩);clear hK KC)
  refine seq_take _ rfl (fun KC hK=>?_);go_simp;refine ⟨.int .i64 r.num,fun a ha=>by rw[row_cell ha.1 (j:=0) rfl];rfl,hK _ ?_⟩;clear hK KC;refine seq_take _ rfl (fun KC hK=>?_);go_simp;refine ⟨.agg #[.int .i64 r.num,.int .i64 r.ty,.int .u64 r.n,.string X,.string ⟨r.raw.toArray⟩],fun a ha=>by (have e0:=row_cell ha.1 (j:=0) rfl;have e1:=row_cell ha.1 (j:=1) rfl;have e2:=row_cell ha.1 (j:=2) rfl;have e3:=row_cell ha.1 (j:=3) rfl;have e4:=row_cell ha.1 (j:=4) rfl);simp only[e0,e1,e2,e3,e4,Result.andThen];rfl,hK _ ?_⟩;clear hK KC;refine seq_take _ rfl (fun KC hK=>?_);go_simp;refine ⟨.int .i64 D,fun a ha=>by rw[row_cell ha.2 (j:=0) rfl];rfl,hK _ ?_⟩;clear hK KC
  (refine seq_take _ rfl (fun KC hK=>?_);go_simp;(first|refine hK _ ?_|refine ⟨_,fun _ _=>rfl,hK _ ?_⟩);clear hK KC)
  have HT:=hid (extake_any bx D r hU st P0 D0 hD hk hs hl (hid ((exT bx).kept _ _ _ _ HR.out (Upd.of_new HBD.out))));unfold recV at HT
  rw[HX.out] at HT;refine seq_come _ rfl (fun KC hK=>?_);go_simp;refine HT.out.mono ?_;rintro e w1 ⟨hu,hcase⟩;have hlt:=(exT bx).lt _ _ _ HR.out;have hS1:R2 rb #[.int .i64 r.num,.int .i64 r.ty,.int .u64 r.n,.string X,.string ⟨r.raw.toArray⟩] 83 bd #[.int .i64 D] 3 w1:=⟨(hu.block rb (row_lt hS.1) (fun e=>by have:=hlt rb e;have:=HRB.out;omega)).trans hS.1,(hu.block bd (row_lt hS.2) hn).trans hS.2⟩
  cases hst:exF.step D st r with
  | error c =>
   rw[hst] at hcase;obtain ⟨y,rfl,hec⟩:=hcase;obtain ⟨T',z,rfl⟩:=hec.iface;have HEC:=hid hec;have HU:=hid hu;clear hec hu hlt;go_simp;refine hK.out _ _ hS1 ?_;clear hK KC;refine seq_come _ rfl (fun KC hK=>?_);go_simp;refine (in_any _ _ _ _).mono ?_;rintro e w' ⟨rfl,rfl⟩;go_simp;refine hK.out _ _ (hS1.below (below_new _ _)) ?_;clear hK KC
   (refine seq_take _ rfl (fun KC hK=>?_);go_simp;(first|refine hK _ ?_|refine ⟨_,fun _ _=>rfl,hK _ ?_⟩);clear hK KC)
   refine seq_done ?_;go_wp2_with fail;go_ret;exact takepost_no hst (((Upd.of_new HBD.out).trans HU.out).trans (Upd.alloc _ _ _)) (ec_field HEC.out)
  | ok st' =>
   rw[hst] at hcase;obtain ⟨rfl,P',hr,hp⟩:=hcase;have HRL:=hid hr;have HP:=hid hp;have HU:=hid hu;clear hr hp hu hlt;go_simp;refine hK.out _ _ hS1 ?_;clear hK KC;refine seq_come _ rfl (fun KC hK=>?_);go_simp;refine (in_nil _ _).mono ?_;rintro e w' ⟨rfl,rfl⟩;go_simp;refine hK.out _ _ hS1 ?_;clear hK KC
   (refine seq_take _ rfl (fun KC hK=>?_);go_simp;(first|refine hK _ ?_|refine ⟨_,fun _ _=>rfl,hK _ ?_⟩);clear hK KC)
   refine seq_done ?_;go_wp2_with fail;go_ret;exact takepost_ok hst ((Upd.of_new HBD.out).trans HU.out) HRL.out (fun k hk=>(HP.out k hk).imp id (fun h=>Nat.le_trans HBD.out.size h))
theorem ex_set {w:World}{g:Nat}{T:TypeId}{z0 z1 z2 z3 z4 z5 z6:Value}(h:w.heap[g]? = some (.cells #[z0,z1,z2,z3,z4,z5,z6] T (0,0)))(c0 c1 c2 c3 c4 c5 c6:Value):(((((((w.setCell ⟨g,0,none⟩ c0).setCell ⟨g,1,none⟩ c1).setCell ⟨g,2,none⟩ c2).setCell ⟨g,3,none⟩ c3).setCell ⟨g,4,none⟩ c4).setCell ⟨g,5,none⟩ c5).setCell ⟨g,6,none⟩ c6).heap[g]? = some (.cells #[c0,c1,c2,c3,c4,c5,c6] T (0,0))∧Upd (fun k=>k=g) w (((((((w.setCell ⟨g,0,none⟩ c0).setCell ⟨g,1,none⟩ c1).setCell ⟨g,2,none⟩ c2).setCell ⟨g,3,none⟩ c3).setCell ⟨g,4,none⟩ c4).setCell ⟨g,5,none⟩ c5).setCell ⟨g,6,none⟩ c6):=by
 have r0:(w.setCell ⟨g,0,none⟩ c0).heap[g]? = some (.cells #[c0,z1,z2,z3,z4,z5,z6] T (0,0)):=row_set h 0 c0;have u0:Upd (fun k=>k=g) w (w.setCell ⟨g,0,none⟩ c0):=Upd.set w ⟨g,0,none⟩ c0;have r1:((w.setCell ⟨g,0,none⟩ c0).setCell ⟨g,1,none⟩ c1).heap[g]? = some (.cells #[c0,c1,z2,z3,z4,z5,z6] T (0,0)):=row_set r0 1 c1;have u1:Upd (fun k=>k=g) w ((w.setCell ⟨g,0,none⟩ c0).setCell ⟨g,1,none⟩ c1):=u0.trans (Upd.set (w.setCell ⟨g,0,none⟩ c0) ⟨g,1,none⟩ c1);have r2:(((w.setCell ⟨g,0,none⟩ c0).setCell ⟨g,1,none⟩ c1).setCell ⟨g,2,none⟩ c2).heap[g]? = some (.cells #[c0,c1,c2,z3,z4,z5,z6] T (0,0)):=row_set r1 2 c2;have u2:Upd (fun k=>k=g) w (((w.setCell ⟨g,0,none⟩ c0).setCell ⟨g,1,none⟩ c1).setCell ⟨g,2,none⟩ c2):=u1.trans (Upd.set ((w.setCell ⟨g,0,none⟩ c0).setCell ⟨g,1,none⟩ c1) ⟨g,2,none⟩ c2);have r3:((((w.setCell ⟨g,0,none⟩ c0).setCell ⟨g,1,none⟩ c1).setCell ⟨g,2,none⟩ c2).setCell ⟨g,3,none⟩ c3).heap[g]? = some (.cells #[c0,c1,c2,c3,z4,z5,z6] T (0,0)):=row_set r2 3 c3;have u3:Upd (fun k=>k=g) w ((((w.setCell ⟨g,0,none⟩ c0).setCell ⟨g,1,none⟩ c1).setCell ⟨g,2,none⟩ c2).setCell ⟨g,3,none⟩ c3):=u2.trans (Upd.set (((w.setCell ⟨g,0,none⟩ c0).setCell ⟨g,1,none⟩ c1).setCell ⟨g,2,none⟩ c2) ⟨g,3,none⟩ c3);have r4:(((((w.setCell ⟨g,0,none⟩ c0).setCell ⟨g,1,none⟩ c1).setCell ⟨g,2,none⟩ c2).setCell ⟨g,3,none⟩ c3).setCell ⟨g,4,none⟩ c4).heap[g]? = some (.cells #[c0,c1,c2,c3,c4,z5,z6] T (0,0)):=row_set r3 4 c4;have u4:Upd (fun k=>k=g) w (((((w.setCell ⟨g,0,none⟩ c0).setCell ⟨g,1,none⟩ c1).setCell ⟨g,2,none⟩ c2).setCell ⟨g,3,none⟩ c3).setCell ⟨g,4,none⟩ c4):=u3.trans (Upd.set ((((w.setCell ⟨g,0,none⟩ c0).setCell ⟨g,1,none⟩ c1).setCell ⟨g,2,none⟩ c2).setCell ⟨g,3,none⟩ c3) ⟨g,4,none⟩ c4);have r5:((((((w.setCell ⟨g,0,none⟩ c0).setCell ⟨g,1,none⟩ c1).setCell ⟨g,2,none⟩ c2).setCell ⟨g,3,none⟩ c3).setCell ⟨g,4,none⟩ c4).setCell ⟨g,5,none⟩ c5).heap[g]? = some (.cells #[c0,c1,c2,c3,c4,c5,z6] T (0,0)):=row_set r4 5 c5;have u5:Upd (fun k=>k=g) w ((((((w.setCell ⟨g,0,none⟩ c0).setCell ⟨g,1,none⟩ c1).setCell ⟨g,2,none⟩ c2).setCell ⟨g,3,none⟩ c3).setCell ⟨g,4,none⟩ c4).setCell ⟨g,5,none⟩ c5):=u4.trans (Upd.set (((((w.setCell ⟨g,0,none⟩ c0).setCell ⟨g,1,none⟩ c1).setCell ⟨g,2,none⟩ c2).setCell ⟨g,3,none⟩ c3).setCell ⟨g,4,none⟩ c4) ⟨g,5,none⟩ c5);have r6:(((((((w.setCell ⟨g,0,none⟩ c0).setCell ⟨g,1,none⟩ c1).setCell ⟨g,2,none⟩ c2).setCell ⟨g,3,none⟩ c3).setCell ⟨g,4,none⟩ c4).setCell ⟨g,5,none⟩ c5).setCell ⟨g,6,none⟩ c6).heap[g]? = some (.cells #[c0,c1,c2,c3,c4,c5,c6] T (0,0)):=row_set r5 6 c6;have u6:Upd (fun k=>k=g) w (((((((w.setCell ⟨g,0,none⟩ c0).setCell ⟨g,1,none⟩ c1).setCell ⟨g,2,none⟩ c2).setCell ⟨g,3,none⟩ c3).setCell ⟨g,4,none⟩ c4).setCell ⟨g,5,none⟩ c5).setCell ⟨g,6,none⟩ c6):=u5.trans (Upd.set ((((((w.setCell ⟨g,0,none⟩ c0).setCell ⟨g,1,none⟩ c1).setCell ⟨g,2,none⟩ c2).setCell ⟨g,3,none⟩ c3).setCell ⟨g,4,none⟩ c4).setCell ⟨g,5,none⟩ c5) ⟨g,6,none⟩ c6);exact ⟨r6,u6⟩
theorem ex_len {d:Int}{pre:List Rec}{st:exS}(h1:∀ x∈pre,IsRec d x)(h2:mfold exF.tk (exF.step d) exF.z pre = .ok st)(h3:(pre.flatMap Rec.raw).length≤500000):st.2.2.length≤1000000:=by
 have hi:=mfold_tlen (d:=d) 1000000 (exF.inv d) (exF_ok.go d) pre exF.z st 0 h1 (exF_ok.start d) (by have:=tlen_le exF.tk pre;omega) h2;rw[Nat.zero_add] at hi;have:=tlen_le exF.tk pre;obtain ⟨s,t,q,_,⟨sb,tb,qb,_,i1⟩⟩:=hi;have:=kv_len i1;omega
theorem load_ex {w:World}{g:Nat}{cs:Array Value}(hg:w.heap[g]? = some (.cells cs 54 (0,0)))(hc:cs.size=7):(loadVar 54 ⟨g,0,none⟩).run Tryz.prog w = .ok (.agg cs) w :=
 run_loadVar_row w g 54 54 cs (0,0) _ hg Tryz.underlying54 rfl (by rw[hc];kernel_rfl)
theorem unex_if (X:ByteArray)(d:Int)(hU:Hid (∀ r:Rec,(∀ rs,wall X.data.toList d = .ok rs→r∈rs)→r.num=7→UKey))(w:World)(hX:X.size≤500000)(hd:-9223372036854775808≤d∧d≤9223372036854775807) :
  Calls Tryz.prog 75 #[.string X,.int .i64 d] w (RdPost exCel exzero (exrd X.data.toList d) X.size w):=by
 have HE1:=enters_of Tryz.func65 (by kernel_rfl) rfl;have HE2:=enters_of Tryz.func99 (by kernel_rfl) rfl;obtain ⟨g,hg⟩:∃ g,w.heap.size=g:=⟨_,rfl⟩
 obtain ⟨W0,hW0⟩:∃ W0,((w.alloc (.cells #[.int .i64 d] 3)).alloc (.cells #[.slice none 0 0,.int .u64 0,.int .i64 0,.int .u64 0,.string ⟨#[]⟩,.string ⟨#[]⟩,.string ⟨#[]⟩] 54)).alloc (.cells #[.slice none 0 0,.int .u64 0,.int .i64 0,.int .u64 0,.string ⟨#[]⟩,.string ⟨#[]⟩,.string ⟨#[]⟩] 54)=W0:=⟨_,rfl⟩
 have HB0:Hid (Below w.heap.size w W0):=hid (by rw[←hW0];exact below_step (below_step (below_new _ _) (below_new _ _)) (below_new _ _));have h3:=new_three_c hg (.cells #[.int .i64 d] 3) (.cells #[.slice none 0 0,.int .u64 0,.int .i64 0,.int .u64 0,.string ⟨#[]⟩,.string ⟨#[]⟩,.string ⟨#[]⟩] 54) (.cells #[.slice none 0 0,.int .u64 0,.int .i64 0,.int .u64 0,.string ⟨#[]⟩,.string ⟨#[]⟩,.string ⟨#[]⟩] 54);rw[hW0] at h3;have HR0:=hid h3.2.1;have hcd:W0.cell? ⟨g,0,none⟩=some (.int .i64 d):=row_cell h3.1 (j:=0) rfl;have htk:(capT (exT (g+2)) g d).rel exF.z (fun k=>(k=g+2∨((Value.slice none 0 0).ownBlock=some k∨False))∨k=g) W0:=⟨_,⟨.slice none 0 0,_,h3.2.2,LsAt.nil _ _ _ _,rfl⟩,by simp[Value.ownBlock],h3.1,rfl⟩
 have HRD:Hid (Calls Tryz.prog 39 #[.string X,.int .i64 d,.func (.func 65) #[] #[],.func (.func 99) #[] #[.pointer (some ⟨g+2,0,none⟩),.pointer (some ⟨g,0,none⟩)]] W0 (ReadPost (capT (exT (g+2)) g d) exF.tk (exF.step d) exF.z (fun k=>(k=g+2∨((Value.slice none 0 0).ownBlock=some k∨False))∨k=g) X d W0)):=hid (by
  by_cases h0:d<0
  ·refine (mread_neg _ _ _ X d W0 h0).mono ?_
   rintro e w' ⟨v,rfl,hb,he⟩;refine ⟨Upd.of_new hb,?_⟩;have e6:mread (σ:=exS) exF.tk (exF.step d) exF.z X.data.toList d = .error 6:=by unfold mread;rw[if_pos h0]
   rw[e6];exact ⟨v,0,rfl,Nat.zero_le _,he⟩
  ·exact mread_any (capT (exT (g+2)) g d) exF.tk (exF.step d) 65 99 #[.pointer (some ⟨g+2,0,none⟩),.pointer (some ⟨g,0,none⟩)] exF.z X d W0 (by omega) HE1 HE2 (fun r w _=>extakes_any r w) (fun r st P w hk hr hraw hmem hpre h=>exclo_any (g+2) g d r (hid (fun h1=>hU.out r hmem h1)) st P w (by omega) hk (by have:=isrec_s hr;omega) (by
    obtain ⟨pre,h1,h2,h3⟩:=hpre;exact ex_len h1 h2 (by omega)) (hid h)) _ htk)
 have HW0:=hid hW0;have HGG:=hid hg;clear hW0 h3 htk HE1 HE2;go_enter Tryz.func75,Tryz.ntmps75;go_wp2_with fail;rw[HW0.out];go_wp2_with fail;refine HRD.out.mono ?_;intro e w1 hpost;obtain ⟨hu,hcase⟩:=hpost
 have hu1:Upd (fun k=>k=g+2∨k=g) W0 w1:=hu.mono (fun k _ h=>by
  rcases h with (h|h|h)|h
  ·exact .inl h
  ·simp[Value.ownBlock] at h
  ·exact h.elim
  ·exact .inr h)
 have HR1:Hid (w1.heap[g+1]? = some (.cells #[.slice none 0 0,.int .u64 0,.int .i64 0,.int .u64 0,.string ⟨#[]⟩,.string ⟨#[]⟩,.string ⟨#[]⟩] 54 (0,0))):=hid ((hu1.block (g+1) (row_lt HR0.out) (by omega)).trans HR0.out);have HB1:Hid (Below w.heap.size w w1):=hid (HB0.out.trans (hu1.below (by have:=HB0.out.size;omega) (fun k _ h=>by omega)));clear hu hu1 hcd HRD;have hz0:w1.cell? ⟨g+1,0,none⟩=some (.slice none 0 0):=row_cell HR1.out (j:=0) rfl;have fz0:w1.frozen? ⟨g+1,0,none⟩=false:=row_thaw HR1.out 0;have hz1:w1.cell? ⟨g+1,1,none⟩=some (.int .u64 0):=row_cell HR1.out (j:=1) rfl;have fz1:w1.frozen? ⟨g+1,1,none⟩=false:=row_thaw HR1.out 1;have hz2:w1.cell? ⟨g+1,2,none⟩=some (.int .i64 0):=row_cell HR1.out (j:=2) rfl;have fz2:w1.frozen? ⟨g+1,2,none⟩=false:=row_thaw HR1.out 2;have hz3:w1.cell? ⟨g+1,3,none⟩=some (.int .u64 0):=row_cell HR1.out (j:=3) rfl;have fz3:w1.frozen? ⟨g+1,3,none⟩=false:=row_thaw HR1.out 3;have hz4:w1.cell? ⟨g+1,4,none⟩=some (.string ⟨#[]⟩):=row_cell HR1.out (j:=4) rfl;have fz4:w1.frozen? ⟨g+1,4,none⟩=false:=row_thaw HR1.out 4;have hz5:w1.cell? ⟨g+1,5,none⟩=some (.string ⟨#[]⟩):=row_cell HR1.out (j:=5) rfl;have fz5:w1.frozen? ⟨g+1,5,none⟩=false:=row_thaw HR1.out 5;have hz6:w1.cell? ⟨g+1,6,none⟩=some (.string ⟨#[]⟩):=row_cell HR1.out (j:=6) rfl;have fz6:w1.frozen? ⟨g+1,6,none⟩=false:=row_thaw HR1.out 6
 cases hb:mread (σ:=exS) exF.tk (exF.step d) exF.z X.data.toList d with
 | error c =>
  rw[hb] at hcase;obtain ⟨v,q,rfl,hq,hew⟩:=hcase;obtain ⟨T',y,rfl⟩:=hew.iface;have HBR:Hid (exrd X.data.toList d = .error c):=hid hb;have HEW:=hid hew;clear hb hew;go_wp2_with fail;obtain ⟨hr,hua⟩:=ex_set HR1.out (.slice none 0 0) (.int .u64 0) (.int .i64 0) (.int .u64 0) (.string ⟨#[]⟩) (.string ⟨#[]⟩) (.string ⟨#[]⟩);refine body_cell2v rfl rfl (load_ex hr rfl) rfl ?_;refine ⟨HB1.out.trans (hua.below (by have:=HB1.out.size;omega) (fun k _ h=>by have h:k=g+1:=h;omega)),?_⟩;rw[HBR.out];obtain ⟨ws,he⟩:=HEW.out;exact ⟨_,q,rfl,hq,ws,isErr_upd hua (fun k hk b m e h=>by have hk:k=g+1:=hk;subst hk;rw[HR1.out] at h;simp at h) he⟩
 | ok xu =>
  obtain ⟨st,u⟩:=xu;rw[hb] at hcase;obtain ⟨rfl,P',⟨P0,⟨v,P1,h1,h2,rfl⟩,h3,h4,rfl⟩,hp⟩:=hcase;obtain ⟨t,⟨⟨⟨k,n⟩,⟨a,b⟩⟩,l⟩⟩:=st;have HBR:Hid (exrd X.data.toList d = .ok ((t,(((k,n),(a,b)),l)),u)):=hid hb;obtain ⟨css,Q,g2,g3,g4,g5,rfl⟩:=h2;obtain ⟨lo,lc,rfl⟩:=own_slice g2;have HRL:=hid (KRel_own g2 g3 (P:=fun k=>g+3≤k) (fun j a1 a2=>KRel.upd (Upd.refl (fun _=>False) w1) (fun _ _ h=>h) (fun k hk=>(g5 k hk).2.1) _ _ (g4 j a1 a2)) (fun k hk=>(g2.lt k hk).1));obtain ⟨Xu,hU⟩:∃ U:ByteArray,(⟨u.toArray⟩:ByteArray)=U:=⟨_,rfl⟩
  have HUU:=hid hU;rw[hU];obtain ⟨Xa,hXa⟩:∃ U:ByteArray,(⟨a.toArray⟩:ByteArray)=U:=⟨_,rfl⟩
  have HXa:=hid hXa;obtain ⟨Xb,hXb⟩:∃ U:ByteArray,(⟨b.toArray⟩:ByteArray)=U:=⟨_,rfl⟩
  have HXb:=hid hXb;have HX1:Hid (w1.heap[g+2]? = some (.cells #[.slice lo l.length lc,.int .u64 t,.int .i64 k,.int .u64 n,.string Xa,.string Xb,.string ⟨#[]⟩] 54 (0,0))):=hid (by rw[←hXa,←hXb];exact h1);have hx0:w1.cell? ⟨g+2,0,none⟩=some (.slice lo l.length lc):=row_cell HX1.out (j:=0) rfl;have hx1:w1.cell? ⟨g+2,1,none⟩=some (.int .u64 t):=row_cell HX1.out (j:=1) rfl;have hx2:w1.cell? ⟨g+2,2,none⟩=some (.int .i64 k):=row_cell HX1.out (j:=2) rfl;have hx3:w1.cell? ⟨g+2,3,none⟩=some (.int .u64 n):=row_cell HX1.out (j:=3) rfl;have hx4:w1.cell? ⟨g+2,4,none⟩=some (.string Xa):=row_cell HX1.out (j:=4) rfl;have hx5:w1.cell? ⟨g+2,5,none⟩=some (.string Xb):=row_cell HX1.out (j:=5) rfl;have hx6:w1.cell? ⟨g+2,6,none⟩=some (.string ⟨#[]⟩):=row_cell HX1.out (j:=6) rfl;have hfx:w1.frozen? ⟨g+2,6,none⟩=false:=row_thaw HX1.out 6;clear hb h1 g2 g3 g4 g5 h3 h4 hp hU hXa hXb;go_wp2_with fail;have hux:=Upd.set w1 ⟨g+2,6,none⟩ (.string Xu);obtain ⟨hr,hua⟩:=ex_set ((hux.block (g+1) (row_lt HR1.out) (fun e=>by have e:g+1=g+2:=e;omega)).trans HR1.out) (.slice lo l.length lc) (.int .u64 t) (.int .i64 k) (.int .u64 n) (.string Xa) (.string Xb) (.string Xu);refine body_cell2v rfl rfl (load_ex hr rfl) rfl ?_;have hub:=(hux.mono (S':=fun k=>k=g+1∨k=g+2) fun k _ h => .inr h).trans (hua.mono fun k _ h => .inl h);refine ⟨HB1.out.trans (hub.below (by have:=HB1.out.size;omega) (fun k _ h=>by omega)),?_⟩;rw[HBR.out];refine ⟨[.slice lo l.length lc,.int .u64 t,.int .i64 k,.int .u64 n,.string Xa,.string Xb,.string Xu],rfl,lo,lc,?_,KRels.upd hub (fun k hk e=>by omega) (fun k hk=>by omega) _ _ _ HRL.out⟩;rw[←HUU.out,←HXa.out,←HXb.out];rfl
end Go.Proofs.YtficgfemmijaaaaGreat
