/-
  exem.take, takes, Unmarshal: any text.
-/
import Derived.Test.YtmlghmjjlpioeaaGreatDoorXpBack
set_option maxRecDepth 1000000
set_option maxHeartbeats 16000000
namespace Go.Proofs.YtmlghmjjlpioeaaGreatDoor
open Go.RowKit
open Lib (hid)
theorem z51 {σ α:Type}{C:Cel α}{T T0:TypeId}{row:σ->Value->Array Value}{ls:σ->List α}{bx:Nat}{st st':σ}{v:Value}{P1:Nat->Prop}{w:World}(o o2:Nat)(u u2:Value)(h1:w.heap[bx]?=some (.cells (row st v) T0 (0,0)))(h2:LsAt C T (bx+1) v (ls st) P1 w)(hr:((row st v).setIfInBounds o u).setIfInBounds o2 u2=row st' v)(hl:ls st'=ls st) :
  (rowT C T T0 row ls bx).rel st' (fun k=>k=bx∨P1 k) ((w.setCell ⟨bx,o,none⟩ u).setCell ⟨bx,o2,none⟩ u2)/\Upd (fun k=>k=bx) w ((w.setCell ⟨bx,o,none⟩ u).setCell ⟨bx,o2,none⟩ u2):=by
 have hu:=(Upd.set w ⟨bx,o,none⟩ u).trans (Upd.set _ ⟨bx,o2,none⟩ u2);refine⟨⟨v,P1,hr ▸ ze (ze h1 o u) o2 u2,?_,rfl⟩,hu⟩;rw[hl];exact h2.kept (hu.mono fun k _ h h'=>by have h:k=bx:=h;have:=(h2.lt k h').1;omega)
abbrev exS:Type:=Nat × ((Int × Nat) × List UInt8 × List UInt8) × List KV
def X2:exS->Value->Array Value
 | (t,(((k,n),(a,b)),_)),v=>#[v,.int .u64 t,.int .i64 k,.int .u64 n,strV a,strV b,.string ⟨#[]⟩]
def exT (bx:Nat):j5 exS:=rowT kcel 55 96 X2 (fun st=>st.2.2) bx
theorem zb5 (bx:Nat)(D:Int)(r:Rec)(hU:Hid (r.num=7->UKey))(st:exS)(P:Nat->Prop)(w:World)(hD:-9223372036854775807<=D/\D<=9223372036854775807)(hk:exF.tk r=true)(hs:r.s.length<=1000000)(hl:st.2.2.length<=1000000)(h:Hid ((exT bx).rel st P w)) :
  Calls Tryz.prog 105 #[.pointer (some ⟨bx,0,none⟩),recV r,.int .i64 (D-1)] w (xx (exT bx) (exF.step D) st P r w):=by
 obtain⟨v,P1,h1,h2,rfl⟩:=h.out;obtain⟨t,⟨⟨⟨k,n⟩,⟨a,b⟩⟩,l⟩⟩:=st;have H1:=hid h1;have H2:=hid h2;clear h h1 h2;obtain⟨X,hX⟩:∃X:ByteArray,(⟨r.s.toArray⟩:ByteArray)=X:=⟨_,rfl⟩
 have hXs:X.size<=1000000:=by rw[<-hX];simp[ByteArray.size];omega
 have HXD:Hid (X.data.toList=r.s):=hid (by rw[<-hX]);have HX:Hid ((⟨r.s.toArray⟩:ByteArray)=X):=hid hX;obtain⟨rb,hrb⟩:=nmd (w.heap.size)
 obtain⟨W0,hW0⟩:=nmd (w.alloc (.cells #[.int .i64 r.num,.int .i64 r.ty,.int .u64 r.n,.string X,.string ⟨r.raw.toArray⟩] 78))
 have HU0:Hid (Upd (fun _=>False) w W0):=hid (by rw[<-hW0];exact Upd.alloc _ _ _);have HR0:Hid (W0.heap[rb]?=some (.cells #[.int .i64 r.num,.int .i64 r.ty,.int .u64 r.n,.string X,.string ⟨r.raw.toArray⟩] 78 (0,0))):=hid (by rw[<-hW0,<-hrb];exact heap_alloc_new _ _);have H10:Hid (W0.heap[bx]?=some (.cells (X2 (t,(((k,n),(a,b)),l)) v) 96 (0,0))):=hid ((HU0.out.block bx (z8 H1.out) (fun h=>h)).trans H1.out);have H20:Hid (LsAt kcel 55 (bx+1) v l P1 W0):=hid (H2.out.kept (HU0.out.mono fun _ _ h=>h.elim));have HW0:=hid hW0;have HRB:=hid hrb;have hsz:=HU0.out.size;have hbx:=z8 H1.out;have hn0:=rc0 HR0.out;rw[z3l,decide_eq_true_eq]at hk;have HKN:=hid hk;unfold recV;rw[hX];rw[<-hW0,<-hrb]at hn0;clear hX hW0
 by_cases hN2:r.num=2
 ·have hty:r.num=2/\r.ty=1:=by omega
  have HSE:=hid (exF_2 hty D t k n a b l);have d2:((r.num:Int) == 2)=true:=by rw[beq_iff_eq];omega
  have hc1:W0.cell? ⟨bx,1,none⟩=some (.int .u64 t):=za H10.out (j:=1) rfl;have hf1:=z7 H10.out 1;have HP:=hid (z22 (C:=kcel) (T:=55) (row:=X2) (ls:=fun st:exS=>st.2.2) (st:=(t,(((k,n),(a,b)),l))) (st':=(r.n,(((k,n),(a,b)),l))) 1 (.int .u64 r.n) H10.out H20.out (rfl) rfl);rw[<-HW0.out]at hc1 hf1;clear hty hk HKN hN2;go_enter Tryz.func105,Tryz.ntmps105;go_wp2_with fail;rw[HW0.out];go_ret;exact x5 HSE.out ((HU0.out.mono fun _ _ h=>h.elim).trans (HP.out.2.mono fun k _ h => .inl h)) HP.out.1 (fun k hk => .inl hk)
 by_cases hN6:r.num=6
 ·have hty:r.num=6/\r.ty=1:=by omega
  have HSE:=hid (exF_6 hty D t k n a b l);have d2:((r.num:Int) == 2)=false:=ibf (by omega)
  have d6:((r.num:Int) == 6)=true:=by rw[beq_iff_eq];omega
  clear hty hk HKN hN6;go_enter Tryz.func105,Tryz.ntmps105;go_wp2_with fail;rw[HW0.out];go_upto_region 11 with fail
  all_goals
   obtain⟨D0,hD0⟩:=nmd (W0.drew)
   have hB0:Below W0.heap.size W0 D0:=by rw[<-hD0];exact(Below.refl _ _).drew
   have hS:(fun w':World=>w'.heap[rb]?=some (.cells #[.int .i64 r.num,.int .i64 r.ty,.int .u64 r.n,.string X,.string ⟨r.raw.toArray⟩] 78 (0,0))) D0:=(hB0.block _ (z8 HR0.out)).trans HR0.out;have hne:Nonempty {w':World // (fun w':World=>w'.heap[rb]?=some (.cells #[.int .i64 r.num,.int .i64 r.ty,.int .u64 r.n,.string X,.string ⟨r.raw.toArray⟩] 78 (0,0))) w'}:=⟨⟨_,hS⟩⟩
   have hx:D0.heap[bx]?=some (.cells (X2 (t,(((k,n),(a,b)),l)) v) 96 (0,0)):=(hB0.block _ (z8 H10.out)).trans H10.out;have hset:=z51 (C:=kcel) (T:=55) (row:=X2) (ls:=fun st:exS=>st.2.2) (st:=(t,(((k,n),(a,b)),l))) (st':=(t,(((2,r.n),(a,b)),l))) 2 3 (.int .i64 2) (.int .u64 r.n) hx (H20.out.kept ((Upd.of_new (S:=fun _=>False) hB0).mono fun _ _ h=>h.elim)) rfl rfl;have hS1:(fun w':World=>w'.heap[rb]?=some (.cells #[.int .i64 r.num,.int .i64 r.ty,.int .u64 r.n,.string X,.string ⟨r.raw.toArray⟩] 78 (0,0))) (D0.setCell ⟨bx,2,none⟩ (.int .i64 2)):=((Upd.set D0 ⟨bx,2,none⟩ (.int .i64 2)).block rb (z8 hS) (fun e=>by have e:rb=bx:=e;omega)).trans hS;have hS2:(fun w':World=>w'.heap[rb]?=some (.cells #[.int .i64 r.num,.int .i64 r.ty,.int .u64 r.n,.string X,.string ⟨r.raw.toArray⟩] 78 (0,0))) ((D0.setCell ⟨bx,2,none⟩ (.int .i64 2)).setCell ⟨bx,3,none⟩ (.int .u64 r.n)):=((Upd.set _ ⟨bx,3,none⟩ (.int .u64 r.n)).block rb (z8 hS1) (fun e=>by have e:rb=bx:=e;omega)).trans hS1;have HSET:=hid hset;have hc1:D0.cell? ⟨bx,2,none⟩=some (.int .i64 k):=za hx (j:=2) rfl;have hf1:=z7 hx 2;have hx1:=ze hx 2 (.int .i64 2);have hc2:(D0.setCell ⟨bx,2,none⟩ (.int .i64 2)).cell? ⟨bx,3,none⟩=some (.int .u64 n):=za hx1 (j:=3) rfl;have hf2:(D0.setCell ⟨bx,2,none⟩ (.int .i64 2)).frozen? ⟨bx,3,none⟩=false:=z7 hx1 3;clear hset hx hx1;refine zj (S:=fun w':World=>w'.heap[rb]?=some (.cells #[.int .i64 r.num,.int .i64 r.ty,.int .u64 r.n,.string X,.string ⟨r.raw.toArray⟩] 78 (0,0))) [(0,true),(1,true),(2,true),(3,true),(4,true),(5,true),(6,true),(7,false),(8,true),(9,true),(10,false)] (by kernel_rfl) (by kernel_rfl) (by kernel_rfl) (by kernel_rfl) (by rw[hD0];exact hS) ?_;rw[hD0]
   iterate 4 (refine zf _ rfl (fun KC hK=>?_);go_simp;(first|refine hK _ ?_|refine⟨_,fun _ _=>rfl,hK _ ?_⟩);clear hK KC)
   refine zf _ rfl (fun KC hK=>?_);go_simp;refine⟨.int .u64 r.n,fun a ha=>by rw[za ha (j:=2) rfl];rfl,hK _ ?_⟩;clear hK KC
   iterate 2 (refine zf _ rfl (fun KC hK=>?_);go_simp;(first|refine hK _ ?_|refine⟨_,fun _ _=>rfl,hK _ ?_⟩);clear hK KC)
   refine zo _ rfl (fun KC hK=>?_);go_simp;refine hK.out _ _ hS1 ?_;clear hK KC
   iterate 2 (refine zf _ rfl (fun KC hK=>?_);go_simp;(first|refine hK _ ?_|refine⟨_,fun _ _=>rfl,hK _ ?_⟩);clear hK KC)
   refine zo _ rfl (fun KC hK=>?_);go_simp;refine hK.out _ _ hS2 ?_;clear hK KC;refine zw ?_;go_wp2_with fail;go_ret;exact x5 HSE.out (((HU0.out.mono fun _ _ h=>h.elim).trans (Upd.of_new hB0)).trans (HSET.out.2.mono fun k _ h => .inl h)) HSET.out.1 (fun k hk => .inl hk)
 by_cases hN3:r.num=3
 ·have hty:r.num=3/\r.ty=1:=by omega
  have HSE:=hid (exF_3 hty D t k n a b l);have d2:((r.num:Int) == 2)=false:=ibf (by omega)
  have d6:((r.num:Int) == 6)=false:=ibf (by omega)
  have d3:((r.num:Int) == 3)=true:=by rw[beq_iff_eq];omega
  clear hty hk HKN hN3;go_enter Tryz.func105,Tryz.ntmps105;go_wp2_with fail;rw[HW0.out];go_upto_region 11 with fail
  all_goals
   obtain⟨D0,hD0⟩:=nmd (W0.drew)
   have hB0:Below W0.heap.size W0 D0:=by rw[<-hD0];exact(Below.refl _ _).drew
   have hS:(fun w':World=>w'.heap[rb]?=some (.cells #[.int .i64 r.num,.int .i64 r.ty,.int .u64 r.n,.string X,.string ⟨r.raw.toArray⟩] 78 (0,0))) D0:=(hB0.block _ (z8 HR0.out)).trans HR0.out;have hne:Nonempty {w':World // (fun w':World=>w'.heap[rb]?=some (.cells #[.int .i64 r.num,.int .i64 r.ty,.int .u64 r.n,.string X,.string ⟨r.raw.toArray⟩] 78 (0,0))) w'}:=⟨⟨_,hS⟩⟩
   have hx:D0.heap[bx]?=some (.cells (X2 (t,(((k,n),(a,b)),l)) v) 96 (0,0)):=(hB0.block _ (z8 H10.out)).trans H10.out;have hset:=z51 (C:=kcel) (T:=55) (row:=X2) (ls:=fun st:exS=>st.2.2) (st:=(t,(((k,n),(a,b)),l))) (st':=(t,(((1,r.n),(a,b)),l))) 2 3 (.int .i64 1) (.int .u64 r.n) hx (H20.out.kept ((Upd.of_new (S:=fun _=>False) hB0).mono fun _ _ h=>h.elim)) rfl rfl;have hS1:(fun w':World=>w'.heap[rb]?=some (.cells #[.int .i64 r.num,.int .i64 r.ty,.int .u64 r.n,.string X,.string ⟨r.raw.toArray⟩] 78 (0,0))) (D0.setCell ⟨bx,2,none⟩ (.int .i64 1)):=((Upd.set D0 ⟨bx,2,none⟩ (.int .i64 1)).block rb (z8 hS) (fun e=>by have e:rb=bx:=e;omega)).trans hS;have hS2:(fun w':World=>w'.heap[rb]?=some (.cells #[.int .i64 r.num,.int .i64 r.ty,.int .u64 r.n,.string X,.string ⟨r.raw.toArray⟩] 78 (0,0))) ((D0.setCell ⟨bx,2,none⟩ (.int .i64 1)).setCell ⟨bx,3,none⟩ (.int .u64 r.n)):=((Upd.set _ ⟨bx,3,none⟩ (.int .u64 r.n)).block rb (z8 hS1) (fun e=>by have e:rb=bx:=e;omega)).trans hS1;have HSET:=hid hset;have hc1:D0.cell? ⟨bx,2,none⟩=some (.int .i64 k):=za hx (j:=2) rfl;have hf1:=z7 hx 2;have hx1:=ze hx 2 (.int .i64 1);have hc2:(D0.setCell ⟨bx,2,none⟩ (.int .i64 1)).cell? ⟨bx,3,none⟩=some (.int .u64 n):=za hx1 (j:=3) rfl;have hf2:(D0.setCell ⟨bx,2,none⟩ (.int .i64 1)).frozen? ⟨bx,3,none⟩=false:=z7 hx1 3;clear hset hx hx1;refine zj (S:=fun w':World=>w'.heap[rb]?=some (.cells #[.int .i64 r.num,.int .i64 r.ty,.int .u64 r.n,.string X,.string ⟨r.raw.toArray⟩] 78 (0,0))) [(0,true),(1,true),(2,true),(3,true),(4,true),(5,true),(6,true),(7,false),(8,true),(9,true),(10,false)] (by kernel_rfl) (by kernel_rfl) (by kernel_rfl) (by kernel_rfl) (by rw[hD0];exact hS) ?_;rw[hD0]
   iterate 4 (refine zf _ rfl (fun KC hK=>?_);go_simp;(first|refine hK _ ?_|refine⟨_,fun _ _=>rfl,hK _ ?_⟩);clear hK KC)
   refine zf _ rfl (fun KC hK=>?_);go_simp;refine⟨.int .u64 r.n,fun a ha=>by rw[za ha (j:=2) rfl];rfl,hK _ ?_⟩;clear hK KC
   iterate 2 (refine zf _ rfl (fun KC hK=>?_);go_simp;(first|refine hK _ ?_|refine⟨_,fun _ _=>rfl,hK _ ?_⟩);clear hK KC)
   refine zo _ rfl (fun KC hK=>?_);go_simp;refine hK.out _ _ hS1 ?_;clear hK KC
   iterate 2 (refine zf _ rfl (fun KC hK=>?_);go_simp;(first|refine hK _ ?_|refine⟨_,fun _ _=>rfl,hK _ ?_⟩);clear hK KC)
   refine zo _ rfl (fun KC hK=>?_);go_simp;refine hK.out _ _ hS2 ?_;clear hK KC;refine zw ?_;go_wp2_with fail;go_ret;exact x5 HSE.out (((HU0.out.mono fun _ _ h=>h.elim).trans (Upd.of_new hB0)).trans (HSET.out.2.mono fun k _ h => .inl h)) HSET.out.1 (fun k hk => .inl hk)
 by_cases hN4:r.num=4
 ·have hty:r.num=4/\r.ty=2:=by omega
  have HSE:=hid (exF_4 hty D t k n a b l);have d2:((r.num:Int) == 2)=false:=ibf (by omega)
  have d6:((r.num:Int) == 6)=false:=ibf (by omega)
  have d3:((r.num:Int) == 3)=false:=ibf (by omega)
  have d4:((r.num:Int) == 4)=true:=by rw[beq_iff_eq];omega
  have hc4:W0.cell? ⟨bx,4,none⟩=some (strV a):=za H10.out (j:=4) rfl;have hf4:=z7 H10.out 4;have HP:=hid (z22 (C:=kcel) (T:=55) (row:=X2) (ls:=fun st:exS=>st.2.2) (st:=(t,(((k,n),(a,b)),l))) (st':=(t,(((k,n),(r.s,b)),l))) 4 (.string X) H10.out H20.out (by rw[<-HX.out];rfl) rfl);rw[<-HW0.out]at hc4 hf4;clear hty hk HKN hN4;go_enter Tryz.func105,Tryz.ntmps105;go_wp2_with fail;rw[HW0.out];go_ret;exact x5 HSE.out ((HU0.out.mono fun _ _ h=>h.elim).trans (HP.out.2.mono fun k _ h => .inl h)) HP.out.1 (fun k hk => .inl hk)
 by_cases hN5:r.num=5
 ·have hty:r.num=5/\r.ty=2:=by omega
  have HSE:=hid (exF_5 hty D t k n a b l);have d2:((r.num:Int) == 2)=false:=ibf (by omega)
  have d6:((r.num:Int) == 6)=false:=ibf (by omega)
  have d3:((r.num:Int) == 3)=false:=ibf (by omega)
  have d4:((r.num:Int) == 4)=false:=ibf (by omega)
  have d5:((r.num:Int) == 5)=true:=by rw[beq_iff_eq];omega
  have hc5:W0.cell? ⟨bx,5,none⟩=some (strV b):=za H10.out (j:=5) rfl;have hf5:=z7 H10.out 5;have HP:=hid (z22 (C:=kcel) (T:=55) (row:=X2) (ls:=fun st:exS=>st.2.2) (st:=(t,(((k,n),(a,b)),l))) (st':=(t,(((k,n),(a,r.s)),l))) 5 (.string X) H10.out H20.out (by rw[<-HX.out];rfl) rfl);rw[<-HW0.out]at hc5 hf5;clear hty hk HKN hN5;go_enter Tryz.func105,Tryz.ntmps105;go_wp2_with fail;rw[HW0.out];go_ret;exact x5 HSE.out ((HU0.out.mono fun _ _ h=>h.elim).trans (HP.out.2.mono fun k _ h => .inl h)) HP.out.1 (fun k hk => .inl hk)
 have hty:r.num=7/\r.ty=2:=by omega
 have HSE:=hid (exF_7 hty D t k n a b l);have HUK:=hid (hU.out hty.1);have d2:((r.num:Int) == 2)=false:=ibf (by omega)
 have d6:((r.num:Int) == 6)=false:=ibf (by omega)
 have d3:((r.num:Int) == 3)=false:=ibf (by omega)
 have d4:((r.num:Int) == 4)=false:=ibf (by omega)
 have d5:((r.num:Int) == 5)=false:=ibf (by omega)
 have d7:((r.num:Int) == 7)=true:=by rw[beq_iff_eq];omega
 clear hty hk HKN;go_enter Tryz.func105,Tryz.ntmps105;go_wp2_with fail;rw[HW0.out];go_upto_region 14 with fail
 all_goals
  obtain⟨D0,hD0⟩:=nmd (W0.drew)
  have hB0:Below W0.heap.size W0 D0:=by rw[<-hD0];exact(Below.refl _ _).drew
  have hS:(fun w':World=>w'.heap[rb]?=some (.cells #[.int .i64 r.num,.int .i64 r.ty,.int .u64 r.n,.string X,.string ⟨r.raw.toArray⟩] 78 (0,0))) D0:=(hB0.block _ (z8 HR0.out)).trans HR0.out;have hne:Nonempty {w':World // (fun w':World=>w'.heap[rb]?=some (.cells #[.int .i64 r.num,.int .i64 r.ty,.int .u64 r.n,.string X,.string ⟨r.raw.toArray⟩] 78 (0,0))) w'}:=⟨⟨_,hS⟩⟩
  refine zj (S:=fun w':World=>w'.heap[rb]?=some (.cells #[.int .i64 r.num,.int .i64 r.ty,.int .u64 r.n,.string X,.string ⟨r.raw.toArray⟩] 78 (0,0))) [(0,true),(1,true),(2,true),(3,true),(4,true),(5,true),(6,false),(7,true)] (by kernel_rfl) (by kernel_rfl) (by kernel_rfl) (by kernel_rfl) (by rw[hD0];exact hS) ?_;rw[hD0]
  iterate 4 (refine zf _ rfl (fun KC hK=>?_);go_simp;(first|refine hK _ ?_|refine⟨_,fun _ _=>rfl,hK _ ?_⟩);clear hK KC)
  refine zf _ rfl (fun KC hK=>?_);go_simp;refine⟨.string X,fun a ha=>by rw[za ha (j:=3) rfl];rfl,hK _ ?_⟩;clear hK KC
  (refine zf _ rfl (fun KC hK=>?_);go_simp;(first|refine hK _ ?_|refine⟨_,fun _ _=>rfl,hK _ ?_⟩);clear hK KC)
  have HA:=hid (z2b bx 0 (bx+1) (X2 (t,(((k,n),(a,b)),l)) v) 96 v l P1 57 X (D-1) (zm 1000001 r.s (D-1)) D0 (enters_of Tryz.func57 (by kernel_rfl) rfl) (hid ((hB0.block _ (z8 H10.out)).trans H10.out)) rfl ⟨by omega,by have:=hB0.size;omega⟩ (hid (H20.out.kept ((Upd.of_new (S:=fun _=>False) hB0).mono fun _ _ h=>h.elim))) hl (hid (fun w'=>by have:=HUK.out X (D-1) w' hXs (by omega);rwa [HXD.out]at this)));refine zo _ rfl (fun KC hK=>?_);go_simp;refine HA.out.mono ?_;intro e w1 hpost
  have hS1:(fun w':World=>w'.heap[rb]?=some (.cells #[.int .i64 r.num,.int .i64 r.ty,.int .u64 r.n,.string X,.string ⟨r.raw.toArray⟩] 78 (0,0))) w1:=(hpost.1.block rb (z8 hS) (fun e=>by
   rcases e with e|e
   ·omega
   ·have:=(H2.out.lt rb e).2;have:=HRB.out;omega)).trans hS
  cases hrd:zm 1000001 r.s (D-1)with
  | error c =>
   rw[hrd]at hpost HSE;obtain⟨hu1,y,rfl,hec⟩:=hpost;obtain⟨T',z,rfl⟩:=hec.iface;go_simp;refine hK.out _ _ hS1 ?_;clear hK KC
   (refine zf _ rfl (fun KC hK=>?_);go_simp;(first|refine hK _ ?_|refine⟨_,fun _ _=>rfl,hK _ ?_⟩);clear hK KC)
   refine zw ?_;go_wp2_with fail;go_ret;exact Zx HSE.out (((HU0.out.mono fun _ _ h=>h.elim).trans (Upd.of_new hB0)).trans hu1) hec
  | ok x =>
   rw[hrd]at hpost HSE;obtain⟨rfl,hu,P',hr,hp⟩:=zf0 (ls:=fun st:exS=>st.2.2) (st:=(t,(((k,n),(a,b)),l))) (st':=(t,(((k,n),(a,b)),l++[x]))) hpost (fun v'=>rfl) rfl;go_simp;refine hK.out _ _ hS1 ?_;clear hK KC
   (refine zf _ rfl (fun KC hK=>?_);go_simp;(first|refine hK _ ?_|refine⟨_,fun _ _=>rfl,hK _ ?_⟩);clear hK KC)
   refine zw ?_;have HU:=hid hu;have HRL:=hid hr;have HP:=hid hp;clear hu hr hp hpost hrd;go_wp2_with fail;go_ret;exact x5 HSE.out (((HU0.out.mono fun _ _ h=>h.elim).trans (Upd.of_new hB0)).trans HU.out) HRL.out (fun k hk=>(HP.out k hk).imp id (fun h=>Nat.le_trans (Nat.le_trans hsz hB0.size) h))
theorem zcv (bx bd:Nat)(D:Int)(r:Rec)(hU:Hid (r.num=7->UKey))(st:exS)(P:Nat->Prop)(w:World)(hD:-9223372036854775807<=D/\D<=9223372036854775807)(hk:exF.tk r=true)(hs:r.s.length<=1000000)(hl:st.2.2.length<=1000000)(h:Hid ((capT (exT bx) bd D).rel st P w)) :
  Calls Tryz.prog 104 #[recV r,.pointer (some ⟨bx,0,none⟩),.pointer (some ⟨bd,0,none⟩)] w (xx (capT (exT bx) bd D) (exF.step D) st P r w):=by
 obtain⟨P0,hr,hn,hb,rfl⟩:=h.out;refine Calls.mono ?_ (fun e w' hp=>z4l hp hn hb);have HR:=hid hr;have HB:=hid hb;clear h hr hb;obtain⟨X,hX⟩:∃X:ByteArray,(⟨r.s.toArray⟩:ByteArray)=X:=⟨_,rfl⟩
 have HX:Hid ((⟨r.s.toArray⟩:ByteArray)=X):=hid hX;obtain⟨rb,hrb⟩:=nmd (w.heap.size)
 obtain⟨W0,hW0⟩:=nmd (w.alloc (.cells #[.int .i64 r.num,.int .i64 r.ty,.int .u64 r.n,.string X,.string ⟨r.raw.toArray⟩] 78))
 have HB0:Hid (Below w.heap.size w W0):=hid (by rw[<-hW0];exact zd _ _);have HR0:Hid (W0.heap[rb]?=some (.cells #[.int .i64 r.num,.int .i64 r.ty,.int .u64 r.n,.string X,.string ⟨r.raw.toArray⟩] 78 (0,0))):=hid (by rw[<-hW0,<-hrb];exact heap_alloc_new _ _);have HW0:=hid hW0;have HRB:=hid hrb;have q1:IntKind.i64.wrap (D-1)=D-1:=IntWalk.i64_in _ (by omega);unfold recV;rw[hX];clear hX hW0;go_enter Tryz.func104,Tryz.ntmps104;go_wp2_with fail;rw[HW0.out];go_upto_region 1 with fail
 all_goals
  obtain⟨D0,hD0⟩:=nmd (W0.drew)
  have hB0:Below W0.heap.size W0 D0:=by rw[<-hD0];exact(Below.refl _ _).drew
  have HBD:=hid (zb HB0.out hB0);have hS:R2 rb #[.int .i64 r.num,.int .i64 r.ty,.int .u64 r.n,.string X,.string ⟨r.raw.toArray⟩] 78 bd #[.int .i64 D] 3 D0:=⟨(hB0.block _ (z8 HR0.out)).trans HR0.out,(HBD.out.block _ (z8 HB.out)).trans HB.out⟩
  have hne:Nonempty {w':World // R2 rb #[.int .i64 r.num,.int .i64 r.ty,.int .u64 r.n,.string X,.string ⟨r.raw.toArray⟩] 78 bd #[.int .i64 D] 3 w'}:=⟨⟨_,hS⟩⟩
  refine zj (S:=R2 rb #[.int .i64 r.num,.int .i64 r.ty,.int .u64 r.n,.string X,.string ⟨r.raw.toArray⟩] 78 bd #[.int .i64 D] 3) [(0,true),(1,true),(2,true),(3,true),(4,true),(5,false),(6,false),(7,true)] (by kernel_rfl) (by kernel_rfl) (by kernel_rfl) (by kernel_rfl) (by rw[hD0];exact hS) ?_;rw[hD0]
  (refine zf _ rfl (fun KC hK=>?_);go_simp;(first|refine hK _ ?_|refine⟨_,fun _ _=>rfl,hK _ ?_⟩);clear hK KC)
  refine zf _ rfl (fun KC hK=>?_);go_simp;refine⟨.int .i64 r.num,fun a ha=>by rw[za ha.1 (j:=0) rfl];rfl,hK _ ?_⟩;clear hK KC;refine zf _ rfl (fun KC hK=>?_);go_simp;refine⟨.agg #[.int .i64 r.num,.int .i64 r.ty,.int .u64 r.n,.string X,.string ⟨r.raw.toArray⟩],fun a ha=>by(have e0:=za ha.1 (j:=0) rfl;have e1:=za ha.1 (j:=1) rfl;have e2:=za ha.1 (j:=2) rfl;have e3:=za ha.1 (j:=3) rfl;have e4:=za ha.1 (j:=4) rfl);simp only[e0,e1,e2,e3,e4,Result.andThen];rfl,hK _ ?_⟩;clear hK KC;refine zf _ rfl (fun KC hK=>?_);go_simp;refine⟨.int .i64 D,fun a ha=>by rw[za ha.2 (j:=0) rfl];rfl,hK _ ?_⟩;clear hK KC
  (refine zf _ rfl (fun KC hK=>?_);go_simp;(first|refine hK _ ?_|refine⟨_,fun _ _=>rfl,hK _ ?_⟩);clear hK KC)
  have HT:=hid (zb5 bx D r hU st P0 D0 hD hk hs hl (hid ((exT bx).kept _ _ _ _ HR.out (Upd.of_new HBD.out))));unfold recV at HT
  rw[HX.out]at HT;refine zo _ rfl (fun KC hK=>?_);go_simp;refine HT.out.mono ?_;rintro e w1 ⟨hu,hcase⟩;have hlt:=(exT bx).lt _ _ _ HR.out;have hS1:R2 rb #[.int .i64 r.num,.int .i64 r.ty,.int .u64 r.n,.string X,.string ⟨r.raw.toArray⟩] 78 bd #[.int .i64 D] 3 w1:=⟨(hu.block rb (z8 hS.1) (fun e=>by have:=hlt rb e;have:=HRB.out;omega)).trans hS.1,(hu.block bd (z8 hS.2) hn).trans hS.2⟩
  cases hst:exF.step D st r with
  | error c =>
   rw[hst]at hcase;obtain⟨y,rfl,hec⟩:=hcase;obtain⟨T',z,rfl⟩:=hec.iface;have HEC:=hid hec;have HU:=hid hu;clear hec hu hlt;go_simp;refine hK.out _ _ hS1 ?_;clear hK KC;refine zo _ rfl (fun KC hK=>?_);go_simp;refine(Zs _ _ _ _).mono ?_;rintro e w' ⟨rfl,rfl⟩;go_simp;refine hK.out _ _ (hS1.below (zd _ _)) ?_;clear hK KC
   (refine zf _ rfl (fun KC hK=>?_);go_simp;(first|refine hK _ ?_|refine⟨_,fun _ _=>rfl,hK _ ?_⟩);clear hK KC)
   refine zw ?_;go_wp2_with fail;go_ret;exact Zx hst (((Upd.of_new HBD.out).trans HU.out).trans (Upd.alloc _ _ _)) (kt HEC.out)
  | ok st' =>
   rw[hst]at hcase;obtain⟨rfl,P',hr,hp⟩:=hcase;have HRL:=hid hr;have HP:=hid hp;have HU:=hid hu;clear hr hp hu hlt;go_simp;refine hK.out _ _ hS1 ?_;clear hK KC;refine zo _ rfl (fun KC hK=>?_);go_simp;refine(Xe _ _).mono ?_;rintro e w' ⟨rfl,rfl⟩;go_simp;refine hK.out _ _ hS1 ?_;clear hK KC
   (refine zf _ rfl (fun KC hK=>?_);go_simp;(first|refine hK _ ?_|refine⟨_,fun _ _=>rfl,hK _ ?_⟩);clear hK KC)
   refine zw ?_;go_wp2_with fail;go_ret;exact x5 hst ((Upd.of_new HBD.out).trans HU.out) HRL.out (fun k hk=>(HP.out k hk).imp id (fun h=>Nat.le_trans HBD.out.size h))
theorem z06 {w:World}{g:Nat}{T:TypeId}{z0 z1 z2 z3 z4 z5 z6:Value}(h:w.heap[g]?=some (.cells #[z0,z1,z2,z3,z4,z5,z6] T (0,0)))(c0 c1 c2 c3 c4 c5 c6:Value):(((((((w.setCell ⟨g,0,none⟩ c0).setCell ⟨g,1,none⟩ c1).setCell ⟨g,2,none⟩ c2).setCell ⟨g,3,none⟩ c3).setCell ⟨g,4,none⟩ c4).setCell ⟨g,5,none⟩ c5).setCell ⟨g,6,none⟩ c6).heap[g]?=some (.cells #[c0,c1,c2,c3,c4,c5,c6] T (0,0))/\Upd (fun k=>k=g) w (((((((w.setCell ⟨g,0,none⟩ c0).setCell ⟨g,1,none⟩ c1).setCell ⟨g,2,none⟩ c2).setCell ⟨g,3,none⟩ c3).setCell ⟨g,4,none⟩ c4).setCell ⟨g,5,none⟩ c5).setCell ⟨g,6,none⟩ c6):=by
 have r0:(w.setCell ⟨g,0,none⟩ c0).heap[g]?=some (.cells #[c0,z1,z2,z3,z4,z5,z6] T (0,0)):=ze h 0 c0;have u0:Upd (fun k=>k=g) w (w.setCell ⟨g,0,none⟩ c0):=Upd.set w ⟨g,0,none⟩ c0;have r1:((w.setCell ⟨g,0,none⟩ c0).setCell ⟨g,1,none⟩ c1).heap[g]?=some (.cells #[c0,c1,z2,z3,z4,z5,z6] T (0,0)):=ze r0 1 c1;have u1:Upd (fun k=>k=g) w ((w.setCell ⟨g,0,none⟩ c0).setCell ⟨g,1,none⟩ c1):=u0.trans (Upd.set (w.setCell ⟨g,0,none⟩ c0) ⟨g,1,none⟩ c1);have r2:(((w.setCell ⟨g,0,none⟩ c0).setCell ⟨g,1,none⟩ c1).setCell ⟨g,2,none⟩ c2).heap[g]?=some (.cells #[c0,c1,c2,z3,z4,z5,z6] T (0,0)):=ze r1 2 c2;have u2:Upd (fun k=>k=g) w (((w.setCell ⟨g,0,none⟩ c0).setCell ⟨g,1,none⟩ c1).setCell ⟨g,2,none⟩ c2):=u1.trans (Upd.set ((w.setCell ⟨g,0,none⟩ c0).setCell ⟨g,1,none⟩ c1) ⟨g,2,none⟩ c2);have r3:((((w.setCell ⟨g,0,none⟩ c0).setCell ⟨g,1,none⟩ c1).setCell ⟨g,2,none⟩ c2).setCell ⟨g,3,none⟩ c3).heap[g]?=some (.cells #[c0,c1,c2,c3,z4,z5,z6] T (0,0)):=ze r2 3 c3;have u3:Upd (fun k=>k=g) w ((((w.setCell ⟨g,0,none⟩ c0).setCell ⟨g,1,none⟩ c1).setCell ⟨g,2,none⟩ c2).setCell ⟨g,3,none⟩ c3):=u2.trans (Upd.set (((w.setCell ⟨g,0,none⟩ c0).setCell ⟨g,1,none⟩ c1).setCell ⟨g,2,none⟩ c2) ⟨g,3,none⟩ c3);have r4:(((((w.setCell ⟨g,0,none⟩ c0).setCell ⟨g,1,none⟩ c1).setCell ⟨g,2,none⟩ c2).setCell ⟨g,3,none⟩ c3).setCell ⟨g,4,none⟩ c4).heap[g]?=some (.cells #[c0,c1,c2,c3,c4,z5,z6] T (0,0)):=ze r3 4 c4;have u4:Upd (fun k=>k=g) w (((((w.setCell ⟨g,0,none⟩ c0).setCell ⟨g,1,none⟩ c1).setCell ⟨g,2,none⟩ c2).setCell ⟨g,3,none⟩ c3).setCell ⟨g,4,none⟩ c4):=u3.trans (Upd.set ((((w.setCell ⟨g,0,none⟩ c0).setCell ⟨g,1,none⟩ c1).setCell ⟨g,2,none⟩ c2).setCell ⟨g,3,none⟩ c3) ⟨g,4,none⟩ c4);have r5:((((((w.setCell ⟨g,0,none⟩ c0).setCell ⟨g,1,none⟩ c1).setCell ⟨g,2,none⟩ c2).setCell ⟨g,3,none⟩ c3).setCell ⟨g,4,none⟩ c4).setCell ⟨g,5,none⟩ c5).heap[g]?=some (.cells #[c0,c1,c2,c3,c4,c5,z6] T (0,0)):=ze r4 5 c5;have u5:Upd (fun k=>k=g) w ((((((w.setCell ⟨g,0,none⟩ c0).setCell ⟨g,1,none⟩ c1).setCell ⟨g,2,none⟩ c2).setCell ⟨g,3,none⟩ c3).setCell ⟨g,4,none⟩ c4).setCell ⟨g,5,none⟩ c5):=u4.trans (Upd.set (((((w.setCell ⟨g,0,none⟩ c0).setCell ⟨g,1,none⟩ c1).setCell ⟨g,2,none⟩ c2).setCell ⟨g,3,none⟩ c3).setCell ⟨g,4,none⟩ c4) ⟨g,5,none⟩ c5);have r6:(((((((w.setCell ⟨g,0,none⟩ c0).setCell ⟨g,1,none⟩ c1).setCell ⟨g,2,none⟩ c2).setCell ⟨g,3,none⟩ c3).setCell ⟨g,4,none⟩ c4).setCell ⟨g,5,none⟩ c5).setCell ⟨g,6,none⟩ c6).heap[g]?=some (.cells #[c0,c1,c2,c3,c4,c5,c6] T (0,0)):=ze r5 6 c6;have u6:Upd (fun k=>k=g) w (((((((w.setCell ⟨g,0,none⟩ c0).setCell ⟨g,1,none⟩ c1).setCell ⟨g,2,none⟩ c2).setCell ⟨g,3,none⟩ c3).setCell ⟨g,4,none⟩ c4).setCell ⟨g,5,none⟩ c5).setCell ⟨g,6,none⟩ c6):=u5.trans (Upd.set ((((((w.setCell ⟨g,0,none⟩ c0).setCell ⟨g,1,none⟩ c1).setCell ⟨g,2,none⟩ c2).setCell ⟨g,3,none⟩ c3).setCell ⟨g,4,none⟩ c4).setCell ⟨g,5,none⟩ c5) ⟨g,6,none⟩ c6);exact⟨r6,u6⟩
theorem ex_len {d:Int}{pre:List Rec}{st:exS}(h1:∀x∈pre,zt d x)(h2:zg exF.tk (exF.step d) exF.z pre=.ok st)(h3:(pre.flatMap Rec.raw).length<=500000):st.2.2.length<=1000000:=by
 have hi:=xa (d:=d) 1000000 (exF.inv d) (z0f.go d) pre exF.z st 0 h1 (z0f.start d) (by have:=j7 exF.tk pre;omega) h2;rw[Nat.zero_add]at hi;have:=j7 exF.tk pre;obtain⟨s,t,q,_,⟨sb,tb,qb,_,i1⟩⟩:=hi;have:=zdo i1;omega
theorem J9 {w:World}{g:Nat}{cs:Array Value}(hg:w.heap[g]?=some (.cells cs 96 (0,0)))(hc:cs.size=7):(loadVar 96 ⟨g,0,none⟩).run Tryz.prog w=.ok (.agg cs) w :=
 run_loadVar_row w g 96 96 cs (0,0) _ hg Tryz.underlying96 rfl (by rw[hc];kernel_rfl)
theorem unex_if (X:ByteArray)(d:Int)(hU:Hid (∀r:Rec,(∀rs,wall X.data.toList d=.ok rs->r∈rs)->r.num=7->UKey))(w:World)(hX:X.size<=500000)(hd:-9223372036854775808<=d/\d<=9223372036854775807) :
  Calls Tryz.prog 61 #[.string X,.int .i64 d] w (Z9 qg Q3 (exrd X.data.toList d) X.size w):=by
 have HE1:=enters_of Tryz.func103 (by kernel_rfl) rfl;have HE2:=enters_of Tryz.func104 (by kernel_rfl) rfl;obtain⟨g,hg⟩:=nmd (w.heap.size)
 obtain⟨W0,hW0⟩:=nmd (((w.alloc (.cells #[.int .i64 d] 3)).alloc (.cells #[.slice none 0 0,.int .u64 0,.int .i64 0,.int .u64 0,.string ⟨#[]⟩,.string ⟨#[]⟩,.string ⟨#[]⟩] 96)).alloc (.cells #[.slice none 0 0,.int .u64 0,.int .i64 0,.int .u64 0,.string ⟨#[]⟩,.string ⟨#[]⟩,.string ⟨#[]⟩] 96))
 have HB0:Hid (Below w.heap.size w W0):=hid (by rw[<-hW0];exact zb (zb (zd _ _) (zd _ _)) (zd _ _));have h3:=Zw hg (.cells #[.int .i64 d] 3) (.cells #[.slice none 0 0,.int .u64 0,.int .i64 0,.int .u64 0,.string ⟨#[]⟩,.string ⟨#[]⟩,.string ⟨#[]⟩] 96) (.cells #[.slice none 0 0,.int .u64 0,.int .i64 0,.int .u64 0,.string ⟨#[]⟩,.string ⟨#[]⟩,.string ⟨#[]⟩] 96);rw[hW0]at h3;have HR0:=hid h3.2.1;have hcd:W0.cell? ⟨g,0,none⟩=some (.int .i64 d):=za h3.1 (j:=0) rfl;have htk:(capT (exT (g+2)) g d).rel exF.z (fun k=>(k=g+2∨((Value.slice none 0 0).ownBlock=some k∨False))∨k=g) W0:=⟨_,⟨.slice none 0 0,_,h3.2.2,LsAt.nil _ _ _ _,rfl⟩,by simp[Value.ownBlock],h3.1,rfl⟩
 have HRD:Hid (Calls Tryz.prog 15 #[.string X,.int .i64 d,.func (.func 103) #[] #[],.func (.func 104) #[] #[.pointer (some ⟨g+2,0,none⟩),.pointer (some ⟨g,0,none⟩)]] W0 (z23 (capT (exT (g+2)) g d) exF.tk (exF.step d) exF.z (fun k=>(k=g+2∨((Value.slice none 0 0).ownBlock=some k∨False))∨k=g) X d W0)):=hid (by
  by_cases h0:d<0
  ·refine(z53 _ _ _ X d W0 h0).mono ?_
   rintro e w' ⟨v,rfl,hb,he⟩;refine⟨Upd.of_new hb,?_⟩;have e6:zq (σ:=exS) exF.tk (exF.step d) exF.z X.data.toList d=.error 6:=by unfold zq;rw[if_pos h0]
   rw[e6];exact⟨v,0,rfl,Nat.zero_le _,he⟩
  ·exact kn (capT (exT (g+2)) g d) exF.tk (exF.step d) 103 104 #[.pointer (some ⟨g+2,0,none⟩),.pointer (some ⟨g,0,none⟩)] exF.z X d W0 (by omega) HE1 HE2 (fun r w _=>z8f r w) (fun r st P w hk hr hraw hmem hpre h=>zcv (g+2) g d r (hid (fun h1=>hU.out r hmem h1)) st P w (by omega) hk (by have:=q5 hr;omega) (by
    obtain⟨pre,h1,h2,h3⟩:=hpre;exact ex_len h1 h2 (by omega)) (hid h)) _ htk)
 have HW0:=hid hW0;have HGG:=hid hg;clear hW0 h3 htk HE1 HE2;go_enter Tryz.func61,Tryz.ntmps61;go_wp2_with fail;rw[HW0.out];go_wp2_with fail;refine HRD.out.mono ?_;intro e w1 hpost;obtain⟨hu,hcase⟩:=hpost
 have hu1:Upd (fun k=>k=g+2∨k=g) W0 w1:=hu.mono (fun k _ h=>by
  rcases h with (h|h|h)|h
  ·exact .inl h
  ·simp[Value.ownBlock]at h
  ·exact h.elim
  ·exact .inr h)
 have HR1:Hid (w1.heap[g+1]?=some (.cells #[.slice none 0 0,.int .u64 0,.int .i64 0,.int .u64 0,.string ⟨#[]⟩,.string ⟨#[]⟩,.string ⟨#[]⟩] 96 (0,0))):=hid ((hu1.block (g+1) (z8 HR0.out) (by omega)).trans HR0.out);have HB1:Hid (Below w.heap.size w w1):=hid (HB0.out.trans (hu1.below (by have:=HB0.out.size;omega) (fun k _ h=>by omega)));clear hu hu1 hcd HRD;have hz0:=rc0 HR1.out;have fz0:=z7 HR1.out 0;have hz1:=rc1 HR1.out;have fz1:=z7 HR1.out 1;have hz2:=rc2 HR1.out;have fz2:=z7 HR1.out 2;have hz3:=rc3 HR1.out;have fz3:=z7 HR1.out 3;have hz4:=rc4 HR1.out;have fz4:=z7 HR1.out 4;have hz5:=rc5 HR1.out;have fz5:=z7 HR1.out 5;have hz6:=rc6 HR1.out;have fz6:=z7 HR1.out 6
 cases hb:zq (σ:=exS) exF.tk (exF.step d) exF.z X.data.toList d with
 | error c =>
  rw[hb]at hcase;obtain⟨v,q,rfl,hq,hew⟩:=hcase;obtain⟨T',y,rfl⟩:=hew.iface;have HBR:Hid (exrd X.data.toList d=.error c):=hid hb;have HEW:=hid hew;clear hb hew;go_wp2_with fail;obtain⟨hr,hua⟩:=z06 HR1.out (.slice none 0 0) (.int .u64 0) (.int .i64 0) (.int .u64 0) (.string ⟨#[]⟩) (.string ⟨#[]⟩) (.string ⟨#[]⟩);refine zi rfl rfl (J9 hr rfl) rfl ?_;refine⟨HB1.out.trans (hua.below (by have:=HB1.out.size;omega) (fun k _ h=>by have h:k=g+1:=h;omega)),?_⟩;rw[HBR.out];obtain⟨ws,he⟩:=HEW.out;exact⟨_,q,rfl,hq,ws,x8 hua (fun k hk b m e h=>by have hk:k=g+1:=hk;subst hk;rw[HR1.out]at h;simp at h) he⟩
 | ok xu =>
  obtain⟨st,u⟩:=xu;rw[hb]at hcase;obtain⟨rfl,P',⟨P0,⟨v,P1,h1,h2,rfl⟩,h3,h4,rfl⟩,hp⟩:=hcase;obtain⟨t,⟨⟨⟨k,n⟩,⟨a,b⟩⟩,l⟩⟩:=st;have HBR:Hid (exrd X.data.toList d=.ok ((t,(((k,n),(a,b)),l)),u)):=hid hb;obtain⟨css,Q,g2,g3,g4,g5,rfl⟩:=h2;obtain⟨lo,lc,rfl⟩:=zh g2;have HRL:=hid (Yy g2 g3 (P:=fun k=>g+3<=k) (fun j a1 a2=>KRel.upd (Upd.refl (fun _=>False) w1) (fun _ _ h=>h) (fun k hk=>(g5 k hk).2.1) _ _ (g4 j a1 a2)) (fun k hk=>(g2.lt k hk).1));obtain⟨Xu,hU⟩:∃U:ByteArray,(⟨u.toArray⟩:ByteArray)=U:=⟨_,rfl⟩
  have HUU:=hid hU;rw[hU];obtain⟨Xa,hXa⟩:∃U:ByteArray,(⟨a.toArray⟩:ByteArray)=U:=⟨_,rfl⟩
  have HXa:=hid hXa;obtain⟨Xb,hXb⟩:∃U:ByteArray,(⟨b.toArray⟩:ByteArray)=U:=⟨_,rfl⟩
  have HXb:=hid hXb;have HX1:Hid (w1.heap[g+2]?=some (.cells #[.slice lo l.length lc,.int .u64 t,.int .i64 k,.int .u64 n,.string Xa,.string Xb,.string ⟨#[]⟩] 96 (0,0))):=hid (by rw[<-hXa,<-hXb];exact h1);have hx0:=rc0 HX1.out;have hx1:=rc1 HX1.out;have hx2:=rc2 HX1.out;have hx3:=rc3 HX1.out;have hx4:=rc4 HX1.out;have hx5:=rc5 HX1.out;have hx6:=rc6 HX1.out;have hfx:=z7 HX1.out 6;clear hb h1 g2 g3 g4 g5 h3 h4 hp hU hXa hXb;go_wp2_with fail;have hux:=Upd.set w1 ⟨g+2,6,none⟩ (.string Xu);obtain⟨hr,hua⟩:=z06 ((hux.block (g+1) (z8 HR1.out) (fun e=>by have e:g+1=g+2:=e;omega)).trans HR1.out) (.slice lo l.length lc) (.int .u64 t) (.int .i64 k) (.int .u64 n) (.string Xa) (.string Xb) (.string Xu);refine zi rfl rfl (J9 hr rfl) rfl ?_;have hub:=(hux.mono (S':=fun k=>k=g+1∨k=g+2) fun k _ h => .inr h).trans (hua.mono fun k _ h => .inl h);refine⟨HB1.out.trans (hub.below (by have:=HB1.out.size;omega) (fun k _ h=>by omega)),?_⟩;rw[HBR.out];refine⟨[.slice lo l.length lc,.int .u64 t,.int .i64 k,.int .u64 n,.string Xa,.string Xb,.string Xu],rfl,lo,lc,?_,y7.upd hub (fun k hk e=>by omega) (fun k hk=>by omega) _ _ _ HRL.out⟩;rw[<-HUU.out,<-HXa.out,<-HXb.out];rfl
end Go.Proofs.YtmlghmjjlpioeaaGreatDoor
