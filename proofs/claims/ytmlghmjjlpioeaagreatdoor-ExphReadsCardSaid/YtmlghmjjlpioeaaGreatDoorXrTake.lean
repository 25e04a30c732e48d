/-
  (*exph.reading).take of any record.
-/
import Derived.Test.YtmlghmjjlpioeaaGreatDoorXpBack
import Derived.Test.YtmlghmjjlpioeaaGreatDoorBkWhole
set_option maxRecDepth 1000000
set_option maxHeartbeats 16000000
namespace Go.Proofs.YtmlghmjjlpioeaaGreatDoor
open Go.RowKit
open Lib (hid)
def ExUn:Prop:=∀(Y:ByteArray) (d':Int) (w':World),Y.size<=500000 -> -9223372036854775808<=d'/\d'<=9223372036854775807->Calls Tryz.prog 61 #[.string Y,.int .i64 d'] w' (Z9 qg Q3 (exrd Y.data.toList d') Y.size w')
abbrev xrS:Type:=List KV × Nat × Nat × Nat × (Bool × Nat) × Int × Nat × List (List UInt8) × List (List UInt8) × Nat × List Ex × (Bool × Nat) × (Bool × Nat) × Nat
def xrA (bx:Nat):xv xrS (bx+1):=ltwo (lone kcel 55 (bx+1) (fun st:xrS=>st.1)) (ltwo (lone qg 96 (bx+1) (fun st:xrS=>st.2.2.2.2.2.2.2.2.2.2.1)) (ltwo (lone Zu 9 (bx+1) (fun st:xrS=>st.2.2.2.2.2.2.2.1)) (lone Zu 9 (bx+1) (fun st:xrS=>st.2.2.2.2.2.2.2.2.1))))
def jm:xrS->Value × Value × Value × Value->Array Value
 | (_,(a,(t,(k,((bp,vp),(sc,(zc,(_,(_,(f,(_,((bm,vm),((bg,vg),th))))))))))))),(vl,(ves,(vsp,vsn)))=>#[vl,.int .u64 a,.int .u64 t,.int .u64 k,.bool bp,.int .u64 vp,.bool bm,.int .u64 vm,.bool bg,.int .u64 vg,.int .i32 sc,.int .u64 zc,.bool false,.int .i32 0,.slice none 0 0,.string ⟨#[]⟩,.bool false,.int .i32 0,.slice none 0 0,.string ⟨#[]⟩,ves,.int .u32 f,.int .u64 th,.string ⟨#[]⟩,vsp,vsn]
def xrT (bx:Nat):j5 xrS:=rowL (xrA bx) 74 jm
theorem zer (bx:Nat):(xrA bx).Sees kcel 55 (fun st:xrS=>st.1) (fun v:Value × Value × Value × Value=>v.1) (fun (v:Value × Value × Value × Value) v'=>((v',(v.2.1,(v.2.2.1,v.2.2.2))):Value × Value × Value × Value)) (fun st st'=>(True)/\(st'.2.2.2.2.2.2.2.2.2.2.1=st.2.2.2.2.2.2.2.2.2.2.1)/\(st'.2.2.2.2.2.2.2.1=st.2.2.2.2.2.2.2.1)/\st'.2.2.2.2.2.2.2.2.1=st.2.2.2.2.2.2.2.2.1):=(z38 (Ys _ _ _ _))
theorem zbb (bx:Nat):(xrA bx).Sees qg 96 (fun st:xrS=>st.2.2.2.2.2.2.2.2.2.2.1) (fun v:Value × Value × Value × Value=>v.2.1) (fun (v:Value × Value × Value × Value) v'=>((v.1,(v',(v.2.2.1,v.2.2.2))):Value × Value × Value × Value)) (fun st st'=>(st'.1=st.1)/\(True)/\(st'.2.2.2.2.2.2.2.1=st.2.2.2.2.2.2.2.1)/\st'.2.2.2.2.2.2.2.2.1=st.2.2.2.2.2.2.2.2.1):=(Q4 ((z38 (Ys _ _ _ _))))
theorem zbz (bx:Nat):(xrA bx).Sees Zu 9 (fun st:xrS=>st.2.2.2.2.2.2.2.1) (fun v:Value × Value × Value × Value=>v.2.2.1) (fun (v:Value × Value × Value × Value) v'=>((v.1,(v.2.1,(v',v.2.2.2))):Value × Value × Value × Value)) (fun st st'=>(st'.1=st.1)/\(st'.2.2.2.2.2.2.2.2.2.2.1=st.2.2.2.2.2.2.2.2.2.2.1)/\(True)/\st'.2.2.2.2.2.2.2.2.1=st.2.2.2.2.2.2.2.2.1):=(Q4 ((Q4 ((z38 (Ys _ _ _ _))))))
theorem zbw (bx:Nat):(xrA bx).Sees Zu 9 (fun st:xrS=>st.2.2.2.2.2.2.2.2.1) (fun v:Value × Value × Value × Value=>v.2.2.2) (fun (v:Value × Value × Value × Value) v'=>((v.1,(v.2.1,(v.2.2.1,v'))):Value × Value × Value × Value)) (fun st st'=>(st'.1=st.1)/\(st'.2.2.2.2.2.2.2.2.2.2.1=st.2.2.2.2.2.2.2.2.2.2.1)/\(st'.2.2.2.2.2.2.2.1=st.2.2.2.2.2.2.2.1)/\True):=(Q4 ((Q4 ((Q4 (Ys _ _ _ _))))))
def z9e {σ:Type}(R:j5 σ)(step:σ->Rec->Except Nat σ)(st:σ)(P:Nat->Prop)(r:Rec)(w:World)(e:Ending)(w':World):Prop:=e=.returned (.tuple #[])/\Upd P w w'/\∃st',step st r=.ok st'/\R.rel st' P w'
theorem jw {σ:Type}{R:j5 σ}{step:σ->Rec->Except Nat σ}{st st':σ}{P:Nat->Prop}{r:Rec}{w w':World}(hs:step st r=.ok st')(hu:Upd P w w')(hr:R.rel st' P w'):z9e R step st P r w (.returned (.tuple #[])) w':=⟨rfl,hu,st',hs,hr⟩
theorem zbj (bx:Nat)(D:Int)(r:Rec)(st:xrS)(P:Nat->Prop)(w:World)(hk:xrF.tk r=true)(hno:r.num≠1/\r.num≠6/\r.num≠8/\r.num≠9/\r.num≠10/\r.num≠11)(h:Hid ((xrT bx).rel st P w)) :
  Calls Tryz.prog 62 #[.pointer (some ⟨bx,0,none⟩),recV r] w (z9e (xrT bx) (xrF.step D) st P r w):=by
 obtain⟨v,P1,h1,h2,rfl⟩:=h.out;obtain⟨l,⟨a,⟨t,⟨k,⟨⟨bp,vp⟩,⟨sc,⟨zc,⟨sp,⟨sn,⟨f,⟨es,⟨⟨bm,vm⟩,⟨⟨bg,vg⟩,th⟩⟩⟩⟩⟩⟩⟩⟩⟩⟩⟩⟩⟩:=st;obtain⟨vl,⟨ves,⟨vsp,vsn⟩⟩⟩:=v;have H1:=hid h1;have H2:=hid h2;clear h h1 h2;obtain⟨X,hX⟩:∃X:ByteArray,(⟨r.s.toArray⟩:ByteArray)=X:=⟨_,rfl⟩
 obtain⟨rb,hrb⟩:=nmd (w.heap.size)
 obtain⟨W0,hW0⟩:=nmd (w.alloc (.cells #[.int .i64 r.num,.int .i64 r.ty,.int .u64 r.n,.string X,.string ⟨r.raw.toArray⟩] 78))
 have HU0:Hid (Upd (fun _=>False) w W0):=hid (by rw[<-hW0];exact Upd.alloc _ _ _);have HR0:Hid (W0.heap[rb]?=some (.cells #[.int .i64 r.num,.int .i64 r.ty,.int .u64 r.n,.string X,.string ⟨r.raw.toArray⟩] 78 (0,0))):=hid (by rw[<-hW0,<-hrb];exact heap_alloc_new _ _);have H10:Hid (W0.heap[bx]?=some (.cells (jm (l,(a,(t,(k,((bp,vp),(sc,(zc,(sp,(sn,(f,(es,((bm,vm),((bg,vg),th))))))))))))) (vl,(ves,(vsp,vsn)))) 74 (0,0))):=hid ((HU0.out.block bx (z8 H1.out) (fun h=>h)).trans H1.out);have H20:Hid ((xrA bx).rel (l,(a,(t,(k,((bp,vp),(sc,(zc,(sp,(sn,(f,(es,((bm,vm),((bg,vg),th))))))))))))) (vl,(ves,(vsp,vsn))) P1 W0):=hid ((xrA bx).kept H2.out (HU0.out.mono fun _ _ h=>h.elim));have HW0:=hid hW0;have hn0:=rc0 HR0.out;rw[Jj,decide_eq_true_eq]at hk;have HKN:=hid hk;unfold recV;rw[hX];rw[<-hW0,<-hrb]at hn0;clear hX hW0
 by_cases hN2:r.num=2
 ·have hty:r.num=2/\r.ty=1:=by omega
  have HSE:=hid (xrF_2 hty D l a t k bp vp sc zc sp sn f es bm vm bg vg th);have d2:((r.num:Int) == 2)=true:=by rw[beq_iff_eq];omega
  have hc1:W0.cell? ⟨bx,1,none⟩=some (.int .u64 a):=za H10.out (j:=1) rfl;have hf1:=z7 H10.out 1;have HP:=hid (Y2 (A:=xrA bx) (T0:=74) (row:=jm) (st:=(l,(a,(t,(k,((bp,vp),(sc,(zc,(sp,(sn,(f,(es,((bm,vm),((bg,vg),th)))))))))))))) (st':=(l,(r.n,(t,(k,((bp,vp),(sc,(zc,(sp,(sn,(f,(es,((bm,vm),((bg,vg),th)))))))))))))) (v:=(vl,(ves,(vsp,vsn)))) 1 (.int .u64 r.n) H10.out H20.out (rfl) ⟨rfl,rfl,rfl,rfl⟩);rw[<-HW0.out]at hc1 hf1;clear hno hty hk HKN hN2;go_enter Tryz.func62,Tryz.ntmps62;go_wp2_with fail;rw[HW0.out]
  go_end0
  exact jw HSE.out ((HU0.out.mono fun _ _ h=>h.elim).trans (HP.out.2.mono fun k _ h => .inl h)) HP.out.1
 by_cases hN3:r.num=3
 ·have hty:r.num=3/\r.ty=1:=by omega
  have HSE:=hid (xrF_3 hty D l a t k bp vp sc zc sp sn f es bm vm bg vg th);have d2:((r.num:Int) == 2)=false:=ibf (by omega)
  have d3:((r.num:Int) == 3)=true:=by rw[beq_iff_eq];omega
  have hc2:W0.cell? ⟨bx,2,none⟩=some (.int .u64 t):=za H10.out (j:=2) rfl;have hf2:=z7 H10.out 2;have HP:=hid (Y2 (A:=xrA bx) (T0:=74) (row:=jm) (st:=(l,(a,(t,(k,((bp,vp),(sc,(zc,(sp,(sn,(f,(es,((bm,vm),((bg,vg),th)))))))))))))) (st':=(l,(a,(r.n,(k,((bp,vp),(sc,(zc,(sp,(sn,(f,(es,((bm,vm),((bg,vg),th)))))))))))))) (v:=(vl,(ves,(vsp,vsn)))) 2 (.int .u64 r.n) H10.out H20.out (rfl) ⟨rfl,rfl,rfl,rfl⟩);rw[<-HW0.out]at hc2 hf2;clear hno hty hk HKN hN3;go_enter Tryz.func62,Tryz.ntmps62;go_wp2_with fail;rw[HW0.out]
  go_end0
  exact jw HSE.out ((HU0.out.mono fun _ _ h=>h.elim).trans (HP.out.2.mono fun k _ h => .inl h)) HP.out.1
 by_cases hN4:r.num=4
 ·have hty:r.num=4/\r.ty=1:=by omega
  have HSE:=hid (xrF_4 hty D l a t k bp vp sc zc sp sn f es bm vm bg vg th);have d2:((r.num:Int) == 2)=false:=ibf (by omega)
  have d3:((r.num:Int) == 3)=false:=ibf (by omega)
  have d4:((r.num:Int) == 4)=true:=by rw[beq_iff_eq];omega
  have hc3:W0.cell? ⟨bx,3,none⟩=some (.int .u64 k):=za H10.out (j:=3) rfl;have hf3:=z7 H10.out 3;have HP:=hid (Y2 (A:=xrA bx) (T0:=74) (row:=jm) (st:=(l,(a,(t,(k,((bp,vp),(sc,(zc,(sp,(sn,(f,(es,((bm,vm),((bg,vg),th)))))))))))))) (st':=(l,(a,(t,(r.n,((bp,vp),(sc,(zc,(sp,(sn,(f,(es,((bm,vm),((bg,vg),th)))))))))))))) (v:=(vl,(ves,(vsp,vsn)))) 3 (.int .u64 r.n) H10.out H20.out (rfl) ⟨rfl,rfl,rfl,rfl⟩);rw[<-HW0.out]at hc3 hf3;clear hno hty hk HKN hN4;go_enter Tryz.func62,Tryz.ntmps62;go_wp2_with fail;rw[HW0.out]
  go_end0
  exact jw HSE.out ((HU0.out.mono fun _ _ h=>h.elim).trans (HP.out.2.mono fun k _ h => .inl h)) HP.out.1
 by_cases hN5:r.num=5
 ·have hty:r.num=5/\r.ty=1:=by omega
  have HSE:=hid (xrF_5 hty D l a t k bp vp sc zc sp sn f es bm vm bg vg th);have d2:((r.num:Int) == 2)=false:=ibf (by omega)
  have d3:((r.num:Int) == 3)=false:=ibf (by omega)
  have d4:((r.num:Int) == 4)=false:=ibf (by omega)
  have d5:((r.num:Int) == 5)=true:=by rw[beq_iff_eq];omega
  have hca:W0.cell? ⟨bx,4,none⟩=some (.bool bp):=za H10.out (j:=4) rfl;have hfa:=z7 H10.out 4;have hx1:=ze H10.out 4 (.bool true);have hcb:(W0.setCell ⟨bx,4,none⟩ (.bool true)).cell? ⟨bx,5,none⟩=some (.int .u64 vp):=za hx1 (j:=5) rfl;have hfb:(W0.setCell ⟨bx,4,none⟩ (.bool true)).frozen? ⟨bx,5,none⟩=false:=z7 hx1 5;have HP:=hid (z0w (A:=xrA bx) (T0:=74) (row:=jm) (st:=(l,(a,(t,(k,((bp,vp),(sc,(zc,(sp,(sn,(f,(es,((bm,vm),((bg,vg),th)))))))))))))) (st':=(l,(a,(t,(k,((true,r.n),(sc,(zc,(sp,(sn,(f,(es,((bm,vm),((bg,vg),th)))))))))))))) (v:=(vl,(ves,(vsp,vsn)))) 4 5 (.bool true) (.int .u64 r.n) H10.out H20.out rfl ⟨rfl,rfl,rfl,rfl⟩);rw[<-HW0.out]at hca hfa hcb hfb;clear hno hty hk HKN hN5 hx1;go_enter Tryz.func62,Tryz.ntmps62;go_wp2_with fail;rw[HW0.out]
  go_end0
  exact jw HSE.out ((HU0.out.mono fun _ _ h=>h.elim).trans (HP.out.2.mono fun k _ h => .inl h)) HP.out.1
 by_cases hN7:r.num=7
 ·have hty:r.num=7/\r.ty=1:=by omega
  have HSE:=hid (xrF_7 hty D l a t k bp vp sc zc sp sn f es bm vm bg vg th);have d2:((r.num:Int) == 2)=false:=ibf (by omega)
  have d3:((r.num:Int) == 3)=false:=ibf (by omega)
  have d4:((r.num:Int) == 4)=false:=ibf (by omega)
  have d5:((r.num:Int) == 5)=false:=ibf (by omega)
  have d7:((r.num:Int) == 7)=true:=by rw[beq_iff_eq];omega
  have hc11:W0.cell? ⟨bx,11,none⟩=some (.int .u64 zc):=za H10.out (j:=11) rfl;have hf11:=z7 H10.out 11;have HP:=hid (Y2 (A:=xrA bx) (T0:=74) (row:=jm) (st:=(l,(a,(t,(k,((bp,vp),(sc,(zc,(sp,(sn,(f,(es,((bm,vm),((bg,vg),th)))))))))))))) (st':=(l,(a,(t,(k,((bp,vp),(sc,(r.n,(sp,(sn,(f,(es,((bm,vm),((bg,vg),th)))))))))))))) (v:=(vl,(ves,(vsp,vsn)))) 11 (.int .u64 r.n) H10.out H20.out (rfl) ⟨rfl,rfl,rfl,rfl⟩);rw[<-HW0.out]at hc11 hf11;clear hno hty hk HKN hN7;go_enter Tryz.func62,Tryz.ntmps62;go_wp2_with fail;rw[HW0.out]
  go_end0
  exact jw HSE.out ((HU0.out.mono fun _ _ h=>h.elim).trans (HP.out.2.mono fun k _ h => .inl h)) HP.out.1
 by_cases hN12:r.num=12
 ·have hty:r.num=12/\r.ty=1:=by omega
  have HSE:=hid (zc4 hty D l a t k bp vp sc zc sp sn f es bm vm bg vg th);have d2:((r.num:Int) == 2)=false:=ibf (by omega)
  have d3:((r.num:Int) == 3)=false:=ibf (by omega)
  have d4:((r.num:Int) == 4)=false:=ibf (by omega)
  have d5:((r.num:Int) == 5)=false:=ibf (by omega)
  have d7:((r.num:Int) == 7)=false:=ibf (by omega)
  have d12:((r.num:Int) == 12)=true:=by rw[beq_iff_eq];omega
  have hca:W0.cell? ⟨bx,6,none⟩=some (.bool bm):=za H10.out (j:=6) rfl;have hfa:=z7 H10.out 6;have hx1:=ze H10.out 6 (.bool true);have hcb:(W0.setCell ⟨bx,6,none⟩ (.bool true)).cell? ⟨bx,7,none⟩=some (.int .u64 vm):=za hx1 (j:=7) rfl;have hfb:(W0.setCell ⟨bx,6,none⟩ (.bool true)).frozen? ⟨bx,7,none⟩=false:=z7 hx1 7;have HP:=hid (z0w (A:=xrA bx) (T0:=74) (row:=jm) (st:=(l,(a,(t,(k,((bp,vp),(sc,(zc,(sp,(sn,(f,(es,((bm,vm),((bg,vg),th)))))))))))))) (st':=(l,(a,(t,(k,((bp,vp),(sc,(zc,(sp,(sn,(f,(es,((true,r.n),((bg,vg),th)))))))))))))) (v:=(vl,(ves,(vsp,vsn)))) 6 7 (.bool true) (.int .u64 r.n) H10.out H20.out rfl ⟨rfl,rfl,rfl,rfl⟩);rw[<-HW0.out]at hca hfa hcb hfb;clear hno hty hk HKN hN12 hx1;go_enter Tryz.func62,Tryz.ntmps62;go_wp2_with fail;rw[HW0.out]
  go_end0
  exact jw HSE.out ((HU0.out.mono fun _ _ h=>h.elim).trans (HP.out.2.mono fun k _ h => .inl h)) HP.out.1
 by_cases hN13:r.num=13
 ·have hty:r.num=13/\r.ty=1:=by omega
  have HSE:=hid (zd8 hty D l a t k bp vp sc zc sp sn f es bm vm bg vg th);have d2:((r.num:Int) == 2)=false:=ibf (by omega)
  have d3:((r.num:Int) == 3)=false:=ibf (by omega)
  have d4:((r.num:Int) == 4)=false:=ibf (by omega)
  have d5:((r.num:Int) == 5)=false:=ibf (by omega)
  have d7:((r.num:Int) == 7)=false:=ibf (by omega)
  have d12:((r.num:Int) == 12)=false:=ibf (by omega)
  have d13:((r.num:Int) == 13)=true:=by rw[beq_iff_eq];omega
  have hca:W0.cell? ⟨bx,8,none⟩=some (.bool bg):=za H10.out (j:=8) rfl;have hfa:=z7 H10.out 8;have hx1:=ze H10.out 8 (.bool true);have hcb:(W0.setCell ⟨bx,8,none⟩ (.bool true)).cell? ⟨bx,9,none⟩=some (.int .u64 vg):=za hx1 (j:=9) rfl;have hfb:(W0.setCell ⟨bx,8,none⟩ (.bool true)).frozen? ⟨bx,9,none⟩=false:=z7 hx1 9;have HP:=hid (z0w (A:=xrA bx) (T0:=74) (row:=jm) (st:=(l,(a,(t,(k,((bp,vp),(sc,(zc,(sp,(sn,(f,(es,((bm,vm),((bg,vg),th)))))))))))))) (st':=(l,(a,(t,(k,((bp,vp),(sc,(zc,(sp,(sn,(f,(es,((bm,vm),((true,r.n),th)))))))))))))) (v:=(vl,(ves,(vsp,vsn)))) 8 9 (.bool true) (.int .u64 r.n) H10.out H20.out rfl ⟨rfl,rfl,rfl,rfl⟩);rw[<-HW0.out]at hca hfa hcb hfb;clear hno hty hk HKN hN13 hx1;go_enter Tryz.func62,Tryz.ntmps62;go_wp2_with fail;rw[HW0.out]
  go_end0
  exact jw HSE.out ((HU0.out.mono fun _ _ h=>h.elim).trans (HP.out.2.mono fun k _ h => .inl h)) HP.out.1
 have hty:r.num=14/\r.ty=1:=by omega
 have HSE:=hid (zds hty D l a t k bp vp sc zc sp sn f es bm vm bg vg th);have d2:((r.num:Int) == 2)=false:=ibf (by omega)
 have d3:((r.num:Int) == 3)=false:=ibf (by omega)
 have d4:((r.num:Int) == 4)=false:=ibf (by omega)
 have d5:((r.num:Int) == 5)=false:=ibf (by omega)
 have d7:((r.num:Int) == 7)=false:=ibf (by omega)
 have d12:((r.num:Int) == 12)=false:=ibf (by omega)
 have d13:((r.num:Int) == 13)=false:=ibf (by omega)
 have d14:((r.num:Int) == 14)=true:=by rw[beq_iff_eq];omega
 have hc22:W0.cell? ⟨bx,22,none⟩=some (.int .u64 th):=za H10.out (j:=22) rfl;have hf22:=z7 H10.out 22;have HP:=hid (Y2 (A:=xrA bx) (T0:=74) (row:=jm) (st:=(l,(a,(t,(k,((bp,vp),(sc,(zc,(sp,(sn,(f,(es,((bm,vm),((bg,vg),th)))))))))))))) (st':=(l,(a,(t,(k,((bp,vp),(sc,(zc,(sp,(sn,(f,(es,((bm,vm),((bg,vg),r.n)))))))))))))) (v:=(vl,(ves,(vsp,vsn)))) 22 (.int .u64 r.n) H10.out H20.out (rfl) ⟨rfl,rfl,rfl,rfl⟩);rw[<-HW0.out]at hc22 hf22;clear hno hty hk HKN;go_enter Tryz.func62,Tryz.ntmps62;go_wp2_with fail;rw[HW0.out]
 go_end0
 exact jw HSE.out ((HU0.out.mono fun _ _ h=>h.elim).trans (HP.out.2.mono fun k _ h => .inl h)) HP.out.1
theorem za5 (bx:Nat)(D:Int)(r:Rec)(hUl:Hid (r.num=1->UKey))(hUes:Hid (r.num=11->ExUn))(st:xrS)(P:Nat->Prop)(w:World)(hD:-9223372036854775807<=D/\D<=9223372036854775807)(hk:xrF.tk r=true)(hn64:Hid (r.n<2^64))(hs:r.s.length<=500000)(hll:st.1.length<=1000000)(hles:st.2.2.2.2.2.2.2.2.2.2.1.length<=1000000)(hlsp:st.2.2.2.2.2.2.2.1.length<=1000000)(hlsn:st.2.2.2.2.2.2.2.2.1.length<=1000000)(h:Hid ((xrT bx).rel st P w)) :
  Calls Tryz.prog 19 #[.pointer (some ⟨bx,0,none⟩),recV r,.int .i64 (D-1)] w (xx (xrT bx) (xrF.step D) st P r w):=by
 obtain⟨v,P1,h1,h2,rfl⟩:=h.out;obtain⟨l,⟨a,⟨t,⟨k,⟨⟨bp,vp⟩,⟨sc,⟨zc,⟨sp,⟨sn,⟨f,⟨es,⟨⟨bm,vm⟩,⟨⟨bg,vg⟩,th⟩⟩⟩⟩⟩⟩⟩⟩⟩⟩⟩⟩⟩:=st;obtain⟨vl,⟨ves,⟨vsp,vsn⟩⟩⟩:=v;have H1:=hid h1;have H2:=hid h2;clear h h1 h2;obtain⟨X,hX⟩:∃X:ByteArray,(⟨r.s.toArray⟩:ByteArray)=X:=⟨_,rfl⟩
 have hXs:X.size<=500000:=by rw[<-hX];simp[ByteArray.size];omega
 have HXD:Hid (X.data.toList=r.s):=hid (by rw[<-hX]);have HX:Hid ((⟨r.s.toArray⟩:ByteArray)=X):=hid hX;obtain⟨rb,hrb⟩:=nmd (w.heap.size)
 obtain⟨W0,hW0⟩:=nmd (w.alloc (.cells #[.int .i64 r.num,.int .i64 r.ty,.int .u64 r.n,.string X,.string ⟨r.raw.toArray⟩] 78))
 have HU0:Hid (Upd (fun _=>False) w W0):=hid (by rw[<-hW0];exact Upd.alloc _ _ _);have HR0:Hid (W0.heap[rb]?=some (.cells #[.int .i64 r.num,.int .i64 r.ty,.int .u64 r.n,.string X,.string ⟨r.raw.toArray⟩] 78 (0,0))):=hid (by rw[<-hW0,<-hrb];exact heap_alloc_new _ _);have H10:Hid (W0.heap[bx]?=some (.cells (jm (l,(a,(t,(k,((bp,vp),(sc,(zc,(sp,(sn,(f,(es,((bm,vm),((bg,vg),th))))))))))))) (vl,(ves,(vsp,vsn)))) 74 (0,0))):=hid ((HU0.out.block bx (z8 H1.out) (fun h=>h)).trans H1.out);have H20:Hid ((xrA bx).rel (l,(a,(t,(k,((bp,vp),(sc,(zc,(sp,(sn,(f,(es,((bm,vm),((bg,vg),th))))))))))))) (vl,(ves,(vsp,vsn))) P1 W0):=hid ((xrA bx).kept H2.out (HU0.out.mono fun _ _ h=>h.elim));have HP1:Hid (∀k,P1 k->k<w.heap.size):=hid (fun k hk=>((xrA bx).lt H2.out k hk).2);have HW0:=hid hW0;have HRB:=hid hrb;have hsz:=HU0.out.size;have hbx:=z8 H1.out;have hn0:=rc0 HR0.out;rw[Jj,decide_eq_true_eq]at hk;have HKN:=hid hk;unfold recV;rw[hX];rw[<-hW0,<-hrb]at hn0;clear hX hW0
 by_cases hN1:r.num=1
 ·have hty:r.num=1/\r.ty=2:=by omega
  have HSE:=hid (xrF_1 hty D l a t k bp vp sc zc sp sn f es bm vm bg vg th);have HUK:=hid (hUl.out hty.1);have d1:((r.num:Int) == 1)=true:=by rw[beq_iff_eq];omega
  clear hty hk HKN hN1;go_enter Tryz.func19,Tryz.ntmps19;go_wp2_with fail;rw[HW0.out];go_upto_region 4 with fail
  all_goals
   obtain⟨D0,hD0⟩:=nmd (W0.drew)
   have hB0:Below W0.heap.size W0 D0:=by rw[<-hD0];exact(Below.refl _ _).drew
   have hS:(fun w':World=>w'.heap[rb]?=some (.cells #[.int .i64 r.num,.int .i64 r.ty,.int .u64 r.n,.string X,.string ⟨r.raw.toArray⟩] 78 (0,0))) D0:=(hB0.block _ (z8 HR0.out)).trans HR0.out;have hne:Nonempty {w':World // (fun w':World=>w'.heap[rb]?=some (.cells #[.int .i64 r.num,.int .i64 r.ty,.int .u64 r.n,.string X,.string ⟨r.raw.toArray⟩] 78 (0,0))) w'}:=⟨⟨_,hS⟩⟩
   refine zj (S:=fun w':World=>w'.heap[rb]?=some (.cells #[.int .i64 r.num,.int .i64 r.ty,.int .u64 r.n,.string X,.string ⟨r.raw.toArray⟩] 78 (0,0))) [(0,true),(1,true),(2,true),(3,true),(4,true),(5,true),(6,true),(7,false),(8,true)] (by kernel_rfl) (by kernel_rfl) (by kernel_rfl) (by kernel_rfl) (by rw[hD0];exact hS) ?_;rw[hD0]
   iterate 5 (refine zf _ rfl (fun KC hK=>?_);go_simp;(first|refine hK _ ?_|refine⟨_,fun _ _=>rfl,hK _ ?_⟩);clear hK KC)
   refine zf _ rfl (fun KC hK=>?_);go_simp;refine⟨.string X,fun a ha=>by rw[za ha (j:=3) rfl];rfl,hK _ ?_⟩;clear hK KC
   (refine zf _ rfl (fun KC hK=>?_);go_simp;(first|refine hK _ ?_|refine⟨_,fun _ _=>rfl,hK _ ?_⟩);clear hK KC)
   have H2D:Hid ((xrA bx).rel (l,(a,(t,(k,((bp,vp),(sc,(zc,(sp,(sn,(f,(es,((bm,vm),((bg,vg),th))))))))))))) (vl,(ves,(vsp,vsn))) P1 D0):=hid ((xrA bx).kept H20.out ((Upd.of_new (S:=fun _=>False) hB0).mono fun _ _ h=>h.elim));obtain⟨Pi,hls,hsub,hput⟩:=zer bx _ _ _ _ H2D.out;have HPUT:=hid hput;have HSUB:=hid hsub;clear hput hsub;have HA:=hid (z2b bx 0 (bx+1) (jm (l,(a,(t,(k,((bp,vp),(sc,(zc,(sp,(sn,(f,(es,((bm,vm),((bg,vg),th))))))))))))) (vl,(ves,(vsp,vsn)))) 74 vl l Pi 57 X (D-1) (zm 1000001 r.s (D-1)) D0 (enters_of Tryz.func57 (by kernel_rfl) rfl) (hid ((hB0.block _ (z8 H10.out)).trans H10.out)) rfl ⟨by omega,by have:=hB0.size;omega⟩ (hid hls) hll (hid (fun w'=>by have:=HUK.out X (D-1) w' (by omega) (by omega);rwa [HXD.out]at this)));clear hls;refine zo _ rfl (fun KC hK=>?_);go_simp;refine HA.out.mono ?_;intro e w1 hpost
   have hS1:(fun w':World=>w'.heap[rb]?=some (.cells #[.int .i64 r.num,.int .i64 r.ty,.int .u64 r.n,.string X,.string ⟨r.raw.toArray⟩] 78 (0,0))) w1:=(hpost.1.block rb (z8 hS) (fun e=>by
    rcases e with e|e
    ·omega
    ·have:=HP1.out rb (HSUB.out rb e);have:=HRB.out;omega)).trans hS
   cases hrd:zm 1000001 r.s (D-1)with
   | error c =>
    rw[hrd]at hpost HSE;obtain⟨hu1,y,rfl,hec⟩:=hpost;have hu1:=hu1.mono (S':=fun k=>k=bx∨P1 k) (fun k _ h=>h.imp id (HSUB.out k));obtain⟨T',z,rfl⟩:=hec.iface;go_simp;refine hK.out _ _ hS1 ?_;clear hK KC
    (refine zf _ rfl (fun KC hK=>?_);go_simp;(first|refine hK _ ?_|refine⟨_,fun _ _=>rfl,hK _ ?_⟩);clear hK KC)
    refine zw ?_;go_wp2_with fail;go_ret;exact Zx HSE.out (((HU0.out.mono fun _ _ h=>h.elim).trans (Upd.of_new hB0)).trans hu1) hec
   | ok x =>
    rw[hrd]at hpost HSE;obtain⟨rfl,hu,P',hr,hp⟩:=Yq (A:=xrA bx) (put:=fun (v:Value × Value × Value × Value) v'=>((v',(v.2.1,(v.2.2.1,v.2.2.2))):Value × Value × Value × Value)) (sm:=fun st st':xrS=>(True)/\(st'.2.2.2.2.2.2.2.2.2.2.1=st.2.2.2.2.2.2.2.2.2.2.1)/\(st'.2.2.2.2.2.2.2.1=st.2.2.2.2.2.2.2.1)/\st'.2.2.2.2.2.2.2.2.1=st.2.2.2.2.2.2.2.2.1) (ls:=fun st:xrS=>st.1) (st:=(l,(a,(t,(k,((bp,vp),(sc,(zc,(sp,(sn,(f,(es,((bm,vm),((bg,vg),th)))))))))))))) (st':=(l++[x],(a,(t,(k,((bp,vp),(sc,(zc,(sp,(sn,(f,(es,((bm,vm),((bg,vg),th)))))))))))))) (v:=(vl,(ves,(vsp,vsn)))) H2D.out HPUT.out hpost (fun v'=>rfl) ⟨trivial,rfl,rfl,rfl⟩ rfl HSUB.out;go_simp;refine hK.out _ _ hS1 ?_;clear hK KC
    (refine zf _ rfl (fun KC hK=>?_);go_simp;(first|refine hK _ ?_|refine⟨_,fun _ _=>rfl,hK _ ?_⟩);clear hK KC)
    refine zw ?_;have HU:=hid hu;have HRL:=hid hr;have HP:=hid hp;clear hu hr hp hpost hrd;go_wp2_with fail;go_ret;exact x5 HSE.out (((HU0.out.mono fun _ _ h=>h.elim).trans (Upd.of_new hB0)).trans HU.out) HRL.out (fun k hk=>(HP.out k hk).imp id (fun h=>Nat.le_trans (Nat.le_trans hsz hB0.size) h))
 by_cases hN6:r.num=6
 ·have hty:r.num=6/\r.ty=0:=by omega
  have HSE:=hid (xrF_6 hty D l a t k bp vp sc zc sp sn f es bm vm bg vg th);have d1:((r.num:Int) == 1)=false:=ibf (by omega)
  have d6:((r.num:Int) == 6)=true:=by rw[beq_iff_eq];omega
  have hc1:W0.cell? ⟨bx,10,none⟩=some (.int .i32 sc):=za H10.out (j:=10) rfl;have hf1:=z7 H10.out 10;have hn2:=rc2 HR0.out;have HP:=hid (Y2 (A:=xrA bx) (T0:=74) (row:=jm) (st:=(l,(a,(t,(k,((bp,vp),(sc,(zc,(sp,(sn,(f,(es,((bm,vm),((bg,vg),th)))))))))))))) (st':=(l,(a,(t,(k,((bp,vp),(zag (r.n%2^32),(zc,(sp,(sn,(f,(es,((bm,vm),((bg,vg),th)))))))))))))) (v:=(vl,(ves,(vsp,vsn)))) 10 (.int .i32 (zag (r.n%2^32))) H10.out H20.out rfl ⟨rfl,rfl,rfl,rfl⟩);rw[<-HW0.out]at hc1 hf1;rw[<-HW0.out,<-HRB.out]at hn2;have HNN:Hid (r.n<2^64):=hn64;clear hty hk HKN hN6;go_enter Tryz.func19,Tryz.ntmps19;go_wp2_with fail;refine(z5h r.n _ HNN).mono ?_;rintro e w' ⟨rfl,rfl⟩;go_wp2_with fail;rw[HW0.out];go_ret;exact x5 HSE.out ((HU0.out.mono fun _ _ h=>h.elim).trans (HP.out.2.mono fun k _ h => .inl h)) HP.out.1 (fun k hk => .inl hk)
 by_cases hN8:r.num=8
 ·have hty:r.num=8/\r.ty=2:=by omega
  have HSE:=hid (xrF_8 hty D l a t k bp vp sc zc sp sn f es bm vm bg vg th);have d1:((r.num:Int) == 1)=false:=ibf (by omega)
  have d6:((r.num:Int) == 6)=false:=ibf (by omega)
  have d8:((r.num:Int) == 8)=true:=by rw[beq_iff_eq];omega
  clear hty hk HKN hN8;go_enter Tryz.func19,Tryz.ntmps19;go_wp2_with fail;rw[HW0.out];go_upto_region 8 with fail
  all_goals
   obtain⟨D0,hD0⟩:=nmd (W0.drew)
   have hB0:Below W0.heap.size W0 D0:=by rw[<-hD0];exact(Below.refl _ _).drew
   have hS:(fun w':World=>w'.heap[rb]?=some (.cells #[.int .i64 r.num,.int .i64 r.ty,.int .u64 r.n,.string X,.string ⟨r.raw.toArray⟩] 78 (0,0))) D0:=(hB0.block _ (z8 HR0.out)).trans HR0.out;have hne:Nonempty {w':World // (fun w':World=>w'.heap[rb]?=some (.cells #[.int .i64 r.num,.int .i64 r.ty,.int .u64 r.n,.string X,.string ⟨r.raw.toArray⟩] 78 (0,0))) w'}:=⟨⟨_,hS⟩⟩
   refine zj (S:=fun w':World=>w'.heap[rb]?=some (.cells #[.int .i64 r.num,.int .i64 r.ty,.int .u64 r.n,.string X,.string ⟨r.raw.toArray⟩] 78 (0,0))) [(0,true),(1,true),(2,true),(3,true),(4,true),(5,false)] (by kernel_rfl) (by kernel_rfl) (by kernel_rfl) (by kernel_rfl) (by rw[hD0];exact hS) ?_;rw[hD0]
   iterate 4 (refine zf _ rfl (fun KC hK=>?_);go_simp;(first|refine hK _ ?_|refine⟨_,fun _ _=>rfl,hK _ ?_⟩);clear hK KC)
   refine zf _ rfl (fun KC hK=>?_);go_simp;refine⟨.string X,fun a ha=>by rw[za ha (j:=3) rfl];rfl,hK _ ?_⟩;clear hK KC;have H2D:Hid ((xrA bx).rel (l,(a,(t,(k,((bp,vp),(sc,(zc,(sp,(sn,(f,(es,((bm,vm),((bg,vg),th))))))))))))) (vl,(ves,(vsp,vsn))) P1 D0):=hid ((xrA bx).kept H20.out ((Upd.of_new (S:=fun _=>False) hB0).mono fun _ _ h=>h.elim));obtain⟨Pi,hls,hsub,hput⟩:=zbz bx _ _ _ _ H2D.out;have HPUT:=hid hput;have HSUB:=hid hsub;clear hput hsub;have HA:=hid (z3y (cs:=jm (l,(a,(t,(k,((bp,vp),(sc,(zc,(sp,(sn,(f,(es,((bm,vm),((bg,vg),th))))))))))))) (vl,(ves,(vsp,vsn)))) (T:=74) bx 24 vsp sp (bx+1) Pi r.s D0 (hid ((hB0.block _ (z8 H10.out)).trans H10.out)) rfl (hid hls) (by omega) (by have:=hB0.size;omega) hlsp);unfold strV at HA
   rw[HX.out]at HA;clear hls;refine zo _ rfl (fun KC hK=>?_);go_simp;refine HA.out.mono ?_;rintro e w1 ⟨rfl,hpost⟩
   have hS1:(fun w':World=>w'.heap[rb]?=some (.cells #[.int .i64 r.num,.int .i64 r.ty,.int .u64 r.n,.string X,.string ⟨r.raw.toArray⟩] 78 (0,0))) w1:=(hpost.1.block rb (z8 hS) (fun e=>by
    rcases e with e|e
    ·omega
    ·have:=HP1.out rb (HSUB.out rb e);have:=HRB.out;omega)).trans hS
   obtain⟨_,hu,P',hr,hp⟩:=Yq (A:=xrA bx) (put:=fun (v:Value × Value × Value × Value) v'=>((v.1,(v.2.1,(v',v.2.2.2))):Value × Value × Value × Value)) (sm:=fun st st':xrS=>(st'.1=st.1)/\(st'.2.2.2.2.2.2.2.2.2.2.1=st.2.2.2.2.2.2.2.2.2.2.1)/\(True)/\st'.2.2.2.2.2.2.2.2.1=st.2.2.2.2.2.2.2.2.1) (ls:=fun st:xrS=>st.2.2.2.2.2.2.2.1) (st:=(l,(a,(t,(k,((bp,vp),(sc,(zc,(sp,(sn,(f,(es,((bm,vm),((bg,vg),th)))))))))))))) (st':=(l,(a,(t,(k,((bp,vp),(sc,(zc,(sp++[r.s],(sn,(f,(es,((bm,vm),((bg,vg),th)))))))))))))) (v:=(vl,(ves,(vsp,vsn)))) H2D.out HPUT.out hpost (fun v'=>rfl) ⟨rfl,rfl,trivial,rfl⟩ rfl HSUB.out;go_simp;refine hK.out _ _ hS1 ?_;clear hK KC;refine zw ?_;have HU:=hid hu;have HRL:=hid hr;have HP:=hid hp;clear hu hr hp hpost;go_wp2_with fail;go_ret;exact x5 HSE.out (((HU0.out.mono fun _ _ h=>h.elim).trans (Upd.of_new hB0)).trans HU.out) HRL.out (fun k hk=>(HP.out k hk).imp id (fun h=>Nat.le_trans (Nat.le_trans hsz hB0.size) h))
 by_cases hN9:r.num=9
 ·have hty:r.num=9/\r.ty=2:=by omega
  have HSE:=hid (xrF_9 hty D l a t k bp vp sc zc sp sn f es bm vm bg vg th);have d1:((r.num:Int) == 1)=false:=ibf (by omega)
  have d6:((r.num:Int) == 6)=false:=ibf (by omega)
  have d8:((r.num:Int) == 8)=false:=ibf (by omega)
  have d9:((r.num:Int) == 9)=true:=by rw[beq_iff_eq];omega
  clear hty hk HKN hN9;go_enter Tryz.func19,Tryz.ntmps19;go_wp2_with fail;rw[HW0.out];go_upto_region 10 with fail
  all_goals
   obtain⟨D0,hD0⟩:=nmd (W0.drew)
   have hB0:Below W0.heap.size W0 D0:=by rw[<-hD0];exact(Below.refl _ _).drew
   have hS:(fun w':World=>w'.heap[rb]?=some (.cells #[.int .i64 r.num,.int .i64 r.ty,.int .u64 r.n,.string X,.string ⟨r.raw.toArray⟩] 78 (0,0))) D0:=(hB0.block _ (z8 HR0.out)).trans HR0.out;have hne:Nonempty {w':World // (fun w':World=>w'.heap[rb]?=some (.cells #[.int .i64 r.num,.int .i64 r.ty,.int .u64 r.n,.string X,.string ⟨r.raw.toArray⟩] 78 (0,0))) w'}:=⟨⟨_,hS⟩⟩
   refine zj (S:=fun w':World=>w'.heap[rb]?=some (.cells #[.int .i64 r.num,.int .i64 r.ty,.int .u64 r.n,.string X,.string ⟨r.raw.toArray⟩] 78 (0,0))) [(0,true),(1,true),(2,true),(3,true),(4,true),(5,false)] (by kernel_rfl) (by kernel_rfl) (by kernel_rfl) (by kernel_rfl) (by rw[hD0];exact hS) ?_;rw[hD0]
   iterate 4 (refine zf _ rfl (fun KC hK=>?_);go_simp;(first|refine hK _ ?_|refine⟨_,fun _ _=>rfl,hK _ ?_⟩);clear hK KC)
   refine zf _ rfl (fun KC hK=>?_);go_simp;refine⟨.string X,fun a ha=>by rw[za ha (j:=3) rfl];rfl,hK _ ?_⟩;clear hK KC;have H2D:Hid ((xrA bx).rel (l,(a,(t,(k,((bp,vp),(sc,(zc,(sp,(sn,(f,(es,((bm,vm),((bg,vg),th))))))))))))) (vl,(ves,(vsp,vsn))) P1 D0):=hid ((xrA bx).kept H20.out ((Upd.of_new (S:=fun _=>False) hB0).mono fun _ _ h=>h.elim));obtain⟨Pi,hls,hsub,hput⟩:=zbw bx _ _ _ _ H2D.out;have HPUT:=hid hput;have HSUB:=hid hsub;clear hput hsub;have HA:=hid (z3y (cs:=jm (l,(a,(t,(k,((bp,vp),(sc,(zc,(sp,(sn,(f,(es,((bm,vm),((bg,vg),th))))))))))))) (vl,(ves,(vsp,vsn)))) (T:=74) bx 25 vsn sn (bx+1) Pi r.s D0 (hid ((hB0.block _ (z8 H10.out)).trans H10.out)) rfl (hid hls) (by omega) (by have:=hB0.size;omega) hlsn);unfold strV at HA
   rw[HX.out]at HA;clear hls;refine zo _ rfl (fun KC hK=>?_);go_simp;refine HA.out.mono ?_;rintro e w1 ⟨rfl,hpost⟩
   have hS1:(fun w':World=>w'.heap[rb]?=some (.cells #[.int .i64 r.num,.int .i64 r.ty,.int .u64 r.n,.string X,.string ⟨r.raw.toArray⟩] 78 (0,0))) w1:=(hpost.1.block rb (z8 hS) (fun e=>by
    rcases e with e|e
    ·omega
    ·have:=HP1.out rb (HSUB.out rb e);have:=HRB.out;omega)).trans hS
   obtain⟨_,hu,P',hr,hp⟩:=Yq (A:=xrA bx) (put:=fun (v:Value × Value × Value × Value) v'=>((v.1,(v.2.1,(v.2.2.1,v'))):Value × Value × Value × Value)) (sm:=fun st st':xrS=>(st'.1=st.1)/\(st'.2.2.2.2.2.2.2.2.2.2.1=st.2.2.2.2.2.2.2.2.2.2.1)/\(st'.2.2.2.2.2.2.2.1=st.2.2.2.2.2.2.2.1)/\True) (ls:=fun st:xrS=>st.2.2.2.2.2.2.2.2.1) (st:=(l,(a,(t,(k,((bp,vp),(sc,(zc,(sp,(sn,(f,(es,((bm,vm),((bg,vg),th)))))))))))))) (st':=(l,(a,(t,(k,((bp,vp),(sc,(zc,(sp,(sn++[r.s],(f,(es,((bm,vm),((bg,vg),th)))))))))))))) (v:=(vl,(ves,(vsp,vsn)))) H2D.out HPUT.out hpost (fun v'=>rfl) ⟨rfl,rfl,rfl,trivial⟩ rfl HSUB.out;go_simp;refine hK.out _ _ hS1 ?_;clear hK KC;refine zw ?_;have HU:=hid hu;have HRL:=hid hr;have HP:=hid hp;clear hu hr hp hpost;go_wp2_with fail;go_ret;exact x5 HSE.out (((HU0.out.mono fun _ _ h=>h.elim).trans (Upd.of_new hB0)).trans HU.out) HRL.out (fun k hk=>(HP.out k hk).imp id (fun h=>Nat.le_trans (Nat.le_trans hsz hB0.size) h))
 by_cases hN10:r.num=10
 ·have hty:r.num=10/\r.ty=0:=by omega
  have HSE:=hid (zdk hty D l a t k bp vp sc zc sp sn f es bm vm bg vg th);have d1:((r.num:Int) == 1)=false:=ibf (by omega)
  have d6:((r.num:Int) == 6)=false:=ibf (by omega)
  have d8:((r.num:Int) == 8)=false:=ibf (by omega)
  have d9:((r.num:Int) == 9)=false:=ibf (by omega)
  have d10:((r.num:Int) == 10)=true:=by rw[beq_iff_eq];omega
  have q1:=z7j r.n;have hc21:W0.cell? ⟨bx,21,none⟩=some (.int .u32 f):=za H10.out (j:=21) rfl;have hf21:=z7 H10.out 21;have HP:=hid (Y2 (A:=xrA bx) (T0:=74) (row:=jm) (st:=(l,(a,(t,(k,((bp,vp),(sc,(zc,(sp,(sn,(f,(es,((bm,vm),((bg,vg),th)))))))))))))) (st':=(l,(a,(t,(k,((bp,vp),(sc,(zc,(sp,(sn,(r.n%4294967296,(es,((bm,vm),((bg,vg),th)))))))))))))) (v:=(vl,(ves,(vsp,vsn)))) 21 (.int .u32 ((r.n:Int)%4294967296)) H10.out H20.out (by unfold jm;rw[show((r.n:Int)%4294967296)=((r.n%4294967296:Nat):Int)by omega];rfl) ⟨rfl,rfl,rfl,rfl⟩);rw[<-HW0.out]at hc21 hf21;clear hty hk HKN hN10;go_enter Tryz.func19,Tryz.ntmps19;go_wp2_with fail;rw[HW0.out];go_ret;exact x5 HSE.out ((HU0.out.mono fun _ _ h=>h.elim).trans (HP.out.2.mono fun k _ h => .inl h)) HP.out.1 (fun k hk => .inl hk)
 by_cases hN11:r.num=11
 ·have hty:r.num=11/\r.ty=2:=by omega
  have HSE:=hid (zbr hty D l a t k bp vp sc zc sp sn f es bm vm bg vg th);have HUK:=hid (hUes.out hty.1);have d1:((r.num:Int) == 1)=false:=ibf (by omega)
  have d6:((r.num:Int) == 6)=false:=ibf (by omega)
  have d8:((r.num:Int) == 8)=false:=ibf (by omega)
  have d9:((r.num:Int) == 9)=false:=ibf (by omega)
  have d10:((r.num:Int) == 10)=false:=ibf (by omega)
  have d11:((r.num:Int) == 11)=true:=by rw[beq_iff_eq];omega
  clear hty hk HKN hN11;go_enter Tryz.func19,Tryz.ntmps19;go_wp2_with fail;rw[HW0.out];go_upto_region 14 with fail
  all_goals
   obtain⟨D0,hD0⟩:=nmd (W0.drew)
   have hB0:Below W0.heap.size W0 D0:=by rw[<-hD0];exact(Below.refl _ _).drew
   have hS:(fun w':World=>w'.heap[rb]?=some (.cells #[.int .i64 r.num,.int .i64 r.ty,.int .u64 r.n,.string X,.string ⟨r.raw.toArray⟩] 78 (0,0))) D0:=(hB0.block _ (z8 HR0.out)).trans HR0.out;have hne:Nonempty {w':World // (fun w':World=>w'.heap[rb]?=some (.cells #[.int .i64 r.num,.int .i64 r.ty,.int .u64 r.n,.string X,.string ⟨r.raw.toArray⟩] 78 (0,0))) w'}:=⟨⟨_,hS⟩⟩
   refine zj (S:=fun w':World=>w'.heap[rb]?=some (.cells #[.int .i64 r.num,.int .i64 r.ty,.int .u64 r.n,.string X,.string ⟨r.raw.toArray⟩] 78 (0,0))) [(0,true),(1,true),(2,true),(3,true),(4,true),(5,true),(6,true),(7,false),(8,true)] (by kernel_rfl) (by kernel_rfl) (by kernel_rfl) (by kernel_rfl) (by rw[hD0];exact hS) ?_;rw[hD0]
   iterate 5 (refine zf _ rfl (fun KC hK=>?_);go_simp;(first|refine hK _ ?_|refine⟨_,fun _ _=>rfl,hK _ ?_⟩);clear hK KC)
   refine zf _ rfl (fun KC hK=>?_);go_simp;refine⟨.string X,fun a ha=>by rw[za ha (j:=3) rfl];rfl,hK _ ?_⟩;clear hK KC
   (refine zf _ rfl (fun KC hK=>?_);go_simp;(first|refine hK _ ?_|refine⟨_,fun _ _=>rfl,hK _ ?_⟩);clear hK KC)
   have H2D:Hid ((xrA bx).rel (l,(a,(t,(k,((bp,vp),(sc,(zc,(sp,(sn,(f,(es,((bm,vm),((bg,vg),th))))))))))))) (vl,(ves,(vsp,vsn))) P1 D0):=hid ((xrA bx).kept H20.out ((Upd.of_new (S:=fun _=>False) hB0).mono fun _ _ h=>h.elim));obtain⟨Pi,hls,hsub,hput⟩:=zbb bx _ _ _ _ H2D.out;have HPUT:=hid hput;have HSUB:=hid hsub;clear hput hsub;have HA:=hid (zd3 bx 20 (bx+1) (jm (l,(a,(t,(k,((bp,vp),(sc,(zc,(sp,(sn,(f,(es,((bm,vm),((bg,vg),th))))))))))))) (vl,(ves,(vsp,vsn)))) 74 ves es Pi 61 X (D-1) (exrd r.s (D-1)) D0 (enters_of Tryz.func61 (by kernel_rfl) rfl) (hid ((hB0.block _ (z8 H10.out)).trans H10.out)) rfl ⟨by omega,by have:=hB0.size;omega⟩ (hid hls) hles (hid (fun w'=>by have:=HUK.out X (D-1) w' (by omega) (by omega);rwa [HXD.out]at this)));clear hls;refine zo _ rfl (fun KC hK=>?_);go_simp;refine HA.out.mono ?_;intro e w1 hpost
   have hS1:(fun w':World=>w'.heap[rb]?=some (.cells #[.int .i64 r.num,.int .i64 r.ty,.int .u64 r.n,.string X,.string ⟨r.raw.toArray⟩] 78 (0,0))) w1:=(hpost.1.block rb (z8 hS) (fun e=>by
    rcases e with e|e
    ·omega
    ·have:=HP1.out rb (HSUB.out rb e);have:=HRB.out;omega)).trans hS
   cases hrd:exrd r.s (D-1)with
   | error c =>
    rw[hrd]at hpost HSE;obtain⟨hu1,y,rfl,hec⟩:=hpost;have hu1:=hu1.mono (S':=fun k=>k=bx∨P1 k) (fun k _ h=>h.imp id (HSUB.out k));obtain⟨T',z,rfl⟩:=hec.iface;go_simp;refine hK.out _ _ hS1 ?_;clear hK KC
    (refine zf _ rfl (fun KC hK=>?_);go_simp;(first|refine hK _ ?_|refine⟨_,fun _ _=>rfl,hK _ ?_⟩);clear hK KC)
    refine zw ?_;go_wp2_with fail;go_ret;exact Zx HSE.out (((HU0.out.mono fun _ _ h=>h.elim).trans (Upd.of_new hB0)).trans hu1) hec
   | ok x =>
    rw[hrd]at hpost HSE;obtain⟨rfl,hu,P',hr,hp⟩:=Yq (A:=xrA bx) (put:=fun (v:Value × Value × Value × Value) v'=>((v.1,(v',(v.2.2.1,v.2.2.2))):Value × Value × Value × Value)) (sm:=fun st st':xrS=>(st'.1=st.1)/\(True)/\(st'.2.2.2.2.2.2.2.1=st.2.2.2.2.2.2.2.1)/\st'.2.2.2.2.2.2.2.2.1=st.2.2.2.2.2.2.2.2.1) (ls:=fun st:xrS=>st.2.2.2.2.2.2.2.2.2.2.1) (st:=(l,(a,(t,(k,((bp,vp),(sc,(zc,(sp,(sn,(f,(es,((bm,vm),((bg,vg),th)))))))))))))) (st':=(l,(a,(t,(k,((bp,vp),(sc,(zc,(sp,(sn,(f,(es++[x],((bm,vm),((bg,vg),th)))))))))))))) (v:=(vl,(ves,(vsp,vsn)))) H2D.out HPUT.out hpost (fun v'=>rfl) ⟨rfl,trivial,rfl,rfl⟩ rfl HSUB.out;go_simp;refine hK.out _ _ hS1 ?_;clear hK KC
    (refine zf _ rfl (fun KC hK=>?_);go_simp;(first|refine hK _ ?_|refine⟨_,fun _ _=>rfl,hK _ ?_⟩);clear hK KC)
    refine zw ?_;have HU:=hid hu;have HRL:=hid hr;have HP:=hid hp;clear hu hr hp hpost hrd;go_wp2_with fail;go_ret;exact x5 HSE.out (((HU0.out.mono fun _ _ h=>h.elim).trans (Upd.of_new hB0)).trans HU.out) HRL.out (fun k hk=>(HP.out k hk).imp id (fun h=>Nat.le_trans (Nat.le_trans hsz hB0.size) h))
 have d1:((r.num:Int) == 1)=false:=ibf (by omega)
 have d6:((r.num:Int) == 6)=false:=ibf (by omega)
 have d8:((r.num:Int) == 8)=false:=ibf (by omega)
 have d9:((r.num:Int) == 9)=false:=ibf (by omega)
 have d10:((r.num:Int) == 10)=false:=ibf (by omega)
 have d11:((r.num:Int) == 11)=false:=ibf (by omega)
 have HNO:Hid (r.num≠1/\r.num≠6/\r.num≠8/\r.num≠9/\r.num≠10/\r.num≠11):=hid ⟨hN1,hN6,hN8,hN9,hN10,hN11⟩;have HTK:Hid (xrF.tk r=true):=hid (by rw[Jj,decide_eq_true_eq];exact hk);have HREL:Hid ((xrT bx).rel (l,(a,(t,(k,((bp,vp),(sc,(zc,(sp,(sn,(f,(es,((bm,vm),((bg,vg),th))))))))))))) (fun k=>k=bx∨P1 k) W0):=hid ⟨(vl,(ves,(vsp,vsn))),P1,H10.out,H20.out,rfl⟩;clear hk HKN hN1 hN6 hN8 hN9 hN10 hN11;go_enter Tryz.func19,Tryz.ntmps19;go_wp2_with fail;rw[HW0.out];go_upto_region 2 with fail
 all_goals
   obtain⟨D0,hD0⟩:=nmd (W0.drew)
   have hB0:Below W0.heap.size W0 D0:=by rw[<-hD0];exact(Below.refl _ _).drew
   have hS:(fun w':World=>w'.heap[rb]?=some (.cells #[.int .i64 r.num,.int .i64 r.ty,.int .u64 r.n,.string X,.string ⟨r.raw.toArray⟩] 78 (0,0))) D0:=(hB0.block _ (z8 HR0.out)).trans HR0.out;have hne:Nonempty {w':World // (fun w':World=>w'.heap[rb]?=some (.cells #[.int .i64 r.num,.int .i64 r.ty,.int .u64 r.n,.string X,.string ⟨r.raw.toArray⟩] 78 (0,0))) w'}:=⟨⟨_,hS⟩⟩
   refine zj (S:=fun w':World=>w'.heap[rb]?=some (.cells #[.int .i64 r.num,.int .i64 r.ty,.int .u64 r.n,.string X,.string ⟨r.raw.toArray⟩] 78 (0,0))) [(0,true),(1,true),(2,true),(3,true),(4,false)] (by kernel_rfl) (by kernel_rfl) (by kernel_rfl) (by kernel_rfl) (by rw[hD0];exact hS) ?_;rw[hD0]
   iterate 3 (refine zf _ rfl (fun KC hK=>?_);go_simp;(first|refine hK _ ?_|refine⟨_,fun _ _=>rfl,hK _ ?_⟩);clear hK KC)
   refine zf _ rfl (fun KC hK=>?_);go_simp;refine⟨.agg #[.int .i64 r.num,.int .i64 r.ty,.int .u64 r.n,.string X,.string ⟨r.raw.toArray⟩],fun a ha=>by(obtain⟨e0,e1,e2,e3,e4⟩:=row5 ha);simp only[e0,e1,e2,e3,e4,Result.andThen],hK _ ?_⟩;clear hK KC;have HRELD:Hid ((xrT bx).rel (l,(a,(t,(k,((bp,vp),(sc,(zc,(sp,(sn,(f,(es,((bm,vm),((bg,vg),th))))))))))))) (fun k=>k=bx∨P1 k) D0):=hid ((xrT bx).kept _ _ _ _ HREL.out (Upd.of_new hB0));have HA:=hid (zbj bx D r (l,(a,(t,(k,((bp,vp),(sc,(zc,(sp,(sn,(f,(es,((bm,vm),((bg,vg),th))))))))))))) (fun k=>k=bx∨P1 k) D0 HTK.out HNO.out HRELD);unfold recV at HA
   rw[HX.out]at HA;refine zo _ rfl (fun KC hK=>?_);go_simp;refine HA.out.mono ?_;rintro e w1 ⟨rfl,hu,st',hse,hr⟩
   have hS1:(fun w':World=>w'.heap[rb]?=some (.cells #[.int .i64 r.num,.int .i64 r.ty,.int .u64 r.n,.string X,.string ⟨r.raw.toArray⟩] 78 (0,0))) w1:=(hu.block rb (z8 hS) (fun e=>by
    rcases e with e|e
    ·omega
    ·have:=HP1.out rb e;have:=HRB.out;omega)).trans hS
   go_simp;refine hK.out _ _ hS1 ?_;clear hK KC;refine zw ?_;have HU:=hid hu;have HRL:=hid hr;have HSE:=hid hse;clear hu hr hse;go_wp2_with fail;go_ret;exact x5 HSE.out (((HU0.out.mono fun _ _ h=>h.elim).trans (Upd.of_new hB0)).trans HU.out) HRL.out (fun k hk => .inl hk)
end Go.Proofs.YtmlghmjjlpioeaaGreatDoor
