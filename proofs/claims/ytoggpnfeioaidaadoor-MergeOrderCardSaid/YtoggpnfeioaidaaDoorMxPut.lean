/-
  MxFitted, MxPut
-/
import Derived.Test.YtoggpnfeioaidaaDoorMxFitAt
import Derived.Test.YtoggpnfeioaidaaDoorMhHist
set_option maxRecDepth 1000000
set_option maxHeartbeats 16000000
namespace Go.Proofs.YtoggpnfeioaidaaDoor
open Go.RowKit
def dA (x y:Sd):Nat:=(x.sc - min x.sc y.sc).toNat
def dB (x y:Sd):Nat:=(y.sc - min x.sc y.sc).toNat
def bAt (x y:Sd) (j:Nat):Bool:=fBad (dA x y+j) (dB x y+j) (min x.sc y.sc - j)
def pAt (x y:Sd) (j:Nat):List Pt:=x.pos (dA x y+j)++y.pos (dB x y+j)
def nAt (x y:Sd) (j:Nat):List Pt:=x.neg (dA x y+j)++y.neg (dB x y+j)
def wAt (x y:Sd) (most:Int) (j:Nat):Bool:=wide (pAt x y j) (nAt x y j) most
def FtNo (x y:Sd) (most:Int):Prop:=most<1∨320<most∨∃ j,bAt x y j=true∧∀ i,i<j→bAt x y i=false∧wAt x y most i=true
def FtAt (x y:Sd) (most:Int) (j:Nat):Prop:=(1≤most∧most≤320)∧bAt x y j=false∧wAt x y most j=false∧∀ i,i<j→bAt x y i=false∧wAt x y most i=true
def FtdPost (x y:Sd) (most:Int) (lim:Nat) (w:World) (E:Ending) (w':World):Prop:=Below w.heap.size w w'∧∃ s1 s2 sv v,E = .returned (.tuple #[.agg #[s1,s2],.int .i32 sv,v]) ∧
 ((FtNo x y most∧EC w' v 9∧s1 = .slice none 0 0∧s2 = .slice none 0 0)∨(v = .nilIface∧∃ j,FtAt x y most j∧sv=min x.sc y.sc - j∧SdAt lim s1 (pAt x y j) w'∧SdAt lim s2 (nAt x y j) w'∧(∀ k,s1.ownBlock=some k→w.heap.size≤k)∧∀ k,s2.ownBlock=some k→w.heap.size≤k))
theorem bAt_le {x y:Sd} {j:Nat} (h:bAt x y j=false):dA x y+j≤31∧dB x y+j≤31∧(j=0 ∨ -10≤min x.sc y.sc - j):=by
 unfold bAt fBad at h
 simp only[Bool.or_eq_false_iff,Bool.and_eq_false_iff,decide_eq_false_iff_not] at h
 omega
theorem FatPost.form {x y:Sd} {da db:Nat} {most sc:Int} {lim:Nat} {ew:Value} {w:World} {E:Ending} {w':World} (h:FatPost x y da db most sc lim ew w E w'):Below w.heap.size w w'∧∃ s1 s2 v,E = .returned (.tuple #[.agg #[s1,s2],v])∧s1.oneCell'=true∧s2.oneCell'=true ∧
 ((fBad da db sc=true∧s1 = .slice none 0 0∧s2 = .slice none 0 0∧EC w' v 9)∨(fBad da db sc=false∧wide (x.pos da++y.pos db) (x.neg da++y.neg db) most=true∧v=ew) ∨
 (fBad da db sc=false∧wide (x.pos da++y.pos db) (x.neg da++y.neg db) most=false∧v = .nilIface∧SdAt lim s1 (x.pos da++y.pos db) w'∧SdAt lim s2 (x.neg da++y.neg db) w'∧(∀ k,s1.ownBlock=some k→w.heap.size≤k)∧(∀ k,s2.ownBlock=some k→w.heap.size≤k))):=by
 obtain ⟨hb,S,v,rfl,h|h|h⟩:=h
 ·obtain ⟨h1,rfl,h2⟩:=h
  exact ⟨hb,_,_,_,rfl,rfl,rfl,.inl ⟨h1,rfl,rfl,h2⟩⟩
 ·obtain ⟨h1,h2,rfl,h3⟩:=h
  exact ⟨hb,_,_,_,rfl,rfl,rfl,.inr (.inl ⟨h1,h2,h3⟩)⟩
 ·obtain ⟨h1,h2,rfl,v1,v2,rfl,h3,h4,h5,h6⟩:=h
  obtain ⟨lo1,cp1,rfl⟩:=h3.slice
  obtain ⟨lo2,cp2,rfl⟩:=h4.slice
  exact ⟨hb,_,_,_,rfl,rfl,rfl,.inr (.inr ⟨h1,h2,rfl,h3,h4,h5,h6⟩)⟩
theorem ec_updS {w w':World} {v:Value} {a c:Nat} {cs:Array Value} {T:TypeId} (h:EC w v c) (hu:Upd (fun k=>k=a) w w') (hr:w.heap[a]? = some (.cells cs T (0,0))) (hT:∀ b,T≠wrapS b:=by decide):EC w' v c:=by
 obtain ⟨ws,h⟩:=h
 refine ⟨ws,isErr_upd hu (fun k hk b n e he=>?_) h⟩
 have hk:k=a:=hk
 subst hk
 rw[hr] at he
 have h1:=congrArg (fun o:Option Obj=>match o with|some (.cells _ t _)=>t|_=>0) he
 exact absurd h1 (hT b)
theorem body_cell3v {P:Program} {fn:Func} {R:Ending→World→Prop} {a:Act} {w:World} {p u u2:Tmp} {ty:TypeId} {g:Nat} {cs:Array Value}
  (h:fn.results=#[.cell p ty,.tmp u,.tmp u2]) (hp:a.tmps.getD p undef = .pointer (some ⟨g,0,none⟩)) (hl:(loadVar ty ⟨g,0,none⟩).run P w = .ok (.agg cs) w) (hdf:a.defers=[])
  (hR:R (.returned (.tuple #[.agg cs,a.tmps.getD u undef,a.tmps.getD u2 undef])) w):bodyPost P fn R .ret a w:=by
 refine bodyPost_ret ?_ hdf hR
 have hp':a.tmps[p]?.getD undef = .pointer (some ⟨g,0,none⟩):=by simpa using hp
 have hr:(asAddr (a.tmps[p]?.getD undef)).run P w = .ok ⟨g,0,none⟩ w:=by rw[hp'];rfl
 simp[results,h,Sem.run_bind,Result.andThen,hr,hl]
theorem fitted_any (x y:Sd) (c1 c2:List Value) (most:Int) (ew:Addr) (w:World) (hew:Hid (WideAt ew w)) (lim:Nat) (hlim:lim≤w.heap.size) (h1:Hid (TkP x c1 lim w)) (h2:Hid (TkP y c2 lim w)) (hsx : -2147483648≤x.sc∧x.sc≤2147483647) (hsy : -2147483648≤y.sc∧y.sc≤2147483647) (hok:Hid (∀ sa sb,sa≤31→sb≤31→(∀ p∈x.pos sa++y.pos sb,p.Ok)∧(∀ p∈x.neg sa++y.neg sb,p.Ok))) :
  Calls Tryd.prog 21 #[.agg c1.toArray,.agg c2.toArray,.int .i64 most] w (FtdPost x y most lim w):=by
 have HL1:=Lib.hid h1.out.len
 have HL2:=Lib.hid h2.out.len
 obtain ⟨B,HB⟩:∃ b,Hid (w.heap.size=b):=⟨_,Lib.hid rfl⟩
 obtain ⟨W,HW⟩:∃ X,Hid (((w.alloc (.cells c1.toArray 32)).alloc (.cells c2.toArray 32)).alloc (.cells #[.slice none 0 0,.slice none 0 0] 68)=X):=⟨_,Lib.hid rfl⟩
 have HBW:Hid (Below w.heap.size w W):=Lib.hid (by rw[←HW.out];exact ((below_new _ _).alloc (by simp) _).alloc (by simp;omega) _)
 have HA:Hid (W.heap[B]? = some (.cells c1.toArray 32 (0,0))):=Lib.hid (by rw[←HW.out,←HB.out];exact (Below.heap_alloc _ _ _ (by simp;omega)).trans ((Below.heap_alloc _ _ _ (by simp)).trans (heap_alloc_new w _)))
 have HAB:Hid (W.heap[B+1]? = some (.cells c2.toArray 32 (0,0))):=Lib.hid (by rw[←HW.out,←HB.out];exact (Below.heap_alloc _ _ _ (by simp)).trans (by rw[←World.size_alloc w (.cells c1.toArray 32)];exact heap_alloc_new (w.alloc _) _))
 have HR:Hid (W.heap[B+2]? = some (.cells #[.slice none 0 0,.slice none 0 0] 68 (0,0))):=Lib.hid (by rw[←HW.out,←HB.out];rw[show w.heap.size+2=((w.alloc (.cells c1.toArray 32)).alloc (.cells c2.toArray 32)).heap.size by rw[World.size_alloc,World.size_alloc]];exact heap_alloc_new ((w.alloc _).alloc _) _)
 have HSZ:Hid (W.heap.size=B+3):=Lib.hid (by rw[←HW.out,←HB.out];rw[World.size_alloc,World.size_alloc,World.size_alloc])
 go_enter Tryd.func21,Tryd.ntmps21
 go_upto_region 1 with fail
 rw[show w.heap.size+1+1=w.heap.size+2 from rfl,HW.out,HB.out]
 by_cases k1:most<1
 ·have dk1:decide (most<1)=true:=decide_eq_true k1
  have HNO:Hid (FtNo x y most):=Lib.hid (by unfold FtNo;omega)
  clear k1
  go_wp2_with fail
  refine (at_any most _ _ W).mono ?_;rintro E w3 ⟨rfl,hw3⟩
  have hn3:Below W.heap.size W w3:=by rw[hw3];exact below_new _ _
  have HB3:Hid (Below w.heap.size w w3):=Lib.hid (below_step HBW.out hn3)
  have HR3:=Lib.hid ((hn3.block _ (row_lt HR.out)).trans HR.out)
  have HF3:Hid (w3.heap[W.heap.size]? = some (.cells #[.int .i64 most,.iface 59 (.int .i64 9)] 92 (0,0))):=Lib.hid (by rw[hw3];exact heap_alloc_new W _)
  rw[HSZ.out] at HF3 ⊢
  clear hn3 hw3
  have hz0:w3.frozen? ⟨B+2,0,none⟩=false:=row_thaw HR3.out 0
  have ha0:w3.cell? ⟨B+2,0,none⟩=some (.slice none 0 0):=row_cell HR3.out (j:=0) rfl
  have hz1:w3.frozen? ⟨B+2,1,none⟩=false:=row_thaw HR3.out 1
  have ha1:w3.cell? ⟨B+2,1,none⟩=some (.slice none 0 0):=row_cell HR3.out (j:=1) rfl
  go_wp2_with fail
  have HZ:=sd_end (u := .slice none 0 0) (v := .slice none 0 0) HB3.out (by have:=HB.out;omega) HR3.out
  (try simp only[Exit.inBlock,Exit.then])
  refine body_cell3v rfl rfl (load_sd HZ.2.1 rfl) rfl ?_
  exact ⟨HZ.1,_,_,_,_,rfl,.inl ⟨HNO.out,ec_updS ⟨_,isErr_new HF3.out⟩ HZ.2.2 HR3.out,rfl,rfl⟩⟩
 ·have dk1:decide (most<1)=false:=decide_eq_false k1
  by_cases k2:most>320
  ·have dk2:decide (most>320)=true:=decide_eq_true k2
   have HNO:Hid (FtNo x y most):=Lib.hid (by unfold FtNo;omega)
   clear k1 k2
   go_wp2_with fail
   refine (at_any most _ _ W).mono ?_;rintro E w3 ⟨rfl,hw3⟩
   have hn3:Below W.heap.size W w3:=by rw[hw3];exact below_new _ _
   have HB3:Hid (Below w.heap.size w w3):=Lib.hid (below_step HBW.out hn3)
   have HR3:=Lib.hid ((hn3.block _ (row_lt HR.out)).trans HR.out)
   have HF3:Hid (w3.heap[W.heap.size]? = some (.cells #[.int .i64 most,.iface 59 (.int .i64 9)] 92 (0,0))):=Lib.hid (by rw[hw3];exact heap_alloc_new W _)
   rw[HSZ.out] at HF3 ⊢
   clear hn3 hw3
   have hz0:w3.frozen? ⟨B+2,0,none⟩=false:=row_thaw HR3.out 0
   have ha0:w3.cell? ⟨B+2,0,none⟩=some (.slice none 0 0):=row_cell HR3.out (j:=0) rfl
   have hz1:w3.frozen? ⟨B+2,1,none⟩=false:=row_thaw HR3.out 1
   have ha1:w3.cell? ⟨B+2,1,none⟩=some (.slice none 0 0):=row_cell HR3.out (j:=1) rfl
   go_wp2_with fail
   have HZ:=sd_end (u := .slice none 0 0) (v := .slice none 0 0) HB3.out (by have:=HB.out;omega) HR3.out
   (try simp only[Exit.inBlock,Exit.then])
   refine body_cell3v rfl rfl (load_sd HZ.2.1 rfl) rfl ?_
   exact ⟨HZ.1,_,_,_,_,rfl,.inl ⟨HNO.out,ec_updS ⟨_,isErr_new HF3.out⟩ HZ.2.2 HR3.out,rfl,rfl⟩⟩
  ·have dk2:decide (most>320)=false:=decide_eq_false k2
   have HM:Hid (1≤most∧most≤320):=Lib.hid (by omega)
   clear k1 k2
   obtain ⟨m0,HM0⟩:∃ m,Hid (min x.sc y.sc=m):=⟨_,Lib.hid rfl⟩
   have ca:W.cell? ⟨B,10,none⟩=some (.int .i32 x.sc):=row_cell HA.out h1.out.scale
   have cb:W.cell? ⟨B+1,10,none⟩=some (.int .i32 y.sc):=row_cell HAB.out h2.out.scale
   go_wp2_with fail
   rw[HM0.out]
   clear ca cb
   have HMR:Hid (-2147483648≤m0∧m0≤2147483647):=Lib.hid (by have:=HM0.out;omega)
   go_loopg [9] 40 (fun k i wr=>∃ j:Nat,i = .int .i64 (m0 - (j:Int))∧j+k=40∧j≤32∧Hid (Below W.heap.size W wr)∧Hid (∀ q,q<j→bAt x y q=false∧wAt x y most q=true))
   case atStart=>exact ⟨0,by simp,by omega,by omega,Lib.hid (Below.refl _ _),Lib.hid (fun q hq=>by omega)⟩
   case round =>
    obtain ⟨j,rfl,hj,hj32,HBR,HPRE⟩:=hrel
    have HJ:=Lib.hid hj
    have HJ32:=Lib.hid hj32
    clear hj hj32
    have hbw:Below w.heap.size w wr:=below_step HBW.out HBR.out
    have HT1:=Lib.hid (h1.out.upd (S:=fun _=>False) (Upd.of_new hbw) (fun _ h=>h.elim) (Nat.le_refl _))
    have HT2:=Lib.hid (h2.out.upd (S:=fun _=>False) (Upd.of_new hbw) (fun _ h=>h.elim) (Nat.le_refl _))
    have HBWR:=Lib.hid hbw
    have HEW:=Lib.hid (hew.out.below hbw)
    have HAR:=Lib.hid ((HBR.out.block _ (row_lt HA.out)).trans HA.out)
    have HABR:=Lib.hid ((HBR.out.block _ (row_lt HAB.out)).trans HAB.out)
    have HRR:=Lib.hid ((HBR.out.block _ (row_lt HR.out)).trans HR.out)
    clear hbw
    go_upto_region 5 with fail
    refine wp_region_lit ?_
    refine wpList_load_mid rfl 32 (.tmp 3) rfl B 0 rfl c1 _ (range_rowf HAR.out) Tryd.underlying32 rfl (by rw[HL1.out];kernel_rfl) ?_
    refine wpList_load_mid rfl 32 (.tmp 4) rfl (B+1) 0 rfl c2 _ (range_rowf HABR.out) Tryd.underlying32 rfl (by rw[HL2.out];kernel_rfl) ?_
    iterate 2 (refine wpList_plain rfl (fun K hK=>?_);go_simp;refine hK _ _ ?_;clear hK K)
    refine wpList_plain rfl (fun K hK=>?_);go_simp
    refine (fitat_any x y c1 c2 most (m0 - (j:Int)) (dA x y+j) (dB x y+j) ew wr HEW lim (Nat.le_trans hlim HBWR.out.size) HT1 HT2 (by unfold dA;have:=HM0.out;omega) (by unfold dB;have:=HM0.out;omega) (by unfold dA;have:=HJ32.out;omega) (by unfold dB;have:=HJ32.out;omega) hsx hsy (by have:=HM.out;omega) (Lib.hid (fun a b=>hok.out _ _ a b))).mono ?_
    intro E v1 hf
    obtain ⟨hb,s1,s2,v,rfl,o1,o2,hcase⟩:=hf.form
    rw[show fBad (dA x y+j) (dB x y+j) (m0 - (j:Int))=bAt x y j by unfold bAt;rw[HM0.out],show wide (x.pos (dA x y+j)++y.pos (dB x y+j)) (x.neg (dA x y+j)++y.neg (dB x y+j)) most=wAt x y most j from rfl] at hcase
    have HCASE:=Lib.hid hcase
    have HO:=Lib.hid (And.intro o1 o2)
    have HB1:=Lib.hid (below_step HBWR.out hb)
    have HBR1:=Lib.hid (below_step HBR.out hb)
    clear hf hb hcase o1 o2
    go_simp
    refine hK _ _ ?_;clear hK K
    iterate 3 (refine wpList_plain rfl (fun K hK=>?_);go_simp;refine hK _ _ ?_;clear hK K)
    refine wpList_plain rfl (fun K hK=>?_);go_simp;refine hK _ _ ?_;clear hK K
    have HZ0:=heap_alloc_new v1 (.cells #[.slice none 0 0,.slice none 0 0] 68)
    refine wpList_store_row rfl 68 (.tmp 10) (.tmp 36) rfl v1.heap.size #[s1,s2] rfl rfl 68 _ HZ0 (by kernel_rfl) rfl (by simp[HO.out.1,HO.out.2]) ?_
    obtain ⟨t0,HT0⟩:∃ t,Hid (v1.heap.size=t):=⟨_,Lib.hid rfl⟩
    obtain ⟨v2,HV2⟩:∃ X,Hid ((v1.alloc (.cells #[.slice none 0 0,.slice none 0 0] 68)).setRow v1.heap.size #[s1,s2]=X):=⟨_,Lib.hid rfl⟩
    have HT0R:Hid (v2.heap[t0]? = some (.cells #[s1,s2] 68 (0,0))):=Lib.hid (by rw[←HV2.out,←HT0.out];exact setRow_heap _ _ _ _ _ _ HZ0)
    have hb2:Below v1.heap.size v1 v2:=by rw[←HV2.out];exact below_setRow (below_new _ _) (Nat.le_refl _) _
    rw[HV2.out,HT0.out]
    have HB2:=Lib.hid (below_step HB1.out hb2)
    have HBR2:=Lib.hid (below_step HBR1.out hb2)
    have HRR2:=Lib.hid ((HBR2.out.block _ (row_lt HR.out)).trans HR.out)
    have cg:v2.cell? ⟨0,0,none⟩=some (.iface 165 (.pointer (some ew))):=hew.out.below HB2.out
    have HB12:=Lib.hid hb2
    clear hb2 HZ0 HV2 HAR HABR HRR HT1 HT2
    refine wpList_plain rfl (fun K hK=>?_);go_simp;refine hK _ _ ?_;clear hK K
    rcases HCASE.out with ⟨hbad,rfl,rfl,hec⟩|⟨hgood,hwide,rfl⟩|⟨hgood,hfit,rfl,hs1,hs2,hk1,hk2⟩
    ·have HNO:Hid (FtNo x y most):=Lib.hid (.inr (.inr ⟨j,hbad,HPRE.out⟩))
     have HEC:=Lib.hid (hec.below HB12.out)
     obtain ⟨ws,hws⟩:=HEC.out
     have HWS:=Lib.hid hws
     clear hbad hec hws HCASE
     go_wp2_with fail
     refine (errIs_apart ws v 9 ew v2 HWS.out).mono ?_;rintro E w' ⟨rfl,rfl⟩
     have ct0:v2.cell? ⟨t0,0,none⟩=some (.slice none 0 0):=row_cell HT0R.out (j:=0) rfl
     have ct1:v2.cell? ⟨t0,1,none⟩=some (.slice none 0 0):=row_cell HT0R.out (j:=1) rfl
     have hz0:v2.frozen? ⟨B+2,0,none⟩=false:=row_thaw HRR2.out 0
     have ha0:v2.cell? ⟨B+2,0,none⟩=some (.slice none 0 0):=row_cell HRR2.out (j:=0) rfl
     have hz1:v2.frozen? ⟨B+2,1,none⟩=false:=row_thaw HRR2.out 1
     have ha1:v2.cell? ⟨B+2,1,none⟩=some (.slice none 0 0):=row_cell HRR2.out (j:=1) rfl
     go_wp2_with fail
     have HZ:=sd_end (u := .slice none 0 0) (v := .slice none 0 0) HB2.out (by have:=HB.out;omega) HRR2.out
     (try simp only[Exit.inBlock,Exit.then])
     refine body_cell3v rfl rfl (load_sd HZ.2.1 rfl) rfl ?_
     exact ⟨HZ.1,_,_,_,_,rfl,.inl ⟨HNO.out,ec_updS HEC.out HZ.2.2 HRR2.out,rfl,rfl⟩⟩
    ·have HPR:Hid (∀ q,q<j+1→bAt x y q=false∧wAt x y most q=true):=Lib.hid (fun q hq=>by
      by_cases h:q<j
      ·exact HPRE.out q h
      ·obtain rfl:q=j:=by omega
       exact ⟨hgood,hwide⟩)
     have hj31:j+1≤32:=by have:=bAt_le hgood;omega
     have kks:IntKind.i64.wrap (m0 - (j:Int) - 1)=m0 - ((j+1:Nat):Int):=by rw[i64_wrap_id (by have:=HMR.out;omega) (by have:=HMR.out;omega)];omega
     clear hgood hwide HCASE
     go_wp2_with fail
     refine (errIs_other [] _ ew v2 rfl).mono ?_;rintro E w' ⟨rfl,rfl⟩
     go_wp2_with fail
     have hj:=HJ.out
     go_roundg (gk - 1)
     case measure=>omega
     case rel=>exact ⟨j+1,by first|rfl|(rw[←kks])|(congr 1),by omega,hj31,HBR2,HPR⟩
    ·obtain ⟨P1,HP1⟩:∃ P,Hid (x.pos (dA x y+j)++y.pos (dB x y+j)=P):=⟨_,Lib.hid rfl⟩
     obtain ⟨P2,HP2⟩:∃ P,Hid (x.neg (dA x y+j)++y.neg (dB x y+j)=P):=⟨_,Lib.hid rfl⟩
     rw[HP1.out] at hs1
     rw[HP2.out] at hs2
     have HAT:Hid (FtAt x y most j):=Lib.hid ⟨HM.out,hgood,hfit,HPRE.out⟩
     have hle:=bAt_le hgood
     rw[HM0.out] at hle
     have kkc:IntKind.i32.wrap (m0 - (j:Int))=m0 - (j:Int):=i32_wrap_id (by have:=HMR.out;omega) (by have:=HMR.out;omega)
     have HS1:=Lib.hid (hs1.upd (S:=fun _=>False) (Upd.of_new HB12.out) (fun _ h=>h.elim) (fun _ _ h=>h))
     have HS2:=Lib.hid (hs2.upd (S:=fun _=>False) (Upd.of_new HB12.out) (fun _ h=>h.elim) (fun _ _ h=>h))
     obtain ⟨lo1,cp1,rfl⟩:=hs1.slice
     obtain ⟨lo2,cp2,rfl⟩:=hs2.slice
     have HK1:=Lib.hid hk1
     have HK2:=Lib.hid hk2
     clear hgood hfit hs1 hs2 hle HCASE hk1 hk2
     go_wp2_with fail
     refine (errIs_none ew v2).mono ?_;rintro E w' ⟨rfl,rfl⟩
     have ct0:v2.cell? ⟨t0,0,none⟩=some (.slice lo1 P1.length cp1):=row_cell HT0R.out (j:=0) rfl
     have ct1:v2.cell? ⟨t0,1,none⟩=some (.slice lo2 P2.length cp2):=row_cell HT0R.out (j:=1) rfl
     have hz0:v2.frozen? ⟨B+2,0,none⟩=false:=row_thaw HRR2.out 0
     have ha0:v2.cell? ⟨B+2,0,none⟩=some (.slice none 0 0):=row_cell HRR2.out (j:=0) rfl
     have hz1:v2.frozen? ⟨B+2,1,none⟩=false:=row_thaw HRR2.out 1
     have ha1:v2.cell? ⟨B+2,1,none⟩=some (.slice none 0 0):=row_cell HRR2.out (j:=1) rfl
     go_wp2_with fail
     have HZ:=sd_end (u := .slice lo1 P1.length cp1) (v := .slice lo2 P2.length cp2) HB2.out (by have:=HB.out;omega) HRR2.out
     (try simp only[Exit.inBlock,Exit.then])
     refine body_cell3v rfl rfl (load_sd HZ.2.1 rfl) rfl ?_
     refine ⟨HZ.1,_,_,_,_,rfl,.inr ⟨rfl,j,HAT.out,by rw[HM0.out],?_,?_,fun k hk=>Nat.le_trans HBWR.out.size (HK1.out k hk),fun k hk=>Nat.le_trans HBWR.out.size (HK2.out k hk)⟩⟩
     ·rw[show pAt x y j=P1 from HP1.out];exact HS1.out.upd HZ.2.2 (fun k hk=>by have hk:k=B+2:=hk;have:=HB.out;have:=hlim;omega) (fun k hk h=>by have h1:=HK1.out k hk;have h:k=B+2:=h;have:=row_lt HR.out;have:=HBR.out.size;omega)
     ·rw[show nAt x y j=P2 from HP2.out];exact HS2.out.upd HZ.2.2 (fun k hk=>by have hk:k=B+2:=hk;have:=HB.out;have:=hlim;omega) (fun k hk h=>by have h1:=HK2.out k hk;have h:k=B+2:=h;have:=row_lt HR.out;have:=HBR.out.size;omega)
open Go.RowKit
def PutP (b:Nat) (T1 T2:List Pt) (l:List KV) (a t k:Nat) (bp:Bool) (vp:Nat) (bm:Bool) (vm:Nat) (bg:Bool) (vg:Nat) (sc:Int) (zc:Nat) (gp:Bool) (gn:Bool) (es:List Ex) (f th:Nat) (u:List UInt8) (lo:Option Addr) (lc:Nat) (eo:Option Addr) (ec:Nat) (w:World) (E:Ending) (w':World):Prop:=Upd (fun k=>k=b) w w'∧∃ v,E = .returned v ∧
 (((aans T1=none∨aans T2=none)∧EC w' v 9∧(∃ T y,v = .iface T y))∨(v = .nilIface∧∃ o1 C1 o2 C2,aans T1=some (o1,C1)∧aans T2=some (o2,C2)∧∃ q1 d1 q2 d2,w'.heap[b]? = some (.cells #[.slice lo l.length lc,.int .u64 (a:Int),.int .u64 (t:Int),.int .u64 (k:Int),.bool bp,.int .u64 (vp:Int),.bool bm,.int .u64 (vm:Int),.bool bg,.int .u64 (vg:Int),.int .i32 sc,.int .u64 (zc:Int),.bool gp,.int .i32 o1,.slice q1 C1.length d1,.string ⟨#[]⟩,.bool gn,.int .i32 o2,.slice q2 C2.length d2,.string ⟨#[]⟩,.slice eo es.length ec,.int .u32 (f:Int),.int .u64 (th:Int),strV u] 32 (0,0))∧Nats .u64 w' q1 C1∧Nats .u64 w' q2 C2∧C1.length≤d1∧C2.length≤d2))
theorem put_any (b s lim:Nat) (T1 T2:List Pt) (tv1 tv2:Value) (l:List KV) (a t k:Nat) (bp:Bool) (vp:Nat) (bm:Bool) (vm:Nat) (bg:Bool) (vg:Nat) (sc:Int) (zc:Nat) (gp:Bool) (po:Int) (pu:ByteArray) (gn:Bool) (no:Int) (nu:ByteArray) (es:List Ex) (f th:Nat) (u:List UInt8) (lo:Option Addr) (lc:Nat) (pco:Option Addr) (pcn pcc:Nat) (nco:Option Addr) (ncn ncc:Nat) (eo:Option Addr) (ec:Nat) (w:World) (hl1:T1.length≤2) (hl2:T2.length≤2) (hok:Hid ((∀ p∈T1,p.Ok)∧∀ p∈T2,p.Ok)) (hwd:Hid (width T1≤100000000∧width T2≤100000000)) (hsl:s≠b) (hbl:lim≤b) (hbo:tv1.ownBlock≠some b∧tv2.ownBlock≠some b) (h1:SdAt lim tv1 T1 w) (h2:SdAt lim tv2 T2 w) (hs:w.heap[s]? = some (.cells #[tv1,tv2] 68 (0,0))) (hx:w.heap[b]? = some (.cells #[.slice lo l.length lc,.int .u64 (a:Int),.int .u64 (t:Int),.int .u64 (k:Int),.bool bp,.int .u64 (vp:Int),.bool bm,.int .u64 (vm:Int),.bool bg,.int .u64 (vg:Int),.int .i32 sc,.int .u64 (zc:Int),.bool gp,.int .i32 po,.slice pco pcn pcc,.string pu,.bool gn,.int .i32 no,.slice nco ncn ncc,.string nu,.slice eo es.length ec,.int .u32 (f:Int),.int .u64 (th:Int),strV u] 32 (0,0))) :
  Calls Tryd.prog 27 #[.pointer (some ⟨s,0,none⟩),.pointer (some ⟨b,0,none⟩)] w (PutP b T1 T2 l a t k bp vp bm vm bg vg sc zc gp gn es f th u lo lc eo ec w):=by
 have HSL:=Lib.hid (And.intro hsl (row_lt hs))
 obtain ⟨lo1,cp1,rfl⟩:=h1.slice
 obtain ⟨lo2,cp2,rfl⟩:=h2.slice
 have H1:=Lib.hid h1
 have H2:=Lib.hid h2
 have HS:=Lib.hid hs
 have HX:=Lib.hid hx
 clear h1 h2 hs hx
 obtain ⟨⟨f1,t1⟩,HE1⟩:∃ p,Hid (efold (0,0) (allP T1)=p):=⟨_,Lib.hid rfl⟩
 obtain ⟨⟨f2,t2⟩,HE2⟩:∃ p,Hid (efold (0,0) (allP T2)=p):=⟨_,Lib.hid rfl⟩
 have cs0:w.cell? ⟨s,0,none⟩=some (.slice lo1 T1.length cp1):=row_cell HS.out (j:=0) rfl
 go_enter Tryd.func27,Tryd.ntmps27
 go_wp2_with fail
 refine (add_any T1 lo1 cp1 w (by omega) (Lib.hid hok.out.1) (Lib.hid H1.out.parts) HE1 (Lib.hid (by
  have h1:=ends_bound hok.out.1 HE1.out
  have h2:=hwd.out.1
  unfold width at h2
  rw[HE1.out] at h2
  simp only at h2
  omega))).mono ?_
 intro E v1 hq
 unfold MAddPost at hq
 obtain ⟨hb,hm⟩:=hq
 clear cs0
 have HU1:Hid (Upd (fun k=>k=b) w v1):=Lib.hid (Upd.of_new hb)
 have HX1:=Lib.hid ((hb.block _ (row_lt HX.out)).trans HX.out)
 clear hb
 rcases ha1:aans T1 with _|⟨o1,C1⟩
 ·rw[ha1] at hm
  obtain ⟨v,rfl,hec⟩:=hm
  obtain ⟨T,y,rfl⟩:=hec.iface
  have HEC:=Lib.hid hec
  have HA1:=Lib.hid ha1
  clear hec ha1
  have hz13:v1.frozen? ⟨b,13,none⟩=false:=row_thaw HX1.out 13
  have ha13:v1.cell? ⟨b,13,none⟩=some (.int .i32 po):=row_cell HX1.out (j:=13) rfl
  have hz14:v1.frozen? ⟨b,14,none⟩=false:=row_thaw HX1.out 14
  have ha14:v1.cell? ⟨b,14,none⟩=some (.slice pco pcn pcc):=row_cell HX1.out (j:=14) rfl
  have hz15:v1.frozen? ⟨b,15,none⟩=false:=row_thaw HX1.out 15
  have ha15:v1.cell? ⟨b,15,none⟩=some (.string pu):=row_cell HX1.out (j:=15) rfl
  go_wp2_with fail
  obtain ⟨v2,Hv2⟩:∃ X,Hid ((((v1.setCell ⟨b,13,none⟩ (.int .i32 0)).setCell ⟨b,14,none⟩ (.slice none 0 0)).setCell ⟨b,15,none⟩ (.string ⟨#[]⟩))=X):=⟨_,Lib.hid rfl⟩
  rw[Hv2.out]
  have huv2:Upd (fun k=>k=b) v1 v2:=by rw[←Hv2.out];exact ((Upd.set _ ⟨b,13,none⟩ _).trans (Upd.set _ ⟨b,14,none⟩ _)).trans (Upd.set _ ⟨b,15,none⟩ _)
  have HRv2:Hid (v2.heap[b]? = some (.cells #[.slice lo l.length lc,.int .u64 (a:Int),.int .u64 (t:Int),.int .u64 (k:Int),.bool bp,.int .u64 (vp:Int),.bool bm,.int .u64 (vm:Int),.bool bg,.int .u64 (vg:Int),.int .i32 sc,.int .u64 (zc:Int),.bool gp,.int .i32 0,.slice none 0 0,.string ⟨#[]⟩,.bool gn,.int .i32 no,.slice nco ncn ncc,.string nu,.slice eo es.length ec,.int .u32 (f:Int),.int .u64 (th:Int),strV u] 32 (0,0))):=Lib.hid (by rw[←Hv2.out];exact row_set (row_set (row_set HX1.out 13 _) 14 _) 15 _)
  refine (in_any 8 T y v2).mono ?_;rintro E w' ⟨rfl,rfl⟩
  have HEC2:=Lib.hid (ec_in (n:=8) (ec_upd15 HEC.out huv2 HX1.out (by show (24:Nat)≠2;decide)))
  have HU2:=Lib.hid ((HU1.out.trans huv2).trans (Upd.alloc _ v2 (.cells #[.int .i64 8,.iface T y] 99)))
  clear huv2
  go_wp2_with fail
  go_ret
  exact ⟨HU2.out,_,rfl,.inl ⟨.inl HA1.out,HEC2.out,_,_,rfl⟩⟩
 ·rw[ha1] at hm
  obtain ⟨q1,d1,rfl,hd1,-,hq1,hn1⟩:=hm
  have HA1:=Lib.hid ha1
  have HN1:=Lib.hid hn1
  have HQ1:=Lib.hid hq1
  have HDD1:=Lib.hid hd1
  clear ha1 hn1 hq1 hd1
  have hz13:v1.frozen? ⟨b,13,none⟩=false:=row_thaw HX1.out 13
  have ha13:v1.cell? ⟨b,13,none⟩=some (.int .i32 po):=row_cell HX1.out (j:=13) rfl
  have hz14:v1.frozen? ⟨b,14,none⟩=false:=row_thaw HX1.out 14
  have ha14:v1.cell? ⟨b,14,none⟩=some (.slice pco pcn pcc):=row_cell HX1.out (j:=14) rfl
  have hz15:v1.frozen? ⟨b,15,none⟩=false:=row_thaw HX1.out 15
  have ha15:v1.cell? ⟨b,15,none⟩=some (.string pu):=row_cell HX1.out (j:=15) rfl
  go_upto_region 5 with fail
  obtain ⟨v2,Hv2⟩:∃ X,Hid ((((v1.setCell ⟨b,13,none⟩ (.int .i32 o1)).setCell ⟨b,14,none⟩ (.slice q1 C1.length d1)).setCell ⟨b,15,none⟩ (.string ⟨#[]⟩))=X):=⟨_,Lib.hid rfl⟩
  rw[Hv2.out]
  have huv2:Upd (fun k=>k=b) v1 v2:=by rw[←Hv2.out];exact ((Upd.set _ ⟨b,13,none⟩ _).trans (Upd.set _ ⟨b,14,none⟩ _)).trans (Upd.set _ ⟨b,15,none⟩ _)
  have HRv2:Hid (v2.heap[b]? = some (.cells #[.slice lo l.length lc,.int .u64 (a:Int),.int .u64 (t:Int),.int .u64 (k:Int),.bool bp,.int .u64 (vp:Int),.bool bm,.int .u64 (vm:Int),.bool bg,.int .u64 (vg:Int),.int .i32 sc,.int .u64 (zc:Int),.bool gp,.int .i32 o1,.slice q1 C1.length d1,.string ⟨#[]⟩,.bool gn,.int .i32 no,.slice nco ncn ncc,.string nu,.slice eo es.length ec,.int .u32 (f:Int),.int .u64 (th:Int),strV u] 32 (0,0))):=Lib.hid (by rw[←Hv2.out];exact row_set (row_set (row_set HX1.out 13 _) 14 _) 15 _)
  have HU2:=Lib.hid (HU1.out.trans huv2)
  have HS2:Hid (v2.heap[s]? = _):=Lib.hid ((HU2.out.block _ (row_lt HS.out) (by have:=HSL.out.1;exact this)).trans HS.out)
  have HP2:Hid (PartsAt v2 lo2 T2):=Lib.hid (H2.out.upd HU2.out (fun k hk=>by have hk:k=b:=hk;subst hk;exact hbl) (fun k hk h=>by have h:k=b:=h;subst h;exact hbo.2 hk)).parts
  have HN2:Hid (Nats .u64 v2 q1 C1):=Lib.hid (HN1.out.updS huv2 (fun _ g off he h=>by have h:g=b:=h;have h2:=HQ1.out _ he;have h2:w.heap.size≤g:=h2;have:=row_lt HX.out;omega))
  clear huv2
  have cs1:v2.cell? ⟨s,1,none⟩=some (.slice lo2 T2.length cp2):=row_cell HS2.out (j:=1) rfl
  go_wp2_with fail
  refine (add_any T2 lo2 cp2 v2 (by omega) (Lib.hid hok.out.2) HP2 HE2 (Lib.hid (by
   have h1:=ends_bound hok.out.2 HE2.out
   have h2:=hwd.out.2
   unfold width at h2
   rw[HE2.out] at h2
   simp only at h2
   omega))).mono ?_
  intro E v3 hq
  unfold MAddPost at hq
  obtain ⟨hb,hm⟩:=hq
  clear cs1
  have HU3:Hid (Upd (fun k=>k=b) w v3):=Lib.hid (HU2.out.trans (Upd.of_new hb))
  have HX3:=Lib.hid ((hb.block _ (row_lt HRv2.out)).trans HRv2.out)
  have HN3:Hid (Nats .u64 v3 q1 C1):=Lib.hid (HN2.out.below hb)
  clear hb
  rcases ha2:aans T2 with _|⟨o2,C2⟩
  ·rw[ha2] at hm
   obtain ⟨v,rfl,hec⟩:=hm
   obtain ⟨T,y,rfl⟩:=hec.iface
   have HEC:=Lib.hid hec
   have HA2:=Lib.hid ha2
   clear hec ha2
   have hz17:v3.frozen? ⟨b,17,none⟩=false:=row_thaw HX3.out 17
   have ha17:v3.cell? ⟨b,17,none⟩=some (.int .i32 no):=row_cell HX3.out (j:=17) rfl
   have hz18:v3.frozen? ⟨b,18,none⟩=false:=row_thaw HX3.out 18
   have ha18:v3.cell? ⟨b,18,none⟩=some (.slice nco ncn ncc):=row_cell HX3.out (j:=18) rfl
   have hz19:v3.frozen? ⟨b,19,none⟩=false:=row_thaw HX3.out 19
   have ha19:v3.cell? ⟨b,19,none⟩=some (.string nu):=row_cell HX3.out (j:=19) rfl
   go_wp2_with fail
   obtain ⟨v4,Hv4⟩:∃ X,Hid ((((v3.setCell ⟨b,17,none⟩ (.int .i32 0)).setCell ⟨b,18,none⟩ (.slice none 0 0)).setCell ⟨b,19,none⟩ (.string ⟨#[]⟩))=X):=⟨_,Lib.hid rfl⟩
   rw[Hv4.out]
   have huv4:Upd (fun k=>k=b) v3 v4:=by rw[←Hv4.out];exact ((Upd.set _ ⟨b,17,none⟩ _).trans (Upd.set _ ⟨b,18,none⟩ _)).trans (Upd.set _ ⟨b,19,none⟩ _)
   have HRv4:Hid (v4.heap[b]? = some (.cells #[.slice lo l.length lc,.int .u64 (a:Int),.int .u64 (t:Int),.int .u64 (k:Int),.bool bp,.int .u64 (vp:Int),.bool bm,.int .u64 (vm:Int),.bool bg,.int .u64 (vg:Int),.int .i32 sc,.int .u64 (zc:Int),.bool gp,.int .i32 o1,.slice q1 C1.length d1,.string ⟨#[]⟩,.bool gn,.int .i32 0,.slice none 0 0,.string ⟨#[]⟩,.slice eo es.length ec,.int .u32 (f:Int),.int .u64 (th:Int),strV u] 32 (0,0))):=Lib.hid (by rw[←Hv4.out];exact row_set (row_set (row_set HX3.out 17 _) 18 _) 19 _)
   refine (in_any 9 T y v4).mono ?_;rintro E w' ⟨rfl,rfl⟩
   have HEC2:=Lib.hid (ec_in (n:=9) (ec_upd15 HEC.out huv4 HX3.out (by show (24:Nat)≠2;decide)))
   have HU4:=Lib.hid ((HU3.out.trans huv4).trans (Upd.alloc _ v4 (.cells #[.int .i64 9,.iface T y] 99)))
   clear huv4
   go_wp2_with fail
   go_ret
   exact ⟨HU4.out,_,rfl,.inl ⟨.inr HA2.out,HEC2.out,_,_,rfl⟩⟩
  ·rw[ha2] at hm
   obtain ⟨q2,d2,rfl,hd2,-,hq2,hn2⟩:=hm
   have HA2:=Lib.hid ha2
   have HN2b:=Lib.hid hn2
   have HQ2:=Lib.hid hq2
   have HDD2:=Lib.hid hd2
   clear ha2 hn2 hq2 hd2
   have hz17:v3.frozen? ⟨b,17,none⟩=false:=row_thaw HX3.out 17
   have ha17:v3.cell? ⟨b,17,none⟩=some (.int .i32 no):=row_cell HX3.out (j:=17) rfl
   have hz18:v3.frozen? ⟨b,18,none⟩=false:=row_thaw HX3.out 18
   have ha18:v3.cell? ⟨b,18,none⟩=some (.slice nco ncn ncc):=row_cell HX3.out (j:=18) rfl
   have hz19:v3.frozen? ⟨b,19,none⟩=false:=row_thaw HX3.out 19
   have ha19:v3.cell? ⟨b,19,none⟩=some (.string nu):=row_cell HX3.out (j:=19) rfl
   go_wp2_with fail
   obtain ⟨v4,Hv4⟩:∃ X,Hid ((((v3.setCell ⟨b,17,none⟩ (.int .i32 o2)).setCell ⟨b,18,none⟩ (.slice q2 C2.length d2)).setCell ⟨b,19,none⟩ (.string ⟨#[]⟩))=X):=⟨_,Lib.hid rfl⟩
   rw[Hv4.out]
   have huv4:Upd (fun k=>k=b) v3 v4:=by rw[←Hv4.out];exact ((Upd.set _ ⟨b,17,none⟩ _).trans (Upd.set _ ⟨b,18,none⟩ _)).trans (Upd.set _ ⟨b,19,none⟩ _)
   have HRv4:Hid (v4.heap[b]? = some (.cells #[.slice lo l.length lc,.int .u64 (a:Int),.int .u64 (t:Int),.int .u64 (k:Int),.bool bp,.int .u64 (vp:Int),.bool bm,.int .u64 (vm:Int),.bool bg,.int .u64 (vg:Int),.int .i32 sc,.int .u64 (zc:Int),.bool gp,.int .i32 o1,.slice q1 C1.length d1,.string ⟨#[]⟩,.bool gn,.int .i32 o2,.slice q2 C2.length d2,.string ⟨#[]⟩,.slice eo es.length ec,.int .u32 (f:Int),.int .u64 (th:Int),strV u] 32 (0,0))):=Lib.hid (by rw[←Hv4.out];exact row_set (row_set (row_set HX3.out 17 _) 18 _) 19 _)
   refine (in_nil 9 v4).mono ?_;rintro E w' ⟨rfl,rfl⟩
   have HU4:=Lib.hid (HU3.out.trans huv4)
   have HN4:Hid (Nats .u64 v4 q1 C1):=Lib.hid (HN3.out.updS huv4 (fun _ g off he h=>by have h:g=b:=h;have h2:=HQ1.out _ he;have h2:w.heap.size≤g:=h2;have:=row_lt HX.out;omega))
   have HN4b:Hid (Nats .u64 v4 q2 C2):=Lib.hid (HN2b.out.updS huv4 (fun _ g off he h=>by have h:g=b:=h;have h2:=HQ2.out _ he;have h2:v2.heap.size≤g:=h2;have:=row_lt HRv2.out;omega))
   clear huv4
   go_wp2_with fail
   go_ret
   exact ⟨HU4.out,_,rfl,.inr ⟨rfl,_,_,_,_,HA1.out,HA2.out,_,_,_,_,HRv4.out,HN4.out,HN4b.out,HDD1.out,HDD2.out⟩⟩
end Go.Proofs.YtoggpnfeioaidaaDoor
