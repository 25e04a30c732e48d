/-
  hyglaw8.Wrong; hygref8.Fields, Takes, Unknown.
-/
import Derived.Test.YtficgfemmijaaaaGreatDoorMsgMath
import Derived.Test.YtficgfemmijaaaaGreatDoorWireRA
import Derived.Test.YtficgfemmijaaaaGreatDoorMsgRead
import Derived.Test.YtficgfemmijaaaaGreatDoorGet
import Derived.Test.YtficgfemmijaaaaGreatDoorMsgWrite
import Derived.Test.YtficgfemmijaaaaGreatDoorOrd
set_option maxRecDepth 1000000
set_option maxHeartbeats 16000000
namespace Go.Proofs.YtficgfemmijaaaaGreatDoor
open Go.RowKit
open Lib (hid)
def wfields (l:List UInt8)(d:Int):Except Nat (List Rec):=if d<0 then .error 6 else wall l d
def FieldsPost (s:ByteArray)(d:Int)(w:World)(e:Ending)(w':World):Prop:=Below w.heap.size w w'∧match wfields s.data.toList d with
 | .error _=>e = .returned (.tuple #[.slice none 0 0,.bool false])
 | .ok rs=>∃ u,e = .returned (.tuple #[u,.bool true])∧w'.ownsRow w.heap.size 71 5 u rs.length (rs.flatMap recCells)
theorem fields_any (s:ByteArray)(d:Int)(w:World)(hs:s.size≤1000000000)(hd:d≤9223372036854775807) :
  Calls Tryz.prog 27 #[.string s,.int .i64 d] w (FieldsPost s d w):=by
 have HA:=hid (rall_any s d w hs hd);clear hs hd
 by_cases h:d<0
 ·have d1:decide (d<0)=true:=decide_eq_true h
  have HF:Hid (wfields s.data.toList d = .error 6):=hid (by unfold wfields;rw[if_pos h]);clear h;go_enter Tryz.func27,Tryz.ntmps27;go_wp2_with fail
  go_ret2
  refine ⟨Below.refl _ _,?_⟩;rw[HF.out];exact rfl
 ·have d1:decide (d<0)=false:=decide_eq_false h
  have HF:Hid (wfields s.data.toList d=wall s.data.toList d):=hid (by unfold wfields;rw[if_neg h]);clear h;go_enter Tryz.func27,Tryz.ntmps27;go_wp2_with fail;refine HA.out.mono ?_;intro e w1 hp;unfold RAllPost at hp
  cases hw:wall s.data.toList d with
  | error c =>
   rw[hw] at hp;obtain ⟨rfl,hb⟩:=hp;have HB:=hid hb;have HW:=hid hw;clear hb hw;go_wp2_with fail
   go_ret2
   refine ⟨HB.out,?_⟩;rw[HF.out,HW.out];exact rfl
  | ok rs =>
   rw[hw] at hp;obtain ⟨u,rfl,ho,hb⟩:=hp;have HB:=hid hb;have HO:=hid ho;have HW:=hid hw;clear hb hw ho;go_wp2_with fail
   go_ret2
   refine ⟨HB.out,?_⟩;rw[HF.out,HW.out];exact ⟨u,rfl,HO.out⟩
def rtk (tab:List Nat)(r:Rec):Bool:=tab.any fun t=>decide (t / 8=r.num∧t % 8=r.ty)
theorem rtk_hit {tab:List Nat}{r:Rec}{j:Nat}(h:j<tab.length)(h1:tab[j] / 8=r.num)(h2:tab[j] % 8=r.ty):rtk tab r=true:=by
 unfold rtk;rw[List.any_eq_true];exact ⟨tab[j],List.getElem_mem h,decide_eq_true ⟨h1,h2⟩⟩
theorem rtk_no {tab:List Nat}{r:Rec}(h:∀ m (hm:m<tab.length),¬(tab[m] / 8=r.num∧tab[m] % 8=r.ty)):rtk tab r=false:=by
 unfold rtk;rw[List.any_eq_false];intro x hx;obtain ⟨m,hm,rfl⟩:=List.getElem_of_mem hx
 simpa using h m hm
theorem takes8_any (tab:List Nat)(ao:Option Addr)(cap:Nat)(r:Rec)(w:World)(ha:Hid (Nats .i64 w ao tab))(hl:tab.length≤1000000)(ht:∀ t∈tab,t≤1000000) :
  Calls Tryz.prog 28 #[.slice ao tab.length cap,recV r] w fun e w'=>e = .returned (.bool (rtk tab r))∧Below w.heap.size w w':=by
 obtain ⟨n,hn⟩:∃ n,tab.length=n:=⟨_,rfl⟩
 have HA0:=hid hn;have HT:=hid ht;rw[hn] at hl ⊢;obtain ⟨W0,hW0⟩:∃ W,w.alloc (.cells (recCells r).toArray 71)=W:=⟨_,rfl⟩
 have HB0:Hid (Below w.heap.size w W0):=hid (by rw[←hW0];exact below_new _ _);have HR0:Hid (W0.heap[w.heap.size]? = some (.cells (recCells r).toArray 71 (0,0))):=hid (by rw[←hW0];exact heap_alloc_new w _);have HW0:=hid hW0;have HN0:=hid (ha.out.below HB0.out);obtain ⟨p,hp⟩:∃ p,w.heap.size=p:=⟨_,rfl⟩
 have HP:=hid hp;have HPL:Hid (p<W0.heap.size):=hid (by rw[←hp];exact row_lt HR0.out);rw[hp] at HR0;clear hn hW0 ha ht;unfold recV;go_enter Tryz.func28,Tryz.ntmps28;go_wp2_with fail;rw[show (w.alloc (.cells #[.int .i64 r.num,.int .i64 r.ty,.int .u64 r.n,.string ⟨r.s.toArray⟩,.string ⟨r.raw.toArray⟩] 71))=W0 from HW0.out];clear hp
 go_loopg [5] n (fun k i wr=>∃ j:Nat,j+k=n∧i = .int .i64 j∧Hid (∀ m (hm:m<tab.length),m<j→¬(tab[m] / 8=r.num∧tab[m] % 8=r.ty))∧Below W0.heap.size W0 wr)
 case atStart=>exact ⟨0,by omega,rfl,hid (fun m _ h=>by omega),Below.refl _ _⟩
 case round =>
  obtain ⟨j,hj,rfl,HM,hbr⟩:=hrel;have HB:=hid hbr;have HJ:=hid hj;have HA:=hid (HN0.out.below hbr);have HRR:=hid ((hbr.block _ HPL.out).trans HR0.out);have hjl:j≤n:=by omega
  clear hj hbr
  by_cases hlt:j<n
  ·obtain ⟨g,off,x,HX,rfl,hbl,hc⟩:=HA.out.at (i:=j) (by rw[HA0.out];exact hlt)
   have hxl:x≤1000000:=by rw[HX.out];exact HT.out _ (List.getElem_mem _)
   have hI:Below wr.heap.size wr wr.drew:=(Below.refl _ _).drew;have hne:Nonempty { w':World // Below wr.heap.size wr w' }:=⟨⟨_,hI⟩⟩
   have hc3:∀ t:{ w':World // Below wr.heap.size wr w' },t.1.cell? ⟨g,off+j,none⟩=some (.int .i64 x):=fun t=>(t.2.cell (p:=⟨g,off+j,none⟩) hbl).trans hc
   have hc4:∀ t:{ w':World // Below wr.heap.size wr w' },t.1.cell? ⟨p,0,none⟩=some (.int .i64 r.num):=fun t=>row_cell ((t.2.block _ (row_lt HRR.out)).trans HRR.out) (j:=0) rfl
   have hc5:∀ t:{ w':World // Below wr.heap.size wr w' },t.1.cell? ⟨p,1,none⟩=some (.int .i64 r.ty):=fun t=>row_cell ((t.2.block _ (row_lt HRR.out)).trans HRR.out) (j:=1) rfl
   obtain ⟨xq,hxq⟩:∃ q,x / 8=q:=⟨_,rfl⟩
   obtain ⟨xr,hxr⟩:∃ q,x % 8=q:=⟨_,rfl⟩
   have q1:IntKind.i64.wrap ((x:Int) / 8)=(xq:Int):=by
    rw[show (x:Int) / 8=((x / 8:Nat):Int) from rfl,hxq];exact IntWalk.i64_in _ (by omega)
   have q2:(x:Int).tmod 8=(xr:Int):=by
    rw[show (x:Int).tmod 8=((x % 8:Nat):Int) from rfl,hxr]
   have HXQ:=hid hxq;have HXR:=hid hxr;clear hxq hxr
   by_cases h1:xq=r.num
   ·have d1:((xq:Int) == (r.num:Int))=true:=by rw[beq_iff_eq];omega
    by_cases h2:xr=r.ty
    ·have d2:((xr:Int) == (r.ty:Int))=true:=by rw[beq_iff_eq];omega
     go_wp2_with fail;refine wp_region_seq (S:=fun w'=>Below wr.heap.size wr w') [(0,true),(1,true),(2,true),(3,true),(4,true),(5,true),(6,true),(7,true),(8,true),(9,true),(10,true),(11,true),(12,true),(13,true),(14,true),(15,true),(16,true),(17,true)] (by kernel_rfl) (by kernel_rfl) (by kernel_rfl) (by kernel_rfl) hI ?_
     iterate 18 (refine seq_take _ rfl (fun K hK=>?_);go_simp;(first|refine hK _ ?_|refine ⟨undef,by rw[if_neg (by simp[undef])],hK _ ?_⟩);clear hK K)
     refine seq_done ?_;clear hc3 hc4 hc5;have HE:Hid (rtk tab r=true):=hid (rtk_hit (j:=j) (by rw[HA0.out];exact hlt) (by rw[←HX.out,HXQ.out];exact h1) (by rw[←HX.out,HXR.out];exact h2));clear h1 h2;go_wp2_with fail;go_ret;exact ⟨by rw[HE.out];rfl,below_step HB0.out (HB.out.trans (hI.mono HB.out.size))⟩
    ·have d2:((xr:Int) == (r.ty:Int))=false:=by rw[beq_eq_false_iff_ne];omega
     have HN:Hid (¬(xq=r.num∧xr=r.ty)):=hid (fun h=>h2 h.2);clear h1 h2;go_wp2_with fail;refine wp_region_seq (S:=fun w'=>Below wr.heap.size wr w') [(0,true),(1,true),(2,true),(3,true),(4,true),(5,true),(6,true),(7,true),(8,true),(9,true),(10,true),(11,true),(12,true),(13,true),(14,true),(15,true),(16,true),(17,true)] (by kernel_rfl) (by kernel_rfl) (by kernel_rfl) (by kernel_rfl) hI ?_
     iterate 18 (refine seq_take _ rfl (fun K hK=>?_);go_simp;(first|refine hK _ ?_|refine ⟨undef,by rw[if_neg (by simp[undef])],hK _ ?_⟩);clear hK K)
     refine seq_done ?_;clear hc3 hc4 hc5
     have HM2:Hid (∀ m (hm:m<tab.length),m<j+1→¬(tab[m] / 8=r.num∧tab[m] % 8=r.ty)):=hid (fun m hm hmj=>by
      by_cases hq:m=j
      ·subst hq
       have hx:=HX.out;have hn:=HN.out;intro ⟨e1,e2⟩;rw[←hx] at e1 e2;rw[HXQ.out] at e1;rw[HXR.out] at e2;exact hn ⟨e1,e2⟩
      ·exact HM.out m hm (by omega))
     go_wp2_with fail;have hj:=HJ.out
     go_roundg (gk - 1)
     case measure=>omega
     case rel=>exact ⟨j+1,by omega,by simp,HM2,HB.out.trans (hI.mono HB.out.size)⟩
   ·have d1:((xq:Int) == (r.num:Int))=false:=by rw[beq_eq_false_iff_ne];omega
    have HN:Hid (¬(xq=r.num∧xr=r.ty)):=hid (fun h=>h1 h.1);clear h1;go_wp2_with fail;refine wp_region_seq (S:=fun w'=>Below wr.heap.size wr w') [(0,true),(1,true),(2,true),(3,true),(4,true),(5,true),(6,true),(7,true),(8,true),(9,true),(10,true),(11,true),(12,true),(13,true),(14,true),(15,true),(16,true),(17,true)] (by kernel_rfl) (by kernel_rfl) (by kernel_rfl) (by kernel_rfl) hI ?_
    iterate 18 (refine seq_take _ rfl (fun K hK=>?_);go_simp;(first|refine hK _ ?_|refine ⟨undef,by rw[if_neg (by simp[undef])],hK _ ?_⟩);clear hK K)
    refine seq_done ?_;clear hc3 hc4 hc5
    have HM2:Hid (∀ m (hm:m<tab.length),m<j+1→¬(tab[m] / 8=r.num∧tab[m] % 8=r.ty)):=hid (fun m hm hmj=>by
     by_cases hq:m=j
     ·subst hq
      have hx:=HX.out;have hn:=HN.out;intro ⟨e1,e2⟩;rw[←hx] at e1 e2;rw[HXQ.out] at e1;rw[HXR.out] at e2;exact hn ⟨e1,e2⟩
     ·exact HM.out m hm (by omega))
    go_wp2_with fail;have hj:=HJ.out
    go_roundg (gk - 1)
    case measure=>omega
    case rel=>exact ⟨j+1,by omega,by simp,HM2,HB.out.trans (hI.mono HB.out.size)⟩
  ·have hjn:j=n:=by have:=HJ.out;omega
   have HE:Hid (rtk tab r=false):=hid (rtk_no fun m hm=>HM.out m hm (by rw[HA0.out] at hm;omega));go_wp2_with fail;go_ret;exact ⟨by rw[HE.out];rfl,below_step HB0.out HB.out⟩
theorem raws_count:∀ (rs:List Rec),(∀ r∈rs,2≤r.raw.length)→2 * rs.length≤(rs.flatMap Rec.raw).length
 | [],_=>by simp
 | r::rs,h=>by
  have h1:=h r (List.mem_cons_self ..);have h2:=raws_count rs fun x hx=>h x (List.mem_cons_of_mem _ hx)
  rw[List.flatMap_cons,List.length_append,List.length_cons];omega
theorem wall_length {l:List UInt8}{d:Int}{rs:List Rec}(h:wall l d = .ok rs):rs.length≤l.length:=by
 have h1:=wall_raws l.length (Nat.le_refl _) h;have h2:=raws_count rs h1.2;rw[h1.1] at h2;omega
theorem munkOk_rtk {tk:Rec→Bool}{tab:List Nat}(h:∀ r,tk r=rtk tab r)(l:List UInt8)(d:Int):munkOk tk l d=munkOk (rtk tab) l d:=by
 have:tk=rtk tab:=funext h;rw[this]
theorem unknown8_any (s:ByteArray)(d:Int)(tab:List Nat)(ao:Option Addr)(cap:Nat)(w:World)(ha:Hid (Nats .i64 w ao tab))(hl:tab.length≤1000000)(ht:Hid (∀ t∈tab,t≤1000000))(hs:s.size≤1000000)(hd:d≤9223372036854775807) :
  Calls Tryz.prog 48 #[.string s,.int .i64 d,.slice ao tab.length cap] w fun e w'=>e = .returned (.bool (decide (0≤d)&&munkOk (rtk tab) s.data.toList d))∧Below w.heap.size w w':=by
 cases hw:wfields s.data.toList d with
 | error c =>
  have HM:Hid ((decide (0≤d)&&munkOk (rtk tab) s.data.toList d)=false):=hid (by
   unfold wfields at hw
   split at hw
   ·rename_i h;rw[decide_eq_false (by omega)];rfl
   ·unfold munkOk;rw[hw,Bool.and_false])
  have HW:=hid hw;have HF:=hid (fields_any s d w (by omega) hd);clear hw hd hs hl ht ha;go_enter Tryz.func48,Tryz.ntmps48;go_wp2_with fail;refine HF.out.mono ?_;intro e w1 hpost;unfold FieldsPost at hpost
  rw[HW.out] at hpost;obtain ⟨hb1,rfl⟩:=hpost;have HB1:=hid hb1;clear hb1;go_wp2_with fail
  go_loopg [9] 0 (fun g i wr=>i = .int .i64 0∧wr=w1)
  case atStart=>exact ⟨rfl,rfl⟩
  case round =>
   obtain ⟨rfl,rfl⟩:=hrel;go_wp2_with fail;go_ret;exact ⟨by rw[HM.out];rfl,HB1.out⟩
 | ok rs =>
  have HM:Hid ((decide (0≤d)&&munkOk (rtk tab) s.data.toList d)=rs.all fun r=>!rtk tab r):=hid (by
   unfold wfields at hw
   split at hw
   ·cases hw
   ·unfold munkOk;rw[hw,decide_eq_true (by omega),Bool.true_and])
  have HLL:Hid (rs.length≤1000000):=hid (by
   unfold wfields at hw
   split at hw
   ·cases hw
   ·have:=wall_length hw
    have:s.data.toList.length=s.size:=by simp
    omega)
  have HW:=hid hw;have HF:=hid (fields_any s d w (by omega) hd);have HTL:=hid hl;clear hw hd hs hl;go_enter Tryz.func48,Tryz.ntmps48;go_wp2_with fail;refine HF.out.mono ?_;intro e w1 hpost;unfold FieldsPost at hpost
  rw[HW.out] at hpost;obtain ⟨hb1,u,rfl,hown⟩:=hpost;obtain ⟨lo,lcap,rfl⟩:=own_slice hown;have HB1:=hid hb1;have HO1:=hid hown;have HA1:=hid (ha.out.below hb1);clear hb1 hown;go_wp2_with fail
  go_loopg [9] rs.length (fun g i wr=>∃ j:Nat,j+g=rs.length∧i = .int .i64 j∧Hid (((rs.take j).all fun r=>!rtk tab r)=true)∧Below w1.heap.size w1 wr)
  case atStart=>exact ⟨0,by omega,rfl,hid rfl,Below.refl _ _⟩
  case round =>
   obtain ⟨j,hj,rfl,HA,hbr⟩:=hrel;have HBR:=hid hbr;have HB:=hid (HB1.out.trans (hbr.mono HB1.out.size));have HJ:=hid hj;have HO:=hid (own_below HO1.out hbr);have HNA:=hid (HA1.out.below hbr);have hjl:j≤1000000:=by have:=HLL.out;omega
   clear hj hbr
   by_cases hlt:j<rs.length
   ·obtain ⟨g,cg,hv,hg1,hg2,_,_⟩:=own_some HO.out (by omega)
    simp only[Value.slice.injEq] at hv
    obtain ⟨rfl,_,rfl⟩:=hv;obtain ⟨r,HRJ⟩:∃ r,Hid (rs[j]=r):=⟨_,hid rfl⟩
    have hc0:wr.cell? ⟨g,j * 5,none⟩=some (.int .i64 r.num):=by rw[HO.out.cellAt (j * 5) (by omega),show j * 5=5 * j+0 by omega,mrecs_cell hlt (by omega),HRJ.out];rfl
    have hc1:wr.cell? ⟨g,j * 5+1,none⟩=some (.int .i64 r.ty):=by rw[HO.out.cellAt (j * 5+1) (by omega),show j * 5+1=5 * j+1 by omega,mrecs_cell hlt (by omega),HRJ.out];rfl
    have hc2:wr.cell? ⟨g,j * 5+2,none⟩=some (.int .u64 r.n):=by rw[HO.out.cellAt (j * 5+2) (by omega),show j * 5+2=5 * j+2 by omega,mrecs_cell hlt (by omega),HRJ.out];rfl
    have hc3:wr.cell? ⟨g,j * 5+3,none⟩=some (.string ⟨r.s.toArray⟩):=by rw[HO.out.cellAt (j * 5+3) (by omega),show j * 5+3=5 * j+3 by omega,mrecs_cell hlt (by omega),HRJ.out];rfl
    have hc4:wr.cell? ⟨g,j * 5+4,none⟩=some (.string ⟨r.raw.toArray⟩):=by rw[HO.out.cellAt (j * 5+4) (by omega),show j * 5+4=5 * j+4 by omega,mrecs_cell hlt (by omega),HRJ.out];rfl
    have HTK:Hid (rs.take (j+1)=rs.take j++[r]):=hid (by rw[List.take_succ_eq_append_getElem hlt,HRJ.out]);have HMEM:Hid (r∈rs):=hid (HRJ.out ▸ List.getElem_mem hlt);have HT8:=hid (takes8_any tab ao cap r wr HNA HTL.out ht.out);go_wp2_with fail;refine HT8.out.mono ?_;rintro e w2 ⟨rfl,hb2⟩;have HB2:=hid (below_step HBR.out hb2);clear hb2
    cases htk:rtk tab r with
    | false =>
     have HTKR:=hid htk;clear htk;go_wp2_with fail;have hj:=HJ.out
     go_roundg (gk - 1)
     case measure=>omega
     case rel=>exact ⟨j+1,by omega,by simp,hid (by rw[HTK.out,List.all_append,HA.out];simp[HTKR.out]),HB2.out⟩
    | true =>
     have HM2:Hid ((decide (0≤d)&&munkOk (rtk tab) s.data.toList d)=false):=hid (by
      rw[HM.out]
      cases hall:rs.all fun r=>!rtk tab r with
      | false=>rfl
      | true=>have:=List.all_eq_true.1 hall r HMEM.out;simp[htk] at this)
     clear htk;go_wp2_with fail;go_ret;exact ⟨by rw[HM2.out];rfl,HB1.out.trans (HB2.out.mono HB1.out.size)⟩
   ·have hjn:j=rs.length:=by have:=HJ.out;omega
    have HM2:Hid ((decide (0≤d)&&munkOk (rtk tab) s.data.toList d)=true):=hid (by rw[HM.out,←HA.out,hjn,List.take_length]);clear hjn;go_wp2_with fail;go_ret;exact ⟨by rw[HM2.out];rfl,HB.out⟩
theorem putvar8_any (num n:Nat)(w:World)(h2:num≤536870911)(hn:n<2 ^ 64) :
  Calls Tryz.prog 64 #[.int .i64 num,.int .u64 n] w fun e w'=>e = .returned (.string ⟨(wvarP num n).flatten.toArray⟩)∧Below w.heap.size w w':=by
 have HR:=hid (rnum_any (num:Int) n w (by omega) (by omega) hn);clear h2 hn
 by_cases h:n=0
 ·have HE:Hid ((wvarP num n).flatten=[]):=hid (by rw[h,wvarP_0];rfl)
  have d1:((n:Int) == 0)=true:=by rw[beq_iff_eq];omega
  clear h;go_enter Tryz.func64,Tryz.ntmps64;go_wp2_with fail;go_ret;exact ⟨by rw[HE.out];rfl,Below.refl _ _⟩
 ·have HE:Hid ((wvarP num n).flatten=wrec (num:Int) 0 (vput n)):=hid (by rw[wvarP_1 h];simp)
  have d1:((n:Int) == 0)=false:=by rw[beq_eq_false_iff_ne];omega
  clear h;go_enter Tryz.func64,Tryz.ntmps64;go_wp2_with fail;refine HR.out.mono ?_;rintro e w1 ⟨rfl,hb⟩;have HB:=hid hb;clear hb;rw[←HE.out];go_wp2_with fail;go_ret;exact ⟨rfl,HB.out⟩
theorem puttext8_any (num:Nat)(X:ByteArray)(t:List UInt8)(w:World)(h2:num≤536870911)(hX:Hid (X.data.toList=t))(ht:t.length≤1000000) :
  Calls Tryz.prog 155 #[.int .i64 num,.string X] w fun e w'=>e = .returned (.string ⟨(wbytesP num t).flatten.toArray⟩)∧Below w.heap.size w w':=by
 have hs:X.size=t.length:=by rw[←hX.out];simp
 have HR:=hid (rbytes_any (num:Int) X w (by omega) (by omega) (by omega));rw[hX.out,hs] at HR;clear h2 ht
 by_cases h:t=[]
 ·have HE:Hid ((wbytesP num t).flatten=[]):=hid (by unfold wbytesP;rw[if_pos h];rfl)
  have hx0:X=⟨#[]⟩:=ByteArray.ext (Array.ext' (by rw[hX.out,h]));subst hx0;clear h hs hX;go_enter Tryz.func155,Tryz.ntmps155;go_wp2_with fail;go_ret;exact ⟨by rw[HE.out];rfl,Below.refl _ _⟩
 ·have HE:Hid ((wbytesP num t).flatten=wrec (num:Int) 2 (vput t.length++t)):=hid (by unfold wbytesP;rw[if_neg h];simp)
  have d1:(X.toList == [])=false:=by
   rw[beq_eq_false_iff_ne,ByteArray.toList_eq,hX.out];exact h
  clear h hs;go_enter Tryz.func155,Tryz.ntmps155;go_wp2_with fail;refine HR.out.mono ?_;rintro e w1 ⟨rfl,hb⟩;have HB:=hid hb;clear hb;rw[←HE.out];go_wp2_with fail;go_ret;exact ⟨rfl,HB.out⟩
theorem putvars8_any (num:Nat)(ao:Option Addr)(cap:Nat)(l:List Nat)(w:World)(ha:Hid (Nats .u64 w ao l))(hn:Hid (∀ n∈l,n<2 ^ 64))(h2:num≤536870911)(hl:l.length≤100000) :
  Calls Tryz.prog 158 #[.int .i64 num,.slice ao l.length cap] w fun e w'=>e = .returned (.string ⟨(wbytesP num (vputs l)).flatten.toArray⟩)∧Below w.heap.size w w':=by
 obtain ⟨n,hln⟩:∃ n,l.length=n:=⟨_,rfl⟩
 have HL:=hid hln;have hvl:=vputs_length l;have HP:Hid (∀ (X:ByteArray) (w':World),X.data.toList=vputs l→Calls Tryz.prog 155 #[.int .i64 num,.string X] w' fun e w''=>e = .returned (.string ⟨(wbytesP num (vputs l)).flatten.toArray⟩)∧Below w'.heap.size w' w''):=hid (fun X w' hX=>puttext8_any num X _ w' h2 (hid hX) (by omega));rw[hln] at hl ⊢;clear hln h2 hvl;go_enter Tryz.func158,Tryz.ntmps158;go_wp2_with fail
 go_loopg [5,6] n (fun k sv i wr=>∃ (j:Nat) (S:ByteArray),j+k=n∧i = .int .i64 j∧sv = .string S∧Hid (S.data.toList=vputs (l.take j))∧Below w.heap.size w wr)
 case atStart=>exact ⟨0,⟨#[]⟩,by omega,rfl,rfl,hid (by simp[vputs]),Below.refl _ _⟩
 case round =>
  obtain ⟨j,S,hj,rfl,rfl,HS,hbr⟩:=hrel;have HB:=hid hbr;have HJ:=hid hj;have HA:=hid (ha.out.below hbr);have hjl:j≤n:=by omega
  clear hj hbr
  by_cases hlt:j<n
  ·obtain ⟨g,off,x,HX,rfl,hbl,hc⟩:=HA.out.at (i:=j) (by rw[HL.out];exact hlt)
   have hx9:x<2 ^ 64:=by rw[HX.out];exact hn.out _ (List.getElem_mem _)
   have HV:=hid (rvint_at x wr hx9)
   have hSz:S.size≤1000000:=by
    have h1:S.size=(vputs (l.take j)).length:=by rw[←HS.out];simp
    have h2:=vputs_length (l.take j);have h3:(l.take j).length≤100000:=by rw[List.length_take];omega
    omega
   obtain ⟨V,hV⟩:∃ V:ByteArray,(⟨(vput x).toArray⟩:ByteArray)=V:=⟨_,rfl⟩
   have hVz:V.size≤10:=by rw[←hV];have:=(vput_length x).2;simp[ByteArray.size];omega
   have HVD:Hid (V.data.toList=vput x):=hid (by rw[←hV]);rw[hV] at HV;have hsz:¬9223372036854775807<S.size+V.size:=by omega
   have HS2:Hid ((S++V).data.toList=vputs (l.take (j+1))):=hid (by
    rw[vputs_take l j (by rw[HL.out];exact hlt),←HX.out]
    simp[HS.out,HVD.out])
   clear hV hx9 hSz hVz;go_wp2_with fail;refine HV.out.mono ?_;rintro e w1 ⟨rfl,hb1⟩;have HB1:=hid (below_step HB.out hb1);clear hb1;go_wp2_with fail;have hj:=HJ.out
   go_roundg (gk - 1)
   case measure=>omega
   case rel=>exact ⟨j+1,S++V,by omega,by simp,rfl,HS2,HB1.out⟩
  ·have HSL:Hid (S.data.toList=vputs l):=hid (by rw[HS.out,List.take_of_length_le (by rw[HL.out];omega)])
   go_wp2_with fail;refine (HP.out S wr HSL.out).mono ?_;rintro e w1 ⟨rfl,hb1⟩;have HB1:=hid (below_step HB.out hb1);clear hb1;go_wp2_with fail;go_ret;exact ⟨rfl,HB1.out⟩
end Go.Proofs.YtficgfemmijaaaaGreatDoor
