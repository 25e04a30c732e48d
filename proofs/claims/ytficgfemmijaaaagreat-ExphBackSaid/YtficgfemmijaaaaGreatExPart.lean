/-
  message.Part, message.List of exemplars.
-/
import Derived.Test.YtficgfemmijaaaaGreatExEqf
import Derived.Test.YtficgfemmijaaaaGreatPartK
set_option maxRecDepth 1000000
set_option maxHeartbeats 16000000
namespace Go.Proofs.YtficgfemmijaaaaGreat
open Go.RowKit
open Lib (hid)
theorem partex_any (p:Nat)(d d1:Int)(ps:List (List UInt8))(hs:List Hole)(b:Bool)(P:Nat→Prop)(w:World)(num F:Nat)(may:Bool)(t:List UInt8)(cs:List Value)(hform:∃ (lo:Option Addr) (llo lc:Nat) (jt:Int) (jk:Int) (jn:Int) (Xa:ByteArray) (Xb:ByteArray) (Xu:ByteArray),cs=[.slice lo llo lc,.int .u64 jt,.int .i64 jk,.int .u64 jn,.string Xa,.string Xb,.string Xu])(hw:Hid (WrH p d ps hs b P w))(hET:∀ args w,(callFunc F args).run Tryz.prog w = .ok (.enter F args) w)(hM:Hid (∀ w',Below w.heap.size w w'→Calls Tryz.prog F #[.agg cs.toArray,.int .i64 d1] w' (MarPost may t w')))(hd1:IntKind.i64.wrap (d - 1)=d1)(hnum:1≤num∧num≤536870911)(ht:t.length≤1000000)(hl:ps.length≤1000000)(hf:ps.flatten.length+t.length≤9000000) :
  Calls Tryz.prog 62 #[.pointer (some ⟨p,0,none⟩),.int .i64 num,.agg cs.toArray,.func (.func F) #[] #[]] w (WvPost p d ps hs b P w may (rB num t).raw 1 (20+t.length)):=by
 obtain ⟨lo,llo,lc,jt,jk,jn,Xa,Xb,Xu,rfl⟩:=hform;obtain ⟨W0,hW0⟩:∃ W0,w.alloc (.cells #[.slice lo llo lc,.int .u64 jt,.int .i64 jk,.int .u64 jn,.string Xa,.string Xb,.string Xu] 54)=W0:=⟨_,rfl⟩
 obtain ⟨bx,hbx⟩:∃ bx,w.heap.size=bx:=⟨_,rfl⟩
 have HB0:Hid (Below w.heap.size w W0):=hid (by rw[←hW0];exact below_new _ _);have HX0:Hid (W0.heap[bx]? = some (.cells #[.slice lo llo lc,.int .u64 jt,.int .i64 jk,.int .u64 jn,.string Xa,.string Xb,.string Xu] 54 (0,0))):=hid (by rw[←hW0,←hbx];exact heap_alloc_new _ _);have HSO:=hid ((WSo.start hw.out).below HB0.out);obtain ⟨vp,L,vo,ev,hrow,hev⟩:=wrh_row (wh_below hw.out HB0.out);have HW0:=hid hW0;have HBX:=hid hbx
 have hpx:p≠bx:=by
  obtain ⟨_,_,_,_,h,_⟩:=wrh_row hw.out;have:=row_lt h;omega
 have k4:W0.cell? ⟨p,4,none⟩=some ev:=row_cell hrow (j:=4) rfl;have HROW:=hid hrow
 cases b with
 | true =>
  obtain ⟨T',y,rfl⟩:=hev.yes.iface;rw[←hW0] at k4;clear hev hrow hW0 hbx hd1;go_enter Tryz.func62,Tryz.ntmps62;go_wp2_with fail
  go_end0
  rw[HW0.out];have h1:=(HSO.out.done.le (l2:=1) (f2:=20+t.length) (by omega) (by omega)).conv (m2:=may) (t2:=(rB num t).raw) (fun h=>by cases h) (fun h=>by cases h);exact h1
 | false =>
  obtain rfl:=hev.no;clear hev hrow;have HM:=hid (fun w' hb=>hM.out w' (below_step HB0.out hb));rw[←hW0] at k4;clear hW0 hbx;go_enter Tryz.func62,Tryz.ntmps62;go_wp2_with fail;go_upto_region 2 with fail
  all_goals
   rw[HW0.out,HBX.out];obtain ⟨D,hD⟩:∃ D,W0.drew=D:=⟨_,rfl⟩
   have hB:Below W0.heap.size W0 D:=by rw[←hD];exact (Below.refl _ _).drew
   have hS:R2 bx #[.slice lo llo lc,.int .u64 jt,.int .i64 jk,.int .u64 jn,.string Xa,.string Xb,.string Xu] 54 p #[.int .i64 d,vp,L,vo,.nilIface] 97 D:=⟨(hB.block _ (row_lt HX0.out)).trans HX0.out,(hB.block _ (row_lt HROW.out)).trans HROW.out⟩
   have hne:Nonempty {w':World // R2 bx #[.slice lo llo lc,.int .u64 jt,.int .i64 jk,.int .u64 jn,.string Xa,.string Xb,.string Xu] 54 p #[.int .i64 d,vp,L,vo,.nilIface] 97 w'}:=⟨⟨_,hS⟩⟩
   refine wp_region_seq (S:=R2 bx #[.slice lo llo lc,.int .u64 jt,.int .i64 jk,.int .u64 jn,.string Xa,.string Xb,.string Xu] 54 p #[.int .i64 d,vp,L,vo,.nilIface] 97) [(0,true),(1,true),(2,true),(3,true),(4,true),(5,true),(6,true),(7,false),(8,true),(9,true),(10,true),(11,true),(12,true)] (by kernel_rfl) (by kernel_rfl) (by kernel_rfl) (by kernel_rfl) (by rw[hD];exact hS) ?_;rw[hD]
   (refine seq_take _ rfl (fun KC hK=>?_);go_simp;(first|refine hK _ ?_|refine ⟨_,fun _ _=>rfl,hK _ ?_⟩);clear hK KC)
   refine seq_take _ rfl (fun KC hK=>?_);go_simp;refine ⟨.agg #[.slice lo llo lc,.int .u64 jt,.int .i64 jk,.int .u64 jn,.string Xa,.string Xb,.string Xu],fun a ha=>by obtain ⟨p0,p1,p2,p3,p4,p5,p6⟩:=rowx7 ha.1;simp only[p0,p1,p2,p3,p4,p5,p6,Result.andThen],hK _ ?_⟩;clear hK KC
   iterate 3 (refine seq_take _ rfl (fun KC hK=>?_);go_simp;(first|refine hK _ ?_|refine ⟨_,fun _ _=>rfl,hK _ ?_⟩);clear hK KC)
   refine seq_take _ rfl (fun KC hK=>?_);go_simp;refine ⟨.int .i64 d,fun a ha=>by rw[row_cell ha.2 (j:=0) rfl];rfl,hK _ ?_⟩;clear hK KC
   (refine seq_take _ rfl (fun KC hK=>?_);go_simp;(first|refine hK _ ?_|refine ⟨_,fun _ _=>rfl,hK _ ?_⟩);clear hK KC)
   refine seq_come _ rfl (fun KC hK=>?_);go_simp;refine (HM.out D hB).mono ?_;rintro e w1 ⟨hb1,hcase⟩;have hS1:=hS.below hb1;have HSO1:=hid (HSO.out.below (below_step hB hb1))
   cases may with
   | true =>
    rw[if_pos rfl] at hcase;subst hcase;go_simp;refine hK.out _ _ hS1 ?_;clear hK KC
    iterate 5 (refine seq_take _ rfl (fun KC hK=>?_);go_simp;(first|refine hK _ ?_|refine ⟨_,fun _ _=>rfl,hK _ ?_⟩);clear hK KC)
    refine seq_done ?_;clear hne hS hS1;go_wp2_with fail;refine (bytes_rB num ⟨t.toArray⟩ hnum.1 hnum.2 (by simp[ByteArray.size];omega) w1).mono ?_;rintro e w2 ⟨rfl,hb2⟩;have HSO2:=hid (HSO1.out.below hb2);have hr20:=rB_len20 num t;go_wp2_with fail;have hwr:=HSO2.out.wr;have hput:=wv_put (rB num t).raw hwr (by rw[List.length_append];have:=HSO2.out.len;omega) (by rw[List.flatten_append,List.length_append];have:=HSO2.out.size;omega);refine hput.mono ?_;intro e w3 hpost;obtain ⟨qs2,P2,rfl,hso⟩:=HSO2.out.next hpost;have HF:=hid hso;clear hpost hput hwr hso;go_wp2_with fail
    go_end0
    exact HF.out.done.le (by omega) (by omega)
   | false =>
    rw[if_neg (by simp)] at hcase;obtain ⟨v,rfl,hec⟩:=hcase;obtain ⟨T',y,rfl⟩:=hec.iface;have HEC:=hid hec;clear hec;go_simp;refine hK.out _ _ hS1 ?_;clear hK KC
    iterate 5 (refine seq_take _ rfl (fun KC hK=>?_);go_simp;(first|refine hK _ ?_|refine ⟨_,fun _ _=>rfl,hK _ ?_⟩);clear hK KC)
    refine seq_done ?_;clear hne hS hS1;go_wp2_with fail;refine (in_any _ _ _ _).mono ?_;rintro e w2 ⟨rfl,rfl⟩;have HEF:=hid (ec_field (n:=(num:Int)) HEC.out);have HSO2:=hid (HSO1.out.below (below_new w1 (.cells #[.int .i64 num,.iface T' y] 116)));go_wp2_with fail;have hlift:=wv_lift (F:=59) (args:=#[.pointer (some ⟨p,0,none⟩),.iface 114 (.pointer (some ⟨w1.heap.size,0,none⟩))]) (g:=false) (ts:=[]) HSO2.out.wr (fun vo P0 h1=>by rw[Bool.not_false,Bool.or_true,wps_nil];exact wfail_any p d vo _ _ P0 _ _ _ (hid h1) HEF);refine hlift.mono ?_;intro e w3 hpost;obtain ⟨qs2,P2,rfl,hso⟩:=HSO2.out.next hpost;have HF:=hid hso;clear hpost hlift hso;go_wp2_with fail
    go_end0
    exact (HF.out.done.le (l2:=1) (f2:=20+t.length) (by simp) (by simp)).conv (m2:=false) (t2:=(rB num t).raw) (fun _=>rfl) (fun _ h=>by cases h)
def ExMar:Prop:=∀ (x:Ex) (cs:List Value) (Q:Nat→Prop) (d:Int) (w:World) (_:ex_fit x) (_:exCel.R w Q x cs) (_ : -9223372036854775808≤d∧d≤9223372036854775807),Calls Tryz.prog 35 #[.agg cs.toArray,.int .i64 d] w (MarPost (ex_may d x) (ex_out x) w)
theorem listex_if (l:List Ex)(hM:Hid (l≠[]→ExMar))(p:Nat)(d:Int)(ps:List (List UInt8))(hs:List Hole)(b:Bool)(P Q:Nat→Prop)(w:World)(num:Nat)(lo:Option Addr)(lc:Nat)(hfit:∀ x∈l,ex_fit x)(ha:CRels exCel w Q l lo)(hdis:∀ k,Q k→¬P k)(hw:WrH p d ps hs b P w)(hbd:b=true∨0≤d)(hd:-9223372036854775808≤d∧d≤9223372036854775807)(hnum:1≤num∧num≤536870911)(hsz:ps.length+lwt exSb l≤900000∧ps.flatten.length+2 * lwt exSb l≤5000000∧lwt exSb l≤400000) :
  Calls Tryz.prog 34 #[.pointer (some ⟨p,0,none⟩),.int .i64 num,.slice lo l.length lc,.func (.func 35) #[] #[]] w (WvPost p d ps hs b P w (lmays exSb l d) (louts exSb num l) (lwt exSb l) (2 * lwt exSb l)):=by
 have HFIT:=hid hfit;have HA:=hid (CRels.lt ha);have HDIS:=hid hdis;have HW:=hid hw;have HBD:=hid hbd;have HSZ:=hid hsz;have HNUM:=hid hnum;have hlen:l.length≤500000:=by have:=exs_len l;omega
 obtain ⟨d1,hd1⟩:∃ d1,IntKind.i64.wrap (d - 1)=d1:=⟨_,rfl⟩
 have HD1:Hid (0≤d→d1=d - 1):=hid (fun h=>by rw[←hd1,IntWalk.i64_in _ (by omega)])
 have HD1R:Hid (-9223372036854775808≤d1∧d1≤9223372036854775807):=hid (by
  rcases Int.lt_or_le (-9223372036854775808) d with h|h
  ·rw[IntWalk.i64_in _ (by omega)] at hd1;omega
  ·have e:d = -9223372036854775808:=by omega
   subst e;have:IntKind.i64.wrap (-9223372036854775808 - 1)=9223372036854775807:=by decide +kernel
   omega)
 have HQ1:=hid hd1;have HE:=hid (enters_of Tryz.func35 (by kernel_rfl) rfl);clear hfit ha hdis hw hbd hsz hnum hd hd1;go_enter Tryz.func34,Tryz.ntmps34;go_wp2_with fail
 go_loopg [12] l.length (fun k i wr=>∃ (j:Nat) (qs:List (List UInt8)) (P1:Nat→Prop),i = .int .i64 j∧j+k=l.length∧Hid (WSo p d ps hs b P w (lmays exSb (l.take j) d) (louts exSb num (l.take j)) (lwt exSb (l.take j)) (2 * lwt exSb (l.take j)) qs P1 wr))
 case atStart=>exact ⟨0,[],P,rfl,by omega,hid (by simpa [lmays,louts,lwt,lsum] using WSo.start HW.out)⟩
 case round =>
  obtain ⟨j,qs,P1,rfl,hj,HSO⟩:=hrel;have HJ:=hid hj;clear hj
  by_cases hlt:j<l.length
  ·have HAW:Hid (CRels exCel wr (fun k=>Q k∧k<w.heap.size) l lo):=hid (CRels.upd HSO.out.upd (fun k hk hp=>HDIS.out k hk.1 hp) (fun k hk=>hk) HA.out)
   obtain ⟨ga,oa,ca,rfl,_,hga,hca,hra⟩:=HAW.out j hlt;have hca:Cells wr ga (oa+7 * j) ca:=hca;have hmem:=List.getElem_mem hlt;obtain ⟨x,hx⟩:∃ x,l[j]=x:=⟨_,rfl⟩
   have HFX:=hid (HFIT.out x (hx ▸ hmem));have HTM:Hid (lmays exSb (l.take (j+1)) d=(lmays exSb (l.take j) d&&(decide (1≤d)&&ex_may (d - 1) x))):=hid (by rw[List.take_succ_eq_append_getElem hlt,lmays_app,hx,lmays_one];rfl);have HTO:Hid (louts exSb num (l.take (j+1))=louts exSb num (l.take j)++(rB num (ex_out x)).raw):=hid (by rw[List.take_succ_eq_append_getElem hlt,louts_app,hx,louts_one];rfl);have HTW:Hid (lwt exSb (l.take (j+1))=lwt exSb (l.take j)+ex_wt x):=hid (by rw[List.take_succ_eq_append_getElem hlt,lwt_app,hx,lwt_one];rfl);have HTB:Hid (lwt exSb (l.take j)+ex_wt x≤lwt exSb l):=hid (by rw[←hx];exact lwt_at (S:=exSb) hlt);have HKO:Hid ((ex_out x).length+20≤2 * ex_wt x):=hid (by have:=ex_wlen x;have:60≤ex_wt x:=(by obtain ⟨⟨t,⟨⟨⟨k,n⟩,⟨a,b⟩⟩,l⟩⟩,u⟩:=x;show 60≤60+_;omega);omega);rw[hx] at hra;have HRA:=hid hra;obtain ⟨lo,llo,lc,jt,jk,jn,Xa,Xb,Xu,rfl⟩:=ExRel.form hra;have HCA:=hid hca;obtain ⟨wa,hwa⟩:∃ wa,wr.alloc (.cells #[.slice lo llo lc,.int .u64 jt,.int .i64 jk,.int .u64 jn,.string Xa,.string Xb,.string Xu] 54)=wa:=⟨_,rfl⟩
   have HBA:Hid (Below wr.heap.size wr wa):=hid (by rw[←hwa];exact below_new _ _);have HSA:=hid (HSO.out.below HBA.out);have HWA:=hid hwa;have Hpartex_any:=hid (partex_any p d d1 (ps++qs) hs (b||!lmays exSb (l.take j) d) P1 wa num 35 (ex_may d1 x) (ex_out x) [.slice lo llo lc,.int .u64 jt,.int .i64 jk,.int .u64 jn,.string Xa,.string Xb,.string Xu] ⟨lo,llo,lc,jt,jk,jn,Xa,Xb,Xu,rfl⟩ (hid HSA.out.wr) HE.out (hid (fun w' hb=>hM.out (fun h=>by rw[h] at hlt;simp at hlt) x [.slice lo llo lc,.int .u64 jt,.int .i64 jk,.int .u64 jn,.string Xa,.string Xb,.string Xu] _ d1 w' HFX.out (exCel.upd (Upd.of_new (S:=fun _=>False) (below_step HBA.out hb)) (fun _ _ h=>h) (fun _ h=>h) HRA.out) HD1R.out)) HQ1.out HNUM.out (by have:=HKO.out;have:=HTB.out;have:=HSZ.out;omega) (by rw[List.length_append];have:=HSA.out.len;have:=HTB.out;have:=HSZ.out;omega) (by rw[List.flatten_append,List.length_append];have:=HSA.out.size;have:=HKO.out;have:=HTB.out;have:=HSZ.out;omega));clear hx hmem hra hca hwa;obtain ⟨e0,e1,e2,e3,e4,e5,e6⟩:=cells7 HCA.out;go_wp2_with fail;rw[HWA.out];refine Hpartex_any.out.mono ?_;intro e w5 hpost
   have hp2:=hpost.conv (m2:=decide (1≤d)&&ex_may (d - 1) x) (t2:=(rB num (ex_out x)).raw) (fun hb=>by
    have h0:0≤d:=by
     rcases HBD.out with h|h
     ·rw[h] at hb;cases hb
     ·exact h
    rw[HD1.out h0];exact (ex_may_neg x (d - 1)).trans (congrArg (·&&ex_may (d - 1) x) (decide_eq_decide.2 (by omega)))) (fun _ _=>rfl)
   obtain ⟨qs2,P2,rfl,hso⟩:=HSA.out.next hp2;rw[←HTM.out,←HTO.out] at hso;have HS5:=hid hso;clear hpost hp2 hso e0 e1 e2 e3 e4 e5 e6;go_wp2_with fail;have hj:=HJ.out
   go_roundg (gk - 1)
   case measure=>omega
   case rel=>exact ⟨j+1,qs++qs2,P2,by simp,by omega,hid ⟨HS5.out.upd,HS5.out.wr,HS5.out.new,HS5.out.bytes,by have:=HS5.out.len;have:=HTW.out;have:=HKO.out;omega,by have:=HS5.out.size;have:=HTW.out;have:=HKO.out;omega⟩⟩
  ·have hjn:j=l.length:=by have:=HJ.out;omega
   subst hjn;rw[List.take_length] at HSO;go_wp2_with fail
   go_end0
   exact HSO.out.done
end Go.Proofs.YtficgfemmijaaaaGreat
