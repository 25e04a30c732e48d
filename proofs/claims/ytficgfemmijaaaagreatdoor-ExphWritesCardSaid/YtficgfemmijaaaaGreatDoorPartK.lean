/-
  message.Part, message.List: of attributes; what the writers of messages share.
-/
import Derived.Test.YtficgfemmijaaaaGreatDoorMsgOpen
import Derived.Test.YtficgfemmijaaaaGreatDoorValOut
import Derived.Test.YtficgfemmijaaaaGreatDoorFld
import Derived.Test.YtficgfemmijaaaaGreatDoorMsgRead
import Derived.Deep.Cut
set_option maxRecDepth 1000000
set_option maxHeartbeats 16000000
namespace Go.Proofs.YtficgfemmijaaaaGreatDoor
open Go.RowKit
open Lib (hid)
theorem bytes_rB (num:Nat)(X:ByteArray)(h1:1≤num)(h2:num≤536870911)(hX:X.size≤1000000)(w:World) :
  Calls Tryz.prog 146 #[.int .i64 num,.string X] w fun e w'=>e = .returned (strV (rB num X.data.toList).raw)∧Below w.heap.size w w':=by
 have h:=wbytes_any (num:Int) X w (by omega) (by omega) (by omega);have e:=wrec_raw (num:=num) (ty:=2) h1 h2 (by omega) (vput X.size++X.data.toList);rw[show ((2:Nat):Int)=2 from rfl] at e;have hz:X.data.toList.length=X.size:=by simp
 rw[e,←hz] at h;exact h
theorem rB_len20 (num:Nat)(s:List UInt8):(rB num s).raw.length≤20+s.length:=by
 show (vput (8 * num+2)++(vput s.length++s)).length≤_
 rw[List.length_append,List.length_append];have:=vput_le10 (8 * num+2);have:=vput_le10 s.length;omega
theorem wv_var {p:Nat}{d:Int}{ps:List (List UInt8)}{hs:List Hole}{b:Bool}{P:Nat→Prop}{w:World}(num n:Nat)(h:WrH p d ps hs b P w)(hn:n<18446744073709551616)(h1:1≤num)(h2:num≤536870911)(hl:ps.length≤1000000)(hf:ps.flatten.length≤10000000) :
  Calls Tryz.prog 54 #[.pointer (some ⟨p,0,none⟩),.int .i64 num,.int .u64 n] w (WvPost p d ps hs b P w true (if n=0 then [] else (rN num n).raw) 1 20):=by
 have h3:=wv_lift (F:=54) (args:=#[.pointer (some ⟨p,0,none⟩),.int .i64 num,.int .u64 n]) (g:=true) (ts:=wvarP num n) h (fun vo P0 hw=>by simpa using wvar_any p d vo ps b P0 num n w (hid hw) hn h1 h2 hl hf);refine h3.mono fun e w' hp=>?_
 by_cases h0:n=0
 ·rw[wvarP,if_pos h0] at hp
  rw[if_pos h0];exact hp.le (by simp) (by simp)
 ·rw[wvarP,if_neg h0] at hp
  rw[if_neg h0];have e1:wrec (num:Int) 0 (vput n)=(rN num n).raw:=wrec_raw (num:=num) (ty:=0) h1 h2 (by omega) (vput n);rw[e1] at hp
  have hl:(rN num n).raw.length≤20:=by
   show (vput (8 * num+0)++vput n).length≤20
   rw[List.length_append];have:=vput_le10 (8 * num+0);have:=vput_le10 n;omega
  simp only[List.flatten_cons,List.flatten_nil,List.append_nil] at hp
  exact hp.le (by simp) hl
theorem wrh_row {p:Nat}{d:Int}{ps:List (List UInt8)}{hs:List Hole}{b:Bool}{P:Nat→Prop}{w:World}(h:WrH p d ps hs b P w):∃ vp L vo ev,w.heap[p]? = some (.cells #[.int .i64 d,vp,L,vo,ev] 167 (0,0))∧EV8 b w ev:=by
 obtain ⟨vo,P0,⟨vp,ev,h1,h2,h3,h4⟩,_⟩:=h;exact ⟨_,_,_,_,h1,h3⟩
theorem partk_any (p:Nat)(d d1:Int)(ps:List (List UInt8))(hs:List Hole)(b:Bool)(P:Nat→Prop)(w:World)(num F:Nat)(may:Bool)(t:List UInt8)(cs:List Value)(hform:∃ (K1:ByteArray) (h1:Bool) (k1:Int) (S1:ByteArray) (b1:Bool) (n1:Int) (l1:Option Addr) (ln1 lc1:Nat) (m1:Option Addr) (mn1 mc1:Nat) (I1 U1 Y1:ByteArray),cs=[.string K1,.bool h1,.int .i64 k1,.string S1,.bool b1,.int .u64 n1,.slice l1 ln1 lc1,.slice m1 mn1 mc1,.string I1,.string U1,.string Y1])(hw:Hid (WrH p d ps hs b P w))(hET:∀ args w,(callFunc F args).run Tryz.prog w = .ok (.enter F args) w)(hM:Hid (∀ w',Below w.heap.size w w'→Calls Tryz.prog F #[.agg cs.toArray,.int .i64 d1] w' (MarPost may t w')))(hd1:IntKind.i64.wrap (d - 1)=d1)(hnum:1≤num∧num≤536870911)(ht:t.length≤1000000)(hl:ps.length≤1000000)(hf:ps.flatten.length+t.length≤9000000) :
  Calls Tryz.prog 102 #[.pointer (some ⟨p,0,none⟩),.int .i64 num,.agg cs.toArray,.func (.func F) #[] #[]] w (WvPost p d ps hs b P w may (rB num t).raw 1 (20+t.length)):=by
 obtain ⟨K1,h1,k1,S1,b1,n1,l1,ln1,lc1,m1,mn1,mc1,I1,U1,Y1,rfl⟩:=hform;obtain ⟨W0,hW0⟩:∃ W0,w.alloc (.cells #[.string K1,.bool h1,.int .i64 k1,.string S1,.bool b1,.int .u64 n1,.slice l1 ln1 lc1,.slice m1 mn1 mc1,.string I1,.string U1,.string Y1] 79)=W0:=⟨_,rfl⟩
 obtain ⟨bx,hbx⟩:∃ bx,w.heap.size=bx:=⟨_,rfl⟩
 have HB0:Hid (Below w.heap.size w W0):=hid (by rw[←hW0];exact below_new _ _);have HX0:Hid (W0.heap[bx]? = some (.cells #[.string K1,.bool h1,.int .i64 k1,.string S1,.bool b1,.int .u64 n1,.slice l1 ln1 lc1,.slice m1 mn1 mc1,.string I1,.string U1,.string Y1] 79 (0,0))):=hid (by rw[←hW0,←hbx];exact heap_alloc_new _ _);have HSO:=hid ((WSo.start hw.out).below HB0.out);obtain ⟨vp,L,vo,ev,hrow,hev⟩:=wrh_row (wh_below hw.out HB0.out);have HW0:=hid hW0;have HBX:=hid hbx
 have hpx:p≠bx:=by
  obtain ⟨_,_,_,_,h,_⟩:=wrh_row hw.out;have:=row_lt h;omega
 have k4:W0.cell? ⟨p,4,none⟩=some ev:=row_cell hrow (j:=4) rfl;have HROW:=hid hrow
 cases b with
 | true =>
  obtain ⟨T',y,rfl⟩:=hev.yes.iface;rw[←hW0] at k4;clear hev hrow hW0 hbx hd1;go_enter Tryz.func102,Tryz.ntmps102;go_wp2_with fail
  go_end0
  rw[HW0.out];have h1:=(HSO.out.done.le (l2:=1) (f2:=20+t.length) (by omega) (by omega)).conv (m2:=may) (t2:=(rB num t).raw) (fun h=>by cases h) (fun h=>by cases h);exact h1
 | false =>
  obtain rfl:=hev.no;clear hev hrow;have HM:=hid (fun w' hb=>hM.out w' (below_step HB0.out hb));rw[←hW0] at k4;clear hW0 hbx;go_enter Tryz.func102,Tryz.ntmps102;go_wp2_with fail;go_upto_region 2 with fail
  all_goals
   rw[HW0.out,HBX.out];obtain ⟨D,hD⟩:∃ D,W0.drew=D:=⟨_,rfl⟩
   have hB:Below W0.heap.size W0 D:=by rw[←hD];exact (Below.refl _ _).drew
   have hS:R2 bx #[.string K1,.bool h1,.int .i64 k1,.string S1,.bool b1,.int .u64 n1,.slice l1 ln1 lc1,.slice m1 mn1 mc1,.string I1,.string U1,.string Y1] 79 p #[.int .i64 d,vp,L,vo,.nilIface] 167 D:=⟨(hB.block _ (row_lt HX0.out)).trans HX0.out,(hB.block _ (row_lt HROW.out)).trans HROW.out⟩
   have hne:Nonempty {w':World // R2 bx #[.string K1,.bool h1,.int .i64 k1,.string S1,.bool b1,.int .u64 n1,.slice l1 ln1 lc1,.slice m1 mn1 mc1,.string I1,.string U1,.string Y1] 79 p #[.int .i64 d,vp,L,vo,.nilIface] 167 w'}:=⟨⟨_,hS⟩⟩
   refine wp_region_seq (S:=R2 bx #[.string K1,.bool h1,.int .i64 k1,.string S1,.bool b1,.int .u64 n1,.slice l1 ln1 lc1,.slice m1 mn1 mc1,.string I1,.string U1,.string Y1] 79 p #[.int .i64 d,vp,L,vo,.nilIface] 167) [(0,true),(1,true),(2,true),(3,true),(4,true),(5,true),(6,true),(7,false),(8,true),(9,true),(10,true),(11,true),(12,true)] (by kernel_rfl) (by kernel_rfl) (by kernel_rfl) (by kernel_rfl) (by rw[hD];exact hS) ?_;rw[hD]
   (refine seq_take _ rfl (fun KC hK=>?_);go_simp;(first|refine hK _ ?_|refine ⟨_,fun _ _=>rfl,hK _ ?_⟩);clear hK KC)
   refine seq_take _ rfl (fun KC hK=>?_);go_simp;refine ⟨.agg #[.string K1,.bool h1,.int .i64 k1,.string S1,.bool b1,.int .u64 n1,.slice l1 ln1 lc1,.slice m1 mn1 mc1,.string I1,.string U1,.string Y1],fun a ha=>by obtain ⟨p0,p1,p2,p3,p4,p5,p6,p7,p8,p9,p10⟩:=row11 ha.1;simp only[p0,p1,p2,p3,p4,p5,p6,p7,p8,p9,p10,Result.andThen],hK _ ?_⟩;clear hK KC
   iterate 3 (refine seq_take _ rfl (fun KC hK=>?_);go_simp;(first|refine hK _ ?_|refine ⟨_,fun _ _=>rfl,hK _ ?_⟩);clear hK KC)
   refine seq_take _ rfl (fun KC hK=>?_);go_simp;refine ⟨.int .i64 d,fun a ha=>by rw[row_cell ha.2 (j:=0) rfl];rfl,hK _ ?_⟩;clear hK KC
   (refine seq_take _ rfl (fun KC hK=>?_);go_simp;(first|refine hK _ ?_|refine ⟨_,fun _ _=>rfl,hK _ ?_⟩);clear hK KC)
   refine seq_come _ rfl (fun KC hK=>?_);go_simp;refine (HM.out D hB).mono ?_;rintro e w1 ⟨hb1,hcase⟩;have hS1:=hS.below hb1;have HSO1:=hid (HSO.out.below (below_step hB hb1))
   cases may with
   | true =>
    rw[if_pos rfl] at hcase;subst hcase;go_simp;refine hK.out _ _ hS1 ?_;clear hK KC
    iterate 5 (refine seq_take _ rfl (fun KC hK=>?_);go_simp;(first|refine hK _ ?_|refine ⟨_,fun _ _=>rfl,hK _ ?_⟩);clear hK KC)
    refine seq_done ?_;clear hne hS hS1;go_wp2_with fail;refine (bytes_rB num ⟨t.toArray⟩ hnum.1 hnum.2 (by simp[ByteArray.size];omega) w1).mono ?_;rintro e w2 ⟨rfl,hb2⟩;have HSO2:=hid (HSO1.out.below hb2);have hr20:=rB_len20 num t;go_wp2_with fail;have hwr:=HSO2.out.wr;have hput:=wv_put (rB num t).raw hwr (by rw[List.length_append];have:=HSO2.out.len;omega) (by rw[List.flatten_append,List.length_append];have:=HSO2.out.size;omega);refine hput.mono ?_;intro e w3 hpost;obtain ⟨qs2,P2,rfl,hso⟩:=HSO2.out.next hpost;have HF:=hid hso;clear hpost hput hwr hso;go_wp2_with fail
    go_end0
    exact HF.out.done.le (by omega) (by omega)
   | false =>
    rw[if_neg (by simp)] at hcase;obtain ⟨v,rfl,hec⟩:=hcase;obtain ⟨T',y,rfl⟩:=hec.iface;have HEC:=hid hec;clear hec;go_simp;refine hK.out _ _ hS1 ?_;clear hK KC
    iterate 5 (refine seq_take _ rfl (fun KC hK=>?_);go_simp;(first|refine hK _ ?_|refine ⟨_,fun _ _=>rfl,hK _ ?_⟩);clear hK KC)
    refine seq_done ?_;clear hne hS hS1;go_wp2_with fail;refine (in_any _ _ _ _).mono ?_;rintro e w2 ⟨rfl,rfl⟩;have HEF:=hid (ec_field (n:=(num:Int)) HEC.out);have HSO2:=hid (HSO1.out.below (below_new w1 (.cells #[.int .i64 num,.iface T' y] 133)));go_wp2_with fail;have hlift:=wv_lift (F:=106) (args:=#[.pointer (some ⟨p,0,none⟩),.iface 131 (.pointer (some ⟨w1.heap.size,0,none⟩))]) (g:=false) (ts:=[]) HSO2.out.wr (fun vo P0 h1=>by rw[Bool.not_false,Bool.or_true,wps_nil];exact wfail_any p d vo _ _ P0 _ _ _ (hid h1) HEF);refine hlift.mono ?_;intro e w3 hpost;obtain ⟨qs2,P2,rfl,hso⟩:=HSO2.out.next hpost;have HF:=hid hso;clear hpost hlift hso;go_wp2_with fail
    go_end0
    exact (HF.out.done.le (l2:=1) (f2:=20+t.length) (by simp) (by simp)).conv (m2:=false) (t2:=(rB num t).raw) (fun _=>rfl) (fun _ h=>by cases h)
def KMar:Prop:=∀ (x:KV) (cs:List Value) (Q:Nat→Prop) (d:Int) (w:World) (_:kfit x) (_:KRel w Q x cs) (_ : -9223372036854775808≤d∧d≤9223372036854775807) (_:kw x≤400000),Calls Tryz.prog 51 #[.agg cs.toArray,.int .i64 d] w (MarPost (kmayD x d) (kout x) w)
theorem listk_if (l:List KV)(hM:Hid (l≠[]→KMar))(p:Nat)(d:Int)(ps:List (List UInt8))(hs:List Hole)(b:Bool)(P Q:Nat→Prop)(w:World)(num:Nat)(lo:Option Addr)(lc:Nat)(hfit:ksfit l)(ha:KRels w Q l lo 0)(hdis:∀ k,Q k→¬P k)(hw:WrH p d ps hs b P w)(hbd:b=true∨0≤d)(hd:-9223372036854775808≤d∧d≤9223372036854775807)(hnum:1≤num∧num≤536870911)(hsz:ps.length+ksw l≤500000∧ps.flatten.length+ksw l≤5000000∧ksw l≤400000) :
  Calls Tryz.prog 50 #[.pointer (some ⟨p,0,none⟩),.int .i64 num,.slice lo l.length lc,.func (.func 51) #[] #[]] w (WvPost p d ps hs b P w (kmays l d) (kouts num l) (ksw l) (ksw l)):=by
 have HFIT:=hid hfit;have HA:=hid (KRels.lt l lo 0 ha);have HDIS:=hid hdis;have HW:=hid hw;have HBD:=hid hbd;have HSZ:=hid hsz;have HNUM:=hid hnum;have hlen:l.length≤500000:=by have:=ksw_len l;omega
 obtain ⟨d1,hd1⟩:∃ d1,IntKind.i64.wrap (d - 1)=d1:=⟨_,rfl⟩
 have HD1:Hid (0≤d→d1=d - 1):=hid (fun h=>by rw[←hd1,IntWalk.i64_in _ (by omega)])
 have HD1R:Hid (-9223372036854775808≤d1∧d1≤9223372036854775807):=hid (by
  rcases Int.lt_or_le (-9223372036854775808) d with h|h
  ·rw[IntWalk.i64_in _ (by omega)] at hd1;omega
  ·have e:d = -9223372036854775808:=by omega
   subst e;have:IntKind.i64.wrap (-9223372036854775808 - 1)=9223372036854775807:=by decide +kernel
   omega)
 have HQ1:=hid hd1;have HE:=hid (enters_of Tryz.func51 (by kernel_rfl) rfl);clear hfit ha hdis hw hbd hsz hnum hd hd1;go_enter Tryz.func50,Tryz.ntmps50;go_wp2_with fail
 go_loopg [12] l.length (fun k i wr=>∃ (j:Nat) (qs:List (List UInt8)) (P1:Nat→Prop),i = .int .i64 j∧j+k=l.length∧Hid (WSo p d ps hs b P w (kmays (l.take j) d) (kouts num (l.take j)) (ksw (l.take j)) (ksw (l.take j)) qs P1 wr))
 case atStart=>exact ⟨0,[],P,rfl,by omega,hid (by simpa [kmays,kouts,ksw] using WSo.start HW.out)⟩
 case round =>
  obtain ⟨j,qs,P1,rfl,hj,HSO⟩:=hrel;have HJ:=hid hj;clear hj
  by_cases hlt:j<l.length
  ·have HAW:Hid (KRels wr (fun k=>Q k∧k<w.heap.size) l lo 0):=hid (KRels.upd HSO.out.upd (fun k hk hp=>HDIS.out k hk.1 hp) (fun k hk=>hk) l lo 0 HA.out)
   obtain ⟨ga,oa,ca,rfl,hga,hca,hra⟩:=krels_at0 HAW.out j hlt;have hmem:=List.getElem_mem hlt;obtain ⟨x,hx⟩:∃ x,l[j]=x:=⟨_,rfl⟩
   have HFX:=hid (ksfit_at HFIT.out x (hx ▸ hmem));have HTM:Hid (kmays (l.take (j+1)) d=(kmays (l.take j) d&&(decide (1≤d)&&kmay x (d - 1)))):=hid (by rw[List.take_succ_eq_append_getElem hlt,kmays_app,hx,kmays_one]);have HTO:Hid (kouts num (l.take (j+1))=kouts num (l.take j)++(rB num (kout x)).raw):=hid (by rw[List.take_succ_eq_append_getElem hlt,kouts_app,hx,kouts_one]);have HTW:Hid (ksw (l.take (j+1))=ksw (l.take j)+kw x):=hid (by rw[List.take_succ_eq_append_getElem hlt,ksw_app,hx,ksw_one]);have HTB:Hid (ksw (l.take j)+kw x≤ksw l):=hid (by rw[←hx];exact ksw_at hlt);have HKO:Hid ((kout x).length+20≤kw x):=hid (by have:=kout_le x;have:=kw_kb x;omega);rw[hx] at hra;have HRA:=hid hra;obtain ⟨K1,h1,k1,S1,b1,n1,l1,ln1,lc1,m1,mn1,mc1,I1,U1,Y1,rfl⟩:=hra.form;have HCA:=hid hca;obtain ⟨wa,hwa⟩:∃ wa,wr.alloc (.cells #[.string K1,.bool h1,.int .i64 k1,.string S1,.bool b1,.int .u64 n1,.slice l1 ln1 lc1,.slice m1 mn1 mc1,.string I1,.string U1,.string Y1] 79)=wa:=⟨_,rfl⟩
   have HBA:Hid (Below wr.heap.size wr wa):=hid (by rw[←hwa];exact below_new _ _);have HSA:=hid (HSO.out.below HBA.out);have HWA:=hid hwa;have Hpartk_any:=hid (partk_any p d d1 (ps++qs) hs (b||!kmays (l.take j) d) P1 wa num 51 (kmayD x d1) (kout x) [.string K1,.bool h1,.int .i64 k1,.string S1,.bool b1,.int .u64 n1,.slice l1 ln1 lc1,.slice m1 mn1 mc1,.string I1,.string U1,.string Y1] ⟨K1,h1,k1,S1,b1,n1,l1,ln1,lc1,m1,mn1,mc1,I1,U1,Y1,rfl⟩ (hid HSA.out.wr) HE.out (hid (fun w' hb=>hM.out (fun h=>by rw[h] at hlt;simp at hlt) x [.string K1,.bool h1,.int .i64 k1,.string S1,.bool b1,.int .u64 n1,.slice l1 ln1 lc1,.slice m1 mn1 mc1,.string I1,.string U1,.string Y1] _ d1 w' HFX.out ((HRA.out.below HBA.out).below hb) HD1R.out (by have:=HTB.out;have:=HSZ.out;omega))) HQ1.out HNUM.out (by have:=HKO.out;have:=HTB.out;have:=HSZ.out;omega) (by rw[List.length_append];have:=HSA.out.len;have:=HTB.out;have:=HSZ.out;omega) (by rw[List.flatten_append,List.length_append];have:=HSA.out.size;have:=HKO.out;have:=HTB.out;have:=HSZ.out;omega));clear hx hmem hra hca hwa;obtain ⟨e0,e1,e2,e3,e4,e5,e6,e7,e8,e9,e10⟩:=cells11 HCA.out;go_wp2_with fail;rw[HWA.out];refine Hpartk_any.out.mono ?_;intro e w5 hpost
   have hp2:=hpost.conv (m2:=decide (1≤d)&&kmay x (d - 1)) (t2:=(rB num (kout x)).raw) (fun hb=>by
    have h0:0≤d:=by
     rcases HBD.out with h|h
     ·rw[h] at hb;cases hb
     ·exact h
    rw[HD1.out h0,kmayD]
    congr 1
    exact decide_eq_decide.2 (by omega)) (fun _ _=>rfl)
   obtain ⟨qs2,P2,rfl,hso⟩:=HSA.out.next hp2;rw[←HTM.out,←HTO.out] at hso;have HS5:=hid hso;clear hpost hp2 hso e0 e1 e2 e3 e4 e5 e6 e7 e8 e9 e10;go_wp2_with fail;have hj:=HJ.out
   go_roundg (gk - 1)
   case measure=>omega
   case rel=>exact ⟨j+1,qs++qs2,P2,by simp,by omega,hid ⟨HS5.out.upd,HS5.out.wr,HS5.out.new,HS5.out.bytes,by have:=HS5.out.len;have:=HTW.out;have:=HKO.out;omega,by have:=HS5.out.size;have:=HTW.out;have:=HKO.out;omega⟩⟩
  ·have hjn:j=l.length:=by have:=HJ.out;omega
   subst hjn;rw[List.take_length] at HSO;go_wp2_with fail
   go_end0
   exact HSO.out.done
theorem mar_below {w W0 w1 w2 w3:World}{p:Nat}{P1:Nat→Prop}(h0:Below w.heap.size w W0)(hp:W0.heap.size=p)(h1:Below p W0 w1)(h2:Upd P1 w1 w2)(hP:∀ k,P1 k→p≤k)(h3:Below w2.heap.size w2 w3):Below w.heap.size w w3 :=
 h0.trans ((h1.trans ((h2.below (by have:=h1.size;omega) (fun k _ h=>hP k h)).trans (h3.mono (by have:=h1.size;have:=h2.size;omega)))).mono (by have:=h0.size;omega))
theorem wbytesP_len (num:Nat)(h1:1≤num)(h2:num≤536870911)(t:List UInt8):(wbytesP num t).length≤1∧(wbytesP num t).flatten.length≤20+t.length:=by
 unfold wbytesP
 split
 ·simp
 ·have e:=wrec_raw (num:=num) (ty:=2) h1 h2 (by omega) (vput t.length++t)
  have e2:wrec (num:Int) 2 (vput t.length++t)=(rB num t).raw:=e;rw[e2];have:=rB_len20 num t
  simp only[List.length_cons,List.length_nil,List.flatten_cons,List.flatten_nil,List.append_nil]
  omega
theorem wbytesP_raw (num:Nat)(h1:1≤num)(h2:num≤536870911)(t:List UInt8):(wbytesP num t).flatten=if t=[] then [] else (rB num t).raw:=by
 unfold wbytesP
 split
 ·rfl
 ·have e:=wrec_raw (num:=num) (ty:=2) h1 h2 (by omega) (vput t.length++t)
  have e2:wrec (num:Int) 2 (vput t.length++t)=(rB num t).raw:=e;rw[e2]
  simp
theorem u64_wrap32 {n:Nat}(h:n<4294967296):IntKind.u64.wrap (n:Int)=(n:Int):=by
 show ((n:Int) % 18446744073709551616)=_
 omega
open Go.RowKit
theorem rF_wrec {num:Nat}(h1:1≤num)(h2:num≤536870911)(n:Nat):wrec (num:Int) 1 (eight 8 n)=(rF num n).raw:=wrec_raw (num:=num) (ty:=1) h1 h2 (by omega) (eight 8 n)
theorem rF_len20 (num n:Nat):(rF num n).raw.length≤20:=by
 show (vput (8 * num+1)++eight 8 n).length≤20
 have:=vput_le10 (8 * num+1);have:(eight 8 n).length=8:=by rw[eight_8];rfl
 rw[List.length_append];omega
def wnumP (num n:Nat):List (List UInt8):=if n=0 then [] else [(rF num n).raw]
theorem wnum_any (p:Nat)(d:Int)(vo:Value)(ps:List (List UInt8))(b:Bool)(P:Nat→Prop)(num n:Nat)(w:World)(h:Hid (WrAt p d vo ps b P w))(hn:n<18446744073709551616)(h1:1≤num)(h2:num≤536870911)(hl:ps.length≤1000000)(hf:ps.flatten.length≤10000000) :
  Calls Tryz.prog 52 #[.pointer (some ⟨p,0,none⟩),.int .i64 num,.int .u64 n] w (WrPost p d vo (wps b ps (wnumP num n)) b P w):=by
 by_cases h0:n=0
 ·subst h0
  go_enter Tryz.func52,Tryz.ntmps52;go_wp2_with fail
  go_end0
  rw[show wnumP num 0=[] from if_pos rfl,wps_nil];exact wr_same h.out
 ·have d1:((n:Int) != 0)=true:=by rw[bne_iff_ne];omega
  have HZ:Hid (wnumP num n=[(rF num n).raw]):=hid (if_neg h0);have hrw:=rF_wrec h1 h2 n;have hwl:=rF_len20 num n;obtain ⟨R,hR⟩:∃ R,(rF num n).raw=R:=⟨_,rfl⟩
  rw[hR] at hrw hwl HZ;have HRW:=hid hrw;clear h0 hR hrw;go_enter Tryz.func52,Tryz.ntmps52;go_wp2_with fail;refine (wfixed_any (num:Int) n _ (by omega) (by omega) hn).mono ?_;rintro e w1 ⟨rfl,hb1⟩;rw[HRW.out];have HB1:=hid hb1;have HW1:=hid (wr_below h.out hb1);clear hb1;go_wp2_with fail;refine (wput_any p d vo ps b P R _ HW1 hl (by omega)).mono ?_;intro e w2 hpost;obtain ⟨rfl,hu,P',hw,hp⟩:=hpost;have HU:=hid hu;have HW:=hid hw;have HP:=hid hp;clear hu hw hp;go_wp2_with fail
  go_end0
  refine ⟨rfl,(Upd.of_new HB1.out).trans HU.out,P',?_,fun k hk=>?_⟩
  ·rw[HZ.out];exact HW.out
  ·rcases HP.out k hk with h|h
   ·exact .inl h
   ·exact .inr (Nat.le_trans HB1.out.size h)
section
variable {p:Nat} {d:Int} {ps:List (List UInt8)} {hs:List Hole} {b:Bool} {P:Nat→Prop} {w:World}
theorem wv_num (num n:Nat)(h:WrH p d ps hs b P w)(hn:n<18446744073709551616)(h1:1≤num)(h2:num≤536870911)(hl:ps.length≤1000000)(hf:ps.flatten.length≤10000000) :
  Calls Tryz.prog 52 #[.pointer (some ⟨p,0,none⟩),.int .i64 num,.int .u64 n] w (WvPost p d ps hs b P w true (if n=0 then [] else (rF num n).raw) 1 20):=by
 have h3:=wv_lift (F:=52) (args:=#[.pointer (some ⟨p,0,none⟩),.int .i64 num,.int .u64 n]) (g:=true) (ts:=wnumP num n) h (fun vo P0 hw=>by simpa using wnum_any p d vo ps b P0 num n w (hid hw) hn h1 h2 hl hf);refine h3.mono fun e w' hp=>?_
 by_cases h0:n=0
 ·rw[wnumP,if_pos h0] at hp
  rw[if_pos h0];exact hp.le (by simp) (by simp)
 ·rw[wnumP,if_neg h0] at hp
  rw[if_neg h0]
  simp only[List.flatten_cons,List.flatten_nil,List.append_nil] at hp
  exact hp.le (by simp) (rF_len20 num n)
theorem wv_bytes (num:Nat)(X:ByteArray)(t:List UInt8)(h:WrH p d ps hs b P w)(hX:X.data.toList=t)(h1:1≤num)(h2:num≤536870911)(ht:t.length≤1000000)(hl:ps.length≤1000000)(hf:ps.flatten.length≤10000000) :
  Calls Tryz.prog 112 #[.pointer (some ⟨p,0,none⟩),.int .i64 num,.string X] w (WvPost p d ps hs b P w true (if t=[] then [] else (rB num t).raw) 1 (20+t.length)):=by
 have h3:=wv_lift (F:=112) (args:=#[.pointer (some ⟨p,0,none⟩),.int .i64 num,.string X]) (g:=true) (ts:=wbytesP num t) h (fun vo P0 hw=>by simpa using wmbytes_any p d vo ps b P0 num X t w (hid hw) (hid hX) h2 ht hl hf);refine h3.mono fun e w' hp=>?_
 rw[wbytesP_raw num h1 h2 t] at hp;have hl:=wbytesP_len num h1 h2 t;rw[wbytesP_raw num h1 h2 t] at hl;exact hp.le hl.1 hl.2
theorem wv_kind (k:Int)(n:Nat)(h:Hid (WrH p d ps hs b P w)) :
  Calls Tryz.prog 111 #[.pointer (some ⟨p,0,none⟩),.int .i64 k,.int .u64 n] w (WvPost p d ps hs b P w (decide (k=0∧n=0∨k=1∨k=2)) [] 0 0):=by
 obtain ⟨g,hg⟩:∃ g,decide (k=0∧n=0∨k=1∨k=2)=g:=⟨_,rfl⟩
 rw[hg];have HA:=hid (wv_ask g h.out)
 have hk:(k=0∧n=0∧g=true)∨(k=0∧n≠0∧g=false)∨(k=1∧g=true)∨(k=2∧g=true)∨(k≠0∧k≠1∧k≠2∧g=false):=by
  cases g with
  | true=>have:=of_decide_eq_true hg;simp only[and_true,Bool.true_eq_false,and_false,false_or,or_false];omega
  | false=>have:=of_decide_eq_false hg;simp only[and_true,Bool.false_eq_true,and_false,false_or];omega
 clear hg
 rcases hk with ⟨rfl,rfl,rfl⟩|⟨rfl,hn,rfl⟩|⟨rfl,rfl⟩|⟨rfl,rfl⟩|⟨h0,h1,h2,rfl⟩
 case inr.inl => 
  have d1:((n:Int) == 0)=false:=by rw[beq_eq_false_iff_ne];omega
  clear hn;go_enter Tryz.func111,Tryz.ntmps111;go_wp2_with fail;refine HA.out.mono ?_;intro e w1 hp;obtain rfl:=hp.unit;have HP:=hid hp;clear hp;go_wp2_with fail
  go_end0
  exact HP.out
 case inr.inr.inr.inr =>
  have d0:(k == 0)=false:=by rw[beq_eq_false_iff_ne];exact h0
  have d1:(k == 1)=false:=by rw[beq_eq_false_iff_ne];exact h1
  have d2:(k == 2)=false:=by rw[beq_eq_false_iff_ne];exact h2
  clear h0 h1 h2;go_enter Tryz.func111,Tryz.ntmps111;go_wp2_with fail;refine HA.out.mono ?_;intro e w1 hp;obtain rfl:=hp.unit;have HP:=hid hp;clear hp;go_wp2_with fail
  go_end0
  exact HP.out
 all_goals
  go_enter Tryz.func111,Tryz.ntmps111;go_wp2_with fail;refine HA.out.mono ?_;intro e w1 hp;obtain rfl:=hp.unit;have HP:=hid hp;clear hp;go_wp2_with fail
  go_end0
  exact HP.out
theorem WSx.skip {may:Bool}{t:List UInt8}{nl nf:Nat}{qs:List (List UInt8)}{P1:Nat→Prop}{bx:Nat}{X:Array Value}{T:TypeId}{w1:World}(h:WSx p d ps hs b P w may t nl nf qs P1 bx X T w1)(c:Prop)[Decidable c](hc:¬c)(r:List UInt8)(f2:Nat):WSx p d ps hs b P w (may&&true) (t++if c then r else []) (nl+1) (nf+f2) qs P1 bx X T w1:=by
 obtain ⟨⟨h1,h2,h3,h4,h5,h6⟩,h7,h8⟩:=h;rw[if_neg hc,List.append_nil,Bool.and_true];exact ⟨⟨h1,h2,h3,h4,by omega,by omega⟩,h7,h8⟩
theorem wv_if {t:List UInt8}{nl nf:Nat}{e:Ending}{w':World}(c:Prop)[Decidable c](hc:c)(h:WvPost p d ps hs b P w true t nl nf e w'):WvPost p d ps hs b P w true (if c then t else []) nl nf e w':=by
 rw[if_pos hc];exact h
end
end Go.Proofs.YtficgfemmijaaaaGreatDoor
