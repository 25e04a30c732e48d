/-
 message.Each, value.putList.
-/
import Derived.Test.YtficgfemmijaaaaGreatDoorValOut
import Derived.Test.YtficgfemmijaaaaGreatDoorMsgOpen
import Derived.Test.YtficgfemmijaaaaGreatDoorMsgRead
import Derived.Test.YtficgfemmijaaaaGreatDoorMsgMath
import Derived.Test.YtficgfemmijaaaaGreatDoorPartK
set_option maxRecDepth 1000000
set_option maxHeartbeats 16000000
namespace Go.Proofs.YtficgfemmijaaaaGreatDoor
open Go.RowKit
open Lib (hid)
def PutV (x:Val):Prop:=∀ (p:Nat) (d:Int) (ps:List (List UInt8)) (hs:List Hole) (b:Bool) (P Q:Nat→Prop) (w:World) (cs:List Value),vfit x→VRel w Q x cs→(∀ k,Q k→¬P k)→WrH p d ps hs b P w→(b=true∨0≤d) → -9223372036854775808≤d∧d≤9223372036854775807→ps.length+vb x≤500000∧ps.flatten.length+vb x≤5000000∧hs.length+vb x≤500000 →
 Calls Tryz.prog 149 #[.pointer (some ⟨p,0,none⟩),.agg cs.toArray] w (WvPost p d ps hs b P w (vmay x d) (vout x) (vb x) (vb x))
def PutK (x:KV):Prop:=∀ (p:Nat) (d:Int) (ps:List (List UInt8)) (hs:List Hole) (b:Bool) (P Q:Nat→Prop) (w:World) (cs:List Value),kfit x→KRel w Q x cs→(∀ k,Q k→¬P k)→WrH p d ps hs b P w→(b=true∨0≤d) → -9223372036854775808≤d∧d≤9223372036854775807→ps.length+kb x≤500000∧ps.flatten.length+kb x≤5000000∧hs.length+kb x≤500000 →
 Calls Tryz.prog 103 #[.pointer (some ⟨p,0,none⟩),.agg cs.toArray] w (WvPost p d ps hs b P w (kmay x d) (kout x) (kb x) (kb x))
theorem close_hok {ps qs:List (List UInt8)}{b g m:Bool}{num:Nat}(h1:1≤num)(h2:num≤536870911):(b||!g||!m)=false→(⟨num,ps.length,ps.flatten.length⟩:Hole).part<(wps (b||!g) ps [[]]++qs).length∧(wps (b||!g) ps [[]]++qs)[(⟨num,ps.length,ps.flatten.length⟩:Hole).part]? = some []∧(⟨num,ps.length,ps.flatten.length⟩:Hole).size≤(wps (b||!g) ps [[]]++qs).flatten.length∧1≤(⟨num,ps.length,ps.flatten.length⟩:Hole).num∧(⟨num,ps.length,ps.flatten.length⟩:Hole).num≤536870911:=by
 intro h;have hb:(b||!g)=false:=by revert h;cases (b||!g)<;>simp
 rw[hb]
 simp only[wps]
 refine ⟨by simp,by simp,by simp,h1,h2⟩
def EachV (l:List Val):Prop:=∀ (p:Nat) (d:Int) (ps:List (List UInt8)) (hs:List Hole) (b:Bool) (P Q:Nat→Prop) (w:World) (num:Nat) (lo:Option Addr) (lc:Nat),vsfit l→VRels w Q l lo 0→(∀ k,Q k→¬P k)→WrH p d ps hs b P w→(b=true∨0≤d) → -9223372036854775808≤d∧d≤9223372036854775807→1≤num∧num≤536870911→ps.length+vsw l≤500000∧ps.flatten.length+vsw l≤5000000∧hs.length+vsw l≤500000 →
 Calls Tryz.prog 148 #[.pointer (some ⟨p,0,none⟩),.int .i64 num,.slice lo l.length lc,.func (.func 149) #[] #[]] w (WvPost p d ps hs b P w (vmays l d) (vouts num l) (vsw l) (vsw l))
theorem veach_step (l:List Val)(hk:Hid (∀ x∈l,PutV x)):EachV l:=by
 intro p d ps hs b P Q w num lo lc hfit ha hdis hw hbd hd hnum hsz;have HFIT:=hid hfit;have HA:=hid (VRels.lt l lo 0 ha);have HPLT:=hid (fun k hk=>(wh_lt hw k hk).2);have HDIS:=hid hdis;have HW:=hid hw;have HBD:=hid hbd;have HSZ:=hid hsz;have HNUM:=hid hnum;have HD:=hid hd;have hlen:l.length≤500000:=by have:=vsw_len l;omega
 obtain ⟨d1,hd1⟩:∃ d1,IntKind.i64.wrap (d - 1)=d1:=⟨_,rfl⟩
 have hd2:IntKind.i64.wrap (d1+1)=d:=by
  rcases Int.lt_or_le (-9223372036854775808) d with h|h
  ·rw[IntWalk.i64_in _ (by omega)] at hd1
   rw[IntWalk.i64_in _ (by omega)];omega
  ·have e:d = -9223372036854775808:=by omega
   subst e;rw[←hd1];decide +kernel
 have HD1:Hid (0≤d→d1=d - 1):=hid (fun h=>by rw[←hd1,IntWalk.i64_in _ (by omega)])
 have HD1R:Hid (-9223372036854775808≤d1∧d1≤9223372036854775807):=hid (by
  rcases Int.lt_or_le (-9223372036854775808) d with h|h
  ·rw[IntWalk.i64_in _ (by omega)] at hd1;omega
  ·have e:d = -9223372036854775808:=by omega
   subst e;have:IntKind.i64.wrap (-9223372036854775808 - 1)=9223372036854775807:=by decide +kernel
   omega)
 have HQ1:=hid hd1;have HQ2:=hid hd2;clear hfit ha hdis hw hbd hsz hnum hd hd1 hd2;go_enter Tryz.func148,Tryz.ntmps148;go_wp2_with fail
 go_loopg [12] l.length (fun k i wr=>∃ (j:Nat) (qs:List (List UInt8)) (P1:Nat→Prop),i = .int .i64 j∧j+k=l.length∧Hid (WSo p d ps hs b P w (vmays (l.take j) d) (vouts num (l.take j)) (vsw (l.take j)) (vsw (l.take j)) qs P1 wr))
 case atStart=>exact ⟨0,[],P,rfl,by omega,hid (by simpa [vmays,vouts,vsw] using WSo.start HW.out)⟩
 case round =>
  obtain ⟨j,qs,P1,rfl,hj,HSO⟩:=hrel;have HJ:=hid hj;clear hj
  by_cases hlt:j<l.length
  ·have HAW:Hid (VRels wr (fun k=>Q k∧k<w.heap.size) l lo 0):=hid (VRels.upd HSO.out.upd (fun k hk hp=>HDIS.out k hk.1 hp) (fun k hk=>hk) l lo 0 HA.out)
   obtain ⟨ga,oa,ca,rfl,hga,hca,hra⟩:=vrels_at0 HAW.out j hlt;have hmem:=List.getElem_mem hlt;obtain ⟨x,hx⟩:∃ x,l[j]=x:=⟨_,rfl⟩
   have HKX:=hid (hk.out x (hx ▸ hmem));have HFX:=hid (vsfit_at HFIT.out x (hx ▸ hmem));have HTM:Hid (vmays (l.take (j+1)) d=(vmays (l.take j) d&&(decide (1≤d)&&vmay x (d - 1)))):=hid (by rw[List.take_succ_eq_append_getElem hlt,vmays_app,hx,vmays_one]);have HTO:Hid (vouts num (l.take (j+1))=vouts num (l.take j)++(rB num (vout x)).raw):=hid (by rw[List.take_succ_eq_append_getElem hlt,vouts_app,hx,vouts_one]);have HTW:Hid (vsw (l.take (j+1))=vsw (l.take j)+vw x):=hid (by rw[List.take_succ_eq_append_getElem hlt,vsw_app,hx,vsw_one]);have HTB:Hid (vsw (l.take j)+vw x≤vsw l):=hid (by rw[←hx];exact vsw_at hlt);have HWB:Hid (vw x=vb x+40):=hid (vw_vb x);rw[hx] at hra;have HRA:=hid hra;obtain ⟨k1,S1,b1,n1,l1,ln1,lc1,m1,mn1,mc1,I1,U1,rfl⟩:=hra.form;have HCA:=hid hca;obtain ⟨wa,hwa⟩:∃ wa,wr.alloc (.cells #[.int .i64 k1,.string S1,.bool b1,.int .u64 n1,.slice l1 ln1 lc1,.slice m1 mn1 mc1,.string I1,.string U1] 77)=wa:=⟨_,rfl⟩
   obtain ⟨bx,hbx⟩:∃ bx,wr.heap.size=bx:=⟨_,rfl⟩
   have HBA:Hid (Below wr.heap.size wr wa):=hid (by rw[←hwa];exact below_new _ _);have HXA:Hid (wa.heap[bx]? = some (.cells #[.int .i64 k1,.string S1,.bool b1,.int .u64 n1,.slice l1 ln1 lc1,.slice m1 mn1 mc1,.string I1,.string U1] 77 (0,0))):=hid (by rw[←hwa,←hbx];exact heap_alloc_new _ _);have HSA:=hid (HSO.out.below HBA.out);have HP1L:Hid (∀ k,P1 k→k<bx):=hid (fun k hk=>by rw[←hbx];exact (wh_lt HSO.out.wr k hk).2);have HWA:=hid hwa;have HBX:=hid hbx;have HBXW:Hid (w.heap.size≤bx):=hid (by rw[←hbx];exact HSO.out.upd.size);have HRAA:Hid (VRel wa (fun k=>Q k∧k<w.heap.size) x [.int .i64 k1,.string S1,.bool b1,.int .u64 n1,.slice l1 ln1 lc1,.slice m1 mn1 mc1,.string I1,.string U1]):=hid (HRA.out.below HBA.out);obtain ⟨bb,hbb⟩:∃ bb,(b||!vmays (l.take j) d)=bb:=⟨_,rfl⟩
   have HBB:=hid hbb;have HWR:Hid (WrH p d (ps++qs) hs bb P1 wa):=hid (by rw[←hbb];exact HSA.out.wr);have hwr0:WrH p d (ps++qs) hs bb P1 wr:=by rw[←hbb];exact HSO.out.wr
   obtain ⟨vo,P0,hwr,hho,hdd,hPE⟩:=hwr0;obtain ⟨vp,ev,h1,h2,h3,h4⟩:=hwr;have hpw:=row_lt h1;clear hx hmem hra hca hbb hPE h2 h4 hho hdd;obtain ⟨ea0,ea1,ea2,ea3,ea4,ea5,ea6,ea7⟩:=cells8 HCA.out
   cases bb with
   | true =>
    obtain ⟨T',y',rfl⟩:=h3.yes.iface;have k4:wr.cell? ⟨p,4,none⟩=some (.iface T' y'):=row_cell h1 (j:=4) rfl;clear h1 h3 hwa hbx;go_wp2_with fail;rw[HWA.out];go_wp2_with fail
    go_end0
    have hdone:=HSA.out.done
    have hfin:=(hdone.le (vsw_take l j) (vsw_take l j)).conv (m2:=vmays l d) (t2:=vouts num l) (fun hb=>by
     have h:=HBB.out;rw[hb] at h;have h5:vmays (l.take j) d=false:=by revert h;cases vmays (l.take j) d<;>simp
     rw[h5,vmays_take h5]) (fun hb hm=>by
     have h:=HBB.out;rw[hb,hm] at h
     cases h)
    exact hfin
   | false =>
    obtain rfl:=h3.no;have k4:wr.cell? ⟨p,4,none⟩=some .nilIface:=row_cell h1 (j:=4) rfl;have hb0:b=false:=by have h:=HBB.out;revert h;cases b<;>simp
    subst hb0;have hm0:vmays (l.take j) d=true:=by have h:=HBB.out;revert h;cases vmays (l.take j) d<;>simp
    have HM0:=hid hm0;have hd0:0≤d:=by rcases HBD.out with h|h;cases h;exact h
    have he1:d1=d - 1:=HD1.out hd0;have HDG:Hid (decide (0≤d1)=decide (1≤d)):=hid (by rw[he1];congr 1;exact propext ⟨fun h=>by omega,fun h=>by omega⟩);have HE1:=hid he1;have hql:(ps++qs).length+(vw x)≤500000:=by rw[List.length_append];have:=HSO.out.len;have:=HTB.out;have:=HSZ.out;omega
    have hqf:(ps++qs).flatten.length+(vw x)≤5000000:=by rw[List.flatten_append,List.length_append];have:=HSO.out.size;have:=HTB.out;have:=HSZ.out;omega
    have hhl:hs.length+(vw x)≤500000:=by have:=HTB.out;have:=HSZ.out;omega
    have HQL:=hid hql;have HQF:=hid hqf;have HHL:=hid hhl;have HOP:=hid (wopen_any p d (ps++qs) hs false P1 num wa d1 HWR HQ1.out (by omega) (by omega) (by omega));clear h1 h3 hwa hbx hm0 hd0 he1 hql hqf hhl;go_wp2_with fail;rw[HWA.out];go_wp2_with fail;refine HOP.out.mono ?_;intro e w2 hpost;obtain ⟨rfl,u1,P2,r1,n1_⟩:=hpost;have HU1:=hid u1;have HR1:=hid r1;have HN1:=hid n1_;have HX2:Hid (w2.heap[bx]? = some (.cells #[.int .i64 k1,.string S1,.bool b1,.int .u64 n1,.slice l1 ln1 lc1,.slice m1 mn1 mc1,.string I1,.string U1] 77 (0,0))):=hid ((u1.block bx (row_lt HXA.out) (fun hp=>by have:=HP1L.out bx hp;omega)).trans HXA.out)
    have HQP1:Hid (∀ k,Q k∧k<w.heap.size→¬P1 k):=hid (fun k hk hp=>by
     rcases HSO.out.new k hp with h|h
     ·exact HDIS.out k hk.1 h
     ·omega)
    have HRX:Hid (VRel w2 (fun k=>Q k∧k<w.heap.size) x [.int .i64 k1,.string S1,.bool b1,.int .u64 n1,.slice l1 ln1 lc1,.slice m1 mn1 mc1,.string I1,.string U1]):=hid (VRel.upd u1 HQP1.out (fun k hk=>hk) x _ HRAA.out)
    have HQP2:Hid (∀ k,Q k∧k<w.heap.size→¬P2 k):=hid (fun k hk hp=>by
     rcases n1_ k hp with h|h
     ·exact HQP1.out k hk h
     ·have:=HBA.out.size;have:=HBX.out;have:=HBXW.out;omega)
    clear u1 r1 n1_;have x0:w2.cell? ⟨bx,0,none⟩=some (.int .i64 k1):=row_cell HX2.out (j:=0) rfl;have x1:w2.cell? ⟨bx,1,none⟩=some (.string S1):=row_cell HX2.out (j:=1) rfl;have x2:w2.cell? ⟨bx,2,none⟩=some (.bool b1):=row_cell HX2.out (j:=2) rfl;have x3:w2.cell? ⟨bx,3,none⟩=some (.int .u64 n1):=row_cell HX2.out (j:=3) rfl;have x4:w2.cell? ⟨bx,4,none⟩=some (.slice l1 ln1 lc1):=row_cell HX2.out (j:=4) rfl;have x5:w2.cell? ⟨bx,5,none⟩=some (.slice m1 mn1 mc1):=row_cell HX2.out (j:=5) rfl;have x6:w2.cell? ⟨bx,6,none⟩=some (.string I1):=row_cell HX2.out (j:=6) rfl;have x7:w2.cell? ⟨bx,7,none⟩=some (.string U1):=row_cell HX2.out (j:=7) rfl;rw[HBX.out];go_wp2_with fail;have HCL:=hid (fun (b2:Bool)=>(show (b2=true∨0≤d1)→(b2=true∨0≤d1) from id));refine (HKX.out p d1 (wps (false||!decide (0≤d1)) (ps++qs) [[]]) (hs++[⟨num,(ps++qs).length,(ps++qs).flatten.length⟩]) (false||!decide (0≤d1)) P2 (fun k=>Q k∧k<w.heap.size) w2 [.int .i64 k1,.string S1,.bool b1,.int .u64 n1,.slice l1 ln1 lc1,.slice m1 mn1 mc1,.string I1,.string U1] HFX.out HRX.out HQP2.out HR1.out (by by_cases h:0≤d1<;>simp[h]) HD1R.out ?side).mono ?_
    case side =>
     have:=HQL.out;have:=HQF.out;have:=HHL.out;have:=HWB.out;refine ⟨?_,?_,?_⟩
     ·cases hgg:(false||!decide (0≤d1))<;>simp only[wps]<;>(try rw[List.length_append,List.length_singleton])<;>omega
     ·cases hgg:(false||!decide (0≤d1))<;>simp only[wps]<;>(try rw[List.flatten_append (l₁:=ps++qs)])<;>simp only[List.flatten_cons,List.flatten_nil,List.append_nil,List.length_append,List.flatten_append] at * <;> omega
     ·rw[List.length_append,List.length_singleton];omega
    intro e w3 hpost;obtain ⟨rs,⟨rfl,u2,P3,r2,n2⟩,hrq,hrl,hrf⟩:=hpost;have HU2:=hid u2;have HN2:=hid n2;have HRQ:=hid hrq;have HRL:=hid hrl;have HRF:=hid hrf
    have HCLS:=hid (wclose_any p d1 (wps (false||!decide (0≤d1)) (ps++qs) [[]]++rs) hs ⟨num,(ps++qs).length,(ps++qs).flatten.length⟩ (false||!decide (0≤d1)||!vmay x d1) P3 w3 d (hid r2) HQ2.out (by
     have:=HQL.out;have:=HWB.out;rw[List.length_append]
     cases hgg:(false||!decide (0≤d1))<;>simp only[wps]<;>(try rw[List.length_append,List.length_singleton])<;>omega) (by have:=HHL.out;omega) (by
     have:=HQF.out;have:=HWB.out;rw[List.flatten_append,List.length_append]
     cases hgg:(false||!decide (0≤d1))<;>simp only[wps,List.flatten_cons,List.flatten_nil,List.append_nil,List.length_append,List.flatten_append] at * <;> omega) (hid (close_hok HNUM.out.1 HNUM.out.2)))
    clear u2 r2 n2 hrq hrl hrf ea0 x0 ea1 x1 ea2 x2 ea3 x3 ea4 x4 ea5 x5 ea6 x6 ea7 x7;go_wp2_with fail;refine HCLS.out.mono ?_;intro e w4 hpost;have hin:=wv_inner (b:=false) HU1.out HN1.out HU2.out HN2.out HRQ.out HRL.out HRF.out hpost;rw[whead_raw HNUM.out.1 HNUM.out.2] at hin;obtain ⟨qs2,P4,rfl,hso4⟩:=HSA.out.next (m2:=decide (0≤d1)&&vmay x d1) (t2:=(rB num (vout x)).raw) (l2:=vb x+1) (f2:=vb x+20) (by rw[show (false||!vmays (l.take j) d)=false from HBB.out];exact hin)
    have HSO4:Hid (WSo p d ps hs false P w (vmays (l.take (j+1)) d) (vouts num (l.take (j+1))) (vsw (l.take (j+1))) (vsw (l.take (j+1))) (qs++qs2) P4 w4):=hid (by
     rw[HTM.out,HTO.out,HTW.out,←HDG.out,←HE1.out];have:=HWB.out;exact ⟨hso4.upd,hso4.wr,hso4.new,hso4.bytes,by have:=hso4.len;omega,by have:=hso4.size;omega⟩)
    clear hpost hin hso4;go_wp2_with fail;have hj:=HJ.out
    go_roundg (gk - 1)
    case measure=>omega
    case rel=>exact ⟨j+1,qs++qs2,P4,by simp,by omega,HSO4⟩
  ·have hjn:j=l.length:=by have:=HJ.out;omega
   have HDONE:=hid HSO.out.done;have HTK:Hid (l.take j=l):=hid (by rw[hjn,List.take_length]);clear hjn;go_wp2_with fail
   go_end0
   have:=HDONE.out;rw[HTK.out] at this;exact this
def EachK (l:List KV):Prop:=∀ (p:Nat) (d:Int) (ps:List (List UInt8)) (hs:List Hole) (b:Bool) (P Q:Nat→Prop) (w:World) (num:Nat) (lo:Option Addr) (lc:Nat),ksfit l→KRels w Q l lo 0→(∀ k,Q k→¬P k)→WrH p d ps hs b P w→(b=true∨0≤d) → -9223372036854775808≤d∧d≤9223372036854775807→1≤num∧num≤536870911→ps.length+ksw l≤500000∧ps.flatten.length+ksw l≤5000000∧hs.length+ksw l≤500000 →
 Calls Tryz.prog 192 #[.pointer (some ⟨p,0,none⟩),.int .i64 num,.slice lo l.length lc,.func (.func 103) #[] #[]] w (WvPost p d ps hs b P w (kmays l d) (kouts num l) (ksw l) (ksw l))
theorem keach_step (l:List KV)(hk:Hid (∀ x∈l,PutK x)):EachK l:=by
 intro p d ps hs b P Q w num lo lc hfit ha hdis hw hbd hd hnum hsz;have HFIT:=hid hfit;have HA:=hid (KRels.lt l lo 0 ha);have HPLT:=hid (fun k hk=>(wh_lt hw k hk).2);have HDIS:=hid hdis;have HW:=hid hw;have HBD:=hid hbd;have HSZ:=hid hsz;have HNUM:=hid hnum;have HD:=hid hd;have hlen:l.length≤500000:=by have:=ksw_len l;omega
 obtain ⟨d1,hd1⟩:∃ d1,IntKind.i64.wrap (d - 1)=d1:=⟨_,rfl⟩
 have hd2:IntKind.i64.wrap (d1+1)=d:=by
  rcases Int.lt_or_le (-9223372036854775808) d with h|h
  ·rw[IntWalk.i64_in _ (by omega)] at hd1
   rw[IntWalk.i64_in _ (by omega)];omega
  ·have e:d = -9223372036854775808:=by omega
   subst e;rw[←hd1];decide +kernel
 have HD1:Hid (0≤d→d1=d - 1):=hid (fun h=>by rw[←hd1,IntWalk.i64_in _ (by omega)])
 have HD1R:Hid (-9223372036854775808≤d1∧d1≤9223372036854775807):=hid (by
  rcases Int.lt_or_le (-9223372036854775808) d with h|h
  ·rw[IntWalk.i64_in _ (by omega)] at hd1;omega
  ·have e:d = -9223372036854775808:=by omega
   subst e;have:IntKind.i64.wrap (-9223372036854775808 - 1)=9223372036854775807:=by decide +kernel
   omega)
 have HQ1:=hid hd1;have HQ2:=hid hd2;clear hfit ha hdis hw hbd hsz hnum hd hd1 hd2;go_enter Tryz.func192,Tryz.ntmps192;go_wp2_with fail
 go_loopg [12] l.length (fun k i wr=>∃ (j:Nat) (qs:List (List UInt8)) (P1:Nat→Prop),i = .int .i64 j∧j+k=l.length∧Hid (WSo p d ps hs b P w (kmays (l.take j) d) (kouts num (l.take j)) (ksw (l.take j)) (ksw (l.take j)) qs P1 wr))
 case atStart=>exact ⟨0,[],P,rfl,by omega,hid (by simpa [kmays,kouts,ksw] using WSo.start HW.out)⟩
 case round =>
  obtain ⟨j,qs,P1,rfl,hj,HSO⟩:=hrel;have HJ:=hid hj;clear hj
  by_cases hlt:j<l.length
  ·have HAW:Hid (KRels wr (fun k=>Q k∧k<w.heap.size) l lo 0):=hid (KRels.upd HSO.out.upd (fun k hk hp=>HDIS.out k hk.1 hp) (fun k hk=>hk) l lo 0 HA.out)
   obtain ⟨ga,oa,ca,rfl,hga,hca,hra⟩:=krels_at0 HAW.out j hlt;have hmem:=List.getElem_mem hlt;obtain ⟨x,hx⟩:∃ x,l[j]=x:=⟨_,rfl⟩
   have HKX:=hid (hk.out x (hx ▸ hmem));have HFX:=hid (ksfit_at HFIT.out x (hx ▸ hmem));have HTM:Hid (kmays (l.take (j+1)) d=(kmays (l.take j) d&&(decide (1≤d)&&kmay x (d - 1)))):=hid (by rw[List.take_succ_eq_append_getElem hlt,kmays_app,hx,kmays_one]);have HTO:Hid (kouts num (l.take (j+1))=kouts num (l.take j)++(rB num (kout x)).raw):=hid (by rw[List.take_succ_eq_append_getElem hlt,kouts_app,hx,kouts_one]);have HTW:Hid (ksw (l.take (j+1))=ksw (l.take j)+kw x):=hid (by rw[List.take_succ_eq_append_getElem hlt,ksw_app,hx,ksw_one]);have HTB:Hid (ksw (l.take j)+kw x≤ksw l):=hid (by rw[←hx];exact ksw_at hlt);have HWB:Hid (kw x=kb x+20):=hid (kw_kb x);rw[hx] at hra;have HRA:=hid hra;obtain ⟨K0,h0,k1,S1,b1,n1,l1,ln1,lc1,m1,mn1,mc1,I1,U1,Y1,rfl⟩:=hra.form;have HCA:=hid hca;obtain ⟨wa,hwa⟩:∃ wa,wr.alloc (.cells #[.string K0,.bool h0,.int .i64 k1,.string S1,.bool b1,.int .u64 n1,.slice l1 ln1 lc1,.slice m1 mn1 mc1,.string I1,.string U1,.string Y1] 79)=wa:=⟨_,rfl⟩
   obtain ⟨bx,hbx⟩:∃ bx,wr.heap.size=bx:=⟨_,rfl⟩
   have HBA:Hid (Below wr.heap.size wr wa):=hid (by rw[←hwa];exact below_new _ _);have HXA:Hid (wa.heap[bx]? = some (.cells #[.string K0,.bool h0,.int .i64 k1,.string S1,.bool b1,.int .u64 n1,.slice l1 ln1 lc1,.slice m1 mn1 mc1,.string I1,.string U1,.string Y1] 79 (0,0))):=hid (by rw[←hwa,←hbx];exact heap_alloc_new _ _);have HSA:=hid (HSO.out.below HBA.out);have HP1L:Hid (∀ k,P1 k→k<bx):=hid (fun k hk=>by rw[←hbx];exact (wh_lt HSO.out.wr k hk).2);have HWA:=hid hwa;have HBX:=hid hbx;have HBXW:Hid (w.heap.size≤bx):=hid (by rw[←hbx];exact HSO.out.upd.size);have HRAA:Hid (KRel wa (fun k=>Q k∧k<w.heap.size) x [.string K0,.bool h0,.int .i64 k1,.string S1,.bool b1,.int .u64 n1,.slice l1 ln1 lc1,.slice m1 mn1 mc1,.string I1,.string U1,.string Y1]):=hid (HRA.out.below HBA.out);obtain ⟨bb,hbb⟩:∃ bb,(b||!kmays (l.take j) d)=bb:=⟨_,rfl⟩
   have HBB:=hid hbb;have HWR:Hid (WrH p d (ps++qs) hs bb P1 wa):=hid (by rw[←hbb];exact HSA.out.wr);have hwr0:WrH p d (ps++qs) hs bb P1 wr:=by rw[←hbb];exact HSO.out.wr
   obtain ⟨vo,P0,hwr,hho,hdd,hPE⟩:=hwr0;obtain ⟨vp,ev,h1,h2,h3,h4⟩:=hwr;have hpw:=row_lt h1;clear hx hmem hra hca hbb hPE h2 h4 hho hdd;obtain ⟨ea0,ea1,ea2,ea3,ea4,ea5,ea6,ea7,ea8,ea9,ea10⟩:=cells11 HCA.out
   cases bb with
   | true =>
    obtain ⟨T',y',rfl⟩:=h3.yes.iface;have k4:wr.cell? ⟨p,4,none⟩=some (.iface T' y'):=row_cell h1 (j:=4) rfl;clear h1 h3 hwa hbx;go_wp2_with fail;rw[HWA.out];go_wp2_with fail
    go_end0
    have hdone:=HSA.out.done
    have hfin:=(hdone.le (ksw_take l j) (ksw_take l j)).conv (m2:=kmays l d) (t2:=kouts num l) (fun hb=>by
     have h:=HBB.out;rw[hb] at h;have h5:kmays (l.take j) d=false:=by revert h;cases kmays (l.take j) d<;>simp
     rw[h5,kmays_take h5]) (fun hb hm=>by
     have h:=HBB.out;rw[hb,hm] at h
     cases h)
    exact hfin
   | false =>
    obtain rfl:=h3.no;have k4:wr.cell? ⟨p,4,none⟩=some .nilIface:=row_cell h1 (j:=4) rfl;have hb0:b=false:=by have h:=HBB.out;revert h;cases b<;>simp
    subst hb0;have hm0:kmays (l.take j) d=true:=by have h:=HBB.out;revert h;cases kmays (l.take j) d<;>simp
    have HM0:=hid hm0;have hd0:0≤d:=by rcases HBD.out with h|h;cases h;exact h
    have he1:d1=d - 1:=HD1.out hd0;have HDG:Hid (decide (0≤d1)=decide (1≤d)):=hid (by rw[he1];congr 1;exact propext ⟨fun h=>by omega,fun h=>by omega⟩);have HE1:=hid he1;have hql:(ps++qs).length+(kw x)≤500000:=by rw[List.length_append];have:=HSO.out.len;have:=HTB.out;have:=HSZ.out;omega
    have hqf:(ps++qs).flatten.length+(kw x)≤5000000:=by rw[List.flatten_append,List.length_append];have:=HSO.out.size;have:=HTB.out;have:=HSZ.out;omega
    have hhl:hs.length+(kw x)≤500000:=by have:=HTB.out;have:=HSZ.out;omega
    have HQL:=hid hql;have HQF:=hid hqf;have HHL:=hid hhl;have HOP:=hid (wopen_any p d (ps++qs) hs false P1 num wa d1 HWR HQ1.out (by omega) (by omega) (by omega));clear h1 h3 hwa hbx hm0 hd0 he1 hql hqf hhl;go_wp2_with fail;rw[HWA.out];go_wp2_with fail;refine HOP.out.mono ?_;intro e w2 hpost;obtain ⟨rfl,u1,P2,r1,n1_⟩:=hpost;have HU1:=hid u1;have HR1:=hid r1;have HN1:=hid n1_;have HX2:Hid (w2.heap[bx]? = some (.cells #[.string K0,.bool h0,.int .i64 k1,.string S1,.bool b1,.int .u64 n1,.slice l1 ln1 lc1,.slice m1 mn1 mc1,.string I1,.string U1,.string Y1] 79 (0,0))):=hid ((u1.block bx (row_lt HXA.out) (fun hp=>by have:=HP1L.out bx hp;omega)).trans HXA.out)
    have HQP1:Hid (∀ k,Q k∧k<w.heap.size→¬P1 k):=hid (fun k hk hp=>by
     rcases HSO.out.new k hp with h|h
     ·exact HDIS.out k hk.1 h
     ·omega)
    have HRX:Hid (KRel w2 (fun k=>Q k∧k<w.heap.size) x [.string K0,.bool h0,.int .i64 k1,.string S1,.bool b1,.int .u64 n1,.slice l1 ln1 lc1,.slice m1 mn1 mc1,.string I1,.string U1,.string Y1]):=hid (KRel.upd u1 HQP1.out (fun k hk=>hk) x _ HRAA.out)
    have HQP2:Hid (∀ k,Q k∧k<w.heap.size→¬P2 k):=hid (fun k hk hp=>by
     rcases n1_ k hp with h|h
     ·exact HQP1.out k hk h
     ·have:=HBA.out.size;have:=HBX.out;have:=HBXW.out;omega)
    clear u1 r1 n1_;have x0:w2.cell? ⟨bx,0,none⟩=some (.string K0):=row_cell HX2.out (j:=0) rfl;have x1:w2.cell? ⟨bx,1,none⟩=some (.bool h0):=row_cell HX2.out (j:=1) rfl;have x2:w2.cell? ⟨bx,2,none⟩=some (.int .i64 k1):=row_cell HX2.out (j:=2) rfl;have x3:w2.cell? ⟨bx,3,none⟩=some (.string S1):=row_cell HX2.out (j:=3) rfl;have x4:w2.cell? ⟨bx,4,none⟩=some (.bool b1):=row_cell HX2.out (j:=4) rfl;have x5:w2.cell? ⟨bx,5,none⟩=some (.int .u64 n1):=row_cell HX2.out (j:=5) rfl;have x6:w2.cell? ⟨bx,6,none⟩=some (.slice l1 ln1 lc1):=row_cell HX2.out (j:=6) rfl;have x7:w2.cell? ⟨bx,7,none⟩=some (.slice m1 mn1 mc1):=row_cell HX2.out (j:=7) rfl;have x8:w2.cell? ⟨bx,8,none⟩=some (.string I1):=row_cell HX2.out (j:=8) rfl;have x9:w2.cell? ⟨bx,9,none⟩=some (.string U1):=row_cell HX2.out (j:=9) rfl;have x10:w2.cell? ⟨bx,10,none⟩=some (.string Y1):=row_cell HX2.out (j:=10) rfl;rw[HBX.out];go_wp2_with fail;have HCL:=hid (fun (b2:Bool)=>(show (b2=true∨0≤d1)→(b2=true∨0≤d1) from id));refine (HKX.out p d1 (wps (false||!decide (0≤d1)) (ps++qs) [[]]) (hs++[⟨num,(ps++qs).length,(ps++qs).flatten.length⟩]) (false||!decide (0≤d1)) P2 (fun k=>Q k∧k<w.heap.size) w2 [.string K0,.bool h0,.int .i64 k1,.string S1,.bool b1,.int .u64 n1,.slice l1 ln1 lc1,.slice m1 mn1 mc1,.string I1,.string U1,.string Y1] HFX.out HRX.out HQP2.out HR1.out (by by_cases h:0≤d1<;>simp[h]) HD1R.out ?side).mono ?_
    case side =>
     have:=HQL.out;have:=HQF.out;have:=HHL.out;have:=HWB.out;refine ⟨?_,?_,?_⟩
     ·cases hgg:(false||!decide (0≤d1))<;>simp only[wps]<;>(try rw[List.length_append,List.length_singleton])<;>omega
     ·cases hgg:(false||!decide (0≤d1))<;>simp only[wps]<;>(try rw[List.flatten_append (l₁:=ps++qs)])<;>simp only[List.flatten_cons,List.flatten_nil,List.append_nil,List.length_append,List.flatten_append] at * <;> omega
     ·rw[List.length_append,List.length_singleton];omega
    intro e w3 hpost;obtain ⟨rs,⟨rfl,u2,P3,r2,n2⟩,hrq,hrl,hrf⟩:=hpost;have HU2:=hid u2;have HN2:=hid n2;have HRQ:=hid hrq;have HRL:=hid hrl;have HRF:=hid hrf
    have HCLS:=hid (wclose_any p d1 (wps (false||!decide (0≤d1)) (ps++qs) [[]]++rs) hs ⟨num,(ps++qs).length,(ps++qs).flatten.length⟩ (false||!decide (0≤d1)||!kmay x d1) P3 w3 d (hid r2) HQ2.out (by
     have:=HQL.out;have:=HWB.out;rw[List.length_append]
     cases hgg:(false||!decide (0≤d1))<;>simp only[wps]<;>(try rw[List.length_append,List.length_singleton])<;>omega) (by have:=HHL.out;omega) (by
     have:=HQF.out;have:=HWB.out;rw[List.flatten_append,List.length_append]
     cases hgg:(false||!decide (0≤d1))<;>simp only[wps,List.flatten_cons,List.flatten_nil,List.append_nil,List.length_append,List.flatten_append] at * <;> omega) (hid (close_hok HNUM.out.1 HNUM.out.2)))
    clear u2 r2 n2 hrq hrl hrf ea0 x0 ea1 x1 ea2 x2 ea3 x3 ea4 x4 ea5 x5 ea6 x6 ea7 x7 ea8 x8 ea9 x9 ea10 x10;go_wp2_with fail;refine HCLS.out.mono ?_;intro e w4 hpost;have hin:=wv_inner (b:=false) HU1.out HN1.out HU2.out HN2.out HRQ.out HRL.out HRF.out hpost;rw[whead_raw HNUM.out.1 HNUM.out.2] at hin;obtain ⟨qs2,P4,rfl,hso4⟩:=HSA.out.next (m2:=decide (0≤d1)&&kmay x d1) (t2:=(rB num (kout x)).raw) (l2:=kb x+1) (f2:=kb x+20) (by rw[show (false||!kmays (l.take j) d)=false from HBB.out];exact hin)
    have HSO4:Hid (WSo p d ps hs false P w (kmays (l.take (j+1)) d) (kouts num (l.take (j+1))) (ksw (l.take (j+1))) (ksw (l.take (j+1))) (qs++qs2) P4 w4):=hid (by
     rw[HTM.out,HTO.out,HTW.out,←HDG.out,←HE1.out];have:=HWB.out;exact ⟨hso4.upd,hso4.wr,hso4.new,hso4.bytes,by have:=hso4.len;omega,by have:=hso4.size;omega⟩)
    clear hpost hin hso4;go_wp2_with fail;have hj:=HJ.out
    go_roundg (gk - 1)
    case measure=>omega
    case rel=>exact ⟨j+1,qs++qs2,P4,by simp,by omega,HSO4⟩
  ·have hjn:j=l.length:=by have:=HJ.out;omega
   have HDONE:=hid HSO.out.done;have HTK:Hid (l.take j=l):=hid (by rw[hjn,List.take_length]);clear hjn;go_wp2_with fail
   go_end0
   have:=HDONE.out;rw[HTK.out] at this;exact this
open Go.RowKit
theorem wps1_len (b:Bool)(ps:List (List UInt8)):(wps b ps [[]]).length≤ps.length+1:=by cases b<;>simp[wps]
theorem wps1_flat (b:Bool)(ps:List (List UInt8)):(wps b ps [[]]).flatten.length=ps.flatten.length:=by cases b<;>simp[wps]
theorem vputlist_any (l:List Val)(hl:Hid (EachV l))(K:Nat)(hK:1≤K∧K≤7)(i:List UInt8)(p:Nat)(d:Int)(ps:List (List UInt8))(hs:List Hole)(b:Bool)(P Q:Nat→Prop)(w:World)(SA:ByteArray)(b0:Bool)(n:Int)(lo1:Option Addr)(ln1 lc1:Nat)(mo1:Option Addr)(mn1 mc1:Nat)(IA UA:ByteArray)(lo:Option Addr)(lc:Nat)(hIA:Hid (IA=⟨i.toArray⟩))(hfit:vsfit l)(ha:VRels w Q l lo 0)(hdis:∀ k,Q k→¬P k)(hw:WrH p d ps hs b P w)(hbd:b=true∨0≤d)(hd:-9223372036854775808≤d∧d≤9223372036854775807)(hsz:ps.length+(vsw l+i.length+20)≤500000∧ps.flatten.length+(vsw l+i.length+20)≤5000000∧hs.length+(vsw l+i.length+20)≤500000) :
  Calls Tryz.prog 181 #[.pointer (some ⟨p,0,none⟩),.agg #[.int .i64 K,.string SA,.bool b0,.int .u64 n,.slice lo1 ln1 lc1,.slice mo1 mn1 mc1,.string IA,.string UA],.slice lo l.length lc,.func (.func 149) #[] #[]] w (WvPost p d ps hs b P w (decide (1≤d)&&(vmays l (d - 1)&&munkOk itk i (d - 1))) ((rB K (vouts 1 l++i)).raw) (vsw l+2) (vsw l+i.length+20)):=by
 have HET:=hid (enters_of Tryz.func191 (by kernel_rfl) rfl);have HFIT:=hid hfit;have HA:=hid (VRels.lt l lo 0 ha);have HDIS:=hid hdis;have HBD:=hid hbd;have HSZ:=hid hsz;have HK:=hid hK;obtain ⟨d1,hd1⟩:∃ d1,IntKind.i64.wrap (d - 1)=d1:=⟨_,rfl⟩
 have hd2:IntKind.i64.wrap (d1+1)=d:=by
  rcases Int.lt_or_le (-9223372036854775808) d with h|h
  ·rw[IntWalk.i64_in _ (by omega)] at hd1
   rw[IntWalk.i64_in _ (by omega)];omega
  ·have e:d = -9223372036854775808:=by omega
   subst e;rw[←hd1];decide +kernel
 have HD1:Hid (0≤d→d1=d - 1):=hid (fun h=>by rw[←hd1,IntWalk.i64_in _ (by omega)])
 have HD1R:Hid (-9223372036854775808≤d1∧d1≤9223372036854775807):=hid (by
  rcases Int.lt_or_le (-9223372036854775808) d with h|h
  ·rw[IntWalk.i64_in _ (by omega)] at hd1;omega
  ·have e:d = -9223372036854775808:=by omega
   subst e;have:IntKind.i64.wrap (-9223372036854775808 - 1)=9223372036854775807:=by decide +kernel
   omega)
 have HQ2:=hid hd2;obtain ⟨W0,hW0⟩:∃ W,w.alloc (.cells #[.int .i64 K,.string SA,.bool b0,.int .u64 n,.slice lo1 ln1 lc1,.slice mo1 mn1 mc1,.string IA,.string UA] 77)=W:=⟨_,rfl⟩
 obtain ⟨bx,hbx⟩:∃ bx,w.heap.size=bx:=⟨_,rfl⟩
 have HB0:Hid (Below w.heap.size w W0):=hid (by rw[←hW0];exact below_new _ _);have HX0:Hid (W0.heap[bx]? = some (.cells #[.int .i64 K,.string SA,.bool b0,.int .u64 n,.slice lo1 ln1 lc1,.slice mo1 mn1 mc1,.string IA,.string UA] 77 (0,0))):=hid (by rw[←hW0,←hbx];exact heap_alloc_new _ _);have HPB:Hid (¬P bx):=hid (wh_out hw (by omega));have HWL:=hid (fun k hk=>(wh_lt hw k hk).2);have HOP:=hid (wopen_any p d ps hs b P K W0 d1 (hid (wh_below hw HB0.out)) hd1 (by omega) (by omega) (by omega));have HW0:=hid hW0;have HBX:=hid hbx;have HA0:Hid (VRels W0 (fun k=>Q k∧k<w.heap.size) l lo 0):=hid (HA.out.below HB0.out);have x0:W0.cell? ⟨bx,0,none⟩=some (.int .i64 K):=row_cell HX0.out (j:=0) rfl;clear hfit ha hdis hw hbd hsz hd hd1 hd2 hW0 hbx hK;go_enter Tryz.func181,Tryz.ntmps181;go_wp2_with fail;rw[HW0.out,HBX.out];go_wp2_with fail;refine HOP.out.mono ?_;intro e w2 hpost;obtain ⟨rfl,u1,P1,r1,n1⟩:=hpost;have HU1:=hid u1;have HN1:=hid n1
 have HBX1:Hid (¬P1 bx):=hid (fun hp=>by
  rcases n1 bx hp with h|h
  ·exact HPB.out h
  ·have:=row_lt HX0.out;omega)
 have HS2:=hid (WSx.start r1 (Below.refl _ _) ((u1.block bx (row_lt HX0.out) HPB.out).trans HX0.out) HBX1.out)
 have HQP:Hid (∀ k,Q k∧k<w.heap.size→¬P1 k):=hid (fun k hk hp=>by
  rcases n1 k hp with h|h
  ·exact HDIS.out k hk.1 h
  ·have:=HB0.out.size;omega)
 have HA2:Hid (VRels w2 (fun k=>Q k∧k<w.heap.size) l lo 0):=hid (VRels.upd u1 (fun k hk=>HDIS.out k hk.1) (fun k hk=>hk) l lo 0 HA0.out);clear u1 n1 r1 x0;go_wp2_with fail;refine (hl.out p d1 (wps (b||!decide (0≤d1)) ps [[]]++[]) (hs++[⟨K,ps.length,ps.flatten.length⟩]) ((b||!decide (0≤d1))||!true) P1 (fun k=>Q k∧k<w.heap.size) w2 1 lo lc HFIT.out HA2.out HQP.out HS2.out.so.wr (by by_cases h:0≤d1<;>simp[h]) HD1R.out (by omega) ?side).mono ?_
 case side =>
  have:=HSZ.out;rw[List.append_nil];have h1:=wps1_len (b||!decide (0≤d1)) ps;have h2:=wps1_flat (b||!decide (0≤d1)) ps;rw[List.length_append,List.length_singleton];exact ⟨by omega,by omega,by omega⟩
 intro e w3 hpost;obtain ⟨qs3,P3,rfl,h3⟩:=HS2.out.next hpost;have H3:=hid h3;clear hpost h3;have x6:w3.cell? ⟨bx,6,none⟩=some (.string IA):=H3.out.cell (j:=6) rfl;go_wp2_with fail
 refine (wv_rest IA i itk 191 H3.out.so.wr hIA.out (by have:=HSZ.out;omega) (by
  have:=HSZ.out;have:=H3.out.so.len;have h1:=wps1_len (b||!decide (0≤d1)) ps;rw[List.length_append];omega) (by
  have:=HSZ.out;have:=H3.out.so.size;have h2:=wps1_flat (b||!decide (0≤d1)) ps;rw[List.flatten_append,List.length_append];omega) HET.out (fun r w=>itakes_any r w)).mono ?_
 intro e w4 hpost;obtain ⟨qs4,P4,rfl,h4⟩:=H3.out.next hpost;have H4:=hid h4;clear hpost h4 x6;have HL4:Hid (qs4.length≤vsw l+1):=hid (by have:=H4.out.so.len;omega);have HF4:Hid (qs4.flatten.length≤vsw l+i.length):=hid (by have:=H4.out.so.size;omega)
 have HCLS:=hid (wclose_any p d1 (wps (b||!decide (0≤d1)) ps [[]]++qs4) hs ⟨K,ps.length,ps.flatten.length⟩ ((b||!decide (0≤d1))||!(true&&vmays l d1&&munkOk itk i d1)) P4 w4 d (hid H4.out.so.wr) HQ2.out (by
  have:=HSZ.out;have:=HL4.out;have h1:=wps1_len (b||!decide (0≤d1)) ps;rw[List.length_append];omega) (by have:=HSZ.out;omega) (by
  have:=HSZ.out;have:=HF4.out;have h2:=wps1_flat (b||!decide (0≤d1)) ps;rw[List.flatten_append,List.length_append];omega) (hid (close_hok (by have:=HK.out;omega) (by have:=HK.out;omega))))
 go_wp2_with fail;refine HCLS.out.mono ?_;intro e w5 hpost;have hin:=wv_inner HU1.out HN1.out H4.out.so.upd H4.out.so.new H4.out.so.bytes HL4.out HF4.out hpost;rw[whead_raw (by have:=HK.out;omega) (by have:=HK.out;omega)] at hin;have HIN:=hid hin;obtain rfl:=hin.unit;clear hpost hin;go_wp2_with fail
 go_end0
 refine ((WvPost.below HB0.out HIN.out).conv (fun hb=>?_) (fun _ _=>rfl)).le (Nat.le_refl _) (Nat.le_refl _)
 have h0:0≤d:=by
  rcases HBD.out with h|h
  ·rw[hb] at h;cases h
  ·exact h
 rw[HD1.out h0];have:decide (0≤d - 1)=decide (1≤d):=by congr 1;exact propext ⟨fun h=>by omega,fun h=>by omega⟩
 rw[this]
 simp
theorem kputlist_any (l:List KV)(hl:Hid (EachK l))(K:Nat)(hK:1≤K∧K≤7)(i:List UInt8)(p:Nat)(d:Int)(ps:List (List UInt8))(hs:List Hole)(b:Bool)(P Q:Nat→Prop)(w:World)(SA:ByteArray)(b0:Bool)(n:Int)(lo1:Option Addr)(ln1 lc1:Nat)(mo1:Option Addr)(mn1 mc1:Nat)(IA UA:ByteArray)(lo:Option Addr)(lc:Nat)(hIA:Hid (IA=⟨i.toArray⟩))(hfit:ksfit l)(ha:KRels w Q l lo 0)(hdis:∀ k,Q k→¬P k)(hw:WrH p d ps hs b P w)(hbd:b=true∨0≤d)(hd:-9223372036854775808≤d∧d≤9223372036854775807)(hsz:ps.length+(ksw l+i.length+20)≤500000∧ps.flatten.length+(ksw l+i.length+20)≤5000000∧hs.length+(ksw l+i.length+20)≤500000) :
  Calls Tryz.prog 182 #[.pointer (some ⟨p,0,none⟩),.agg #[.int .i64 K,.string SA,.bool b0,.int .u64 n,.slice lo1 ln1 lc1,.slice mo1 mn1 mc1,.string IA,.string UA],.slice lo l.length lc,.func (.func 103) #[] #[]] w (WvPost p d ps hs b P w (decide (1≤d)&&(kmays l (d - 1)&&munkOk itk i (d - 1))) ((rB K (kouts 1 l++i)).raw) (ksw l+2) (ksw l+i.length+20)):=by
 have HET:=hid (enters_of Tryz.func191 (by kernel_rfl) rfl);have HFIT:=hid hfit;have HA:=hid (KRels.lt l lo 0 ha);have HDIS:=hid hdis;have HBD:=hid hbd;have HSZ:=hid hsz;have HK:=hid hK;obtain ⟨d1,hd1⟩:∃ d1,IntKind.i64.wrap (d - 1)=d1:=⟨_,rfl⟩
 have hd2:IntKind.i64.wrap (d1+1)=d:=by
  rcases Int.lt_or_le (-9223372036854775808) d with h|h
  ·rw[IntWalk.i64_in _ (by omega)] at hd1
   rw[IntWalk.i64_in _ (by omega)];omega
  ·have e:d = -9223372036854775808:=by omega
   subst e;rw[←hd1];decide +kernel
 have HD1:Hid (0≤d→d1=d - 1):=hid (fun h=>by rw[←hd1,IntWalk.i64_in _ (by omega)])
 have HD1R:Hid (-9223372036854775808≤d1∧d1≤9223372036854775807):=hid (by
  rcases Int.lt_or_le (-9223372036854775808) d with h|h
  ·rw[IntWalk.i64_in _ (by omega)] at hd1;omega
  ·have e:d = -9223372036854775808:=by omega
   subst e;have:IntKind.i64.wrap (-9223372036854775808 - 1)=9223372036854775807:=by decide +kernel
   omega)
 have HQ2:=hid hd2;obtain ⟨W0,hW0⟩:∃ W,w.alloc (.cells #[.int .i64 K,.string SA,.bool b0,.int .u64 n,.slice lo1 ln1 lc1,.slice mo1 mn1 mc1,.string IA,.string UA] 77)=W:=⟨_,rfl⟩
 obtain ⟨bx,hbx⟩:∃ bx,w.heap.size=bx:=⟨_,rfl⟩
 have HB0:Hid (Below w.heap.size w W0):=hid (by rw[←hW0];exact below_new _ _);have HX0:Hid (W0.heap[bx]? = some (.cells #[.int .i64 K,.string SA,.bool b0,.int .u64 n,.slice lo1 ln1 lc1,.slice mo1 mn1 mc1,.string IA,.string UA] 77 (0,0))):=hid (by rw[←hW0,←hbx];exact heap_alloc_new _ _);have HPB:Hid (¬P bx):=hid (wh_out hw (by omega));have HWL:=hid (fun k hk=>(wh_lt hw k hk).2);have HOP:=hid (wopen_any p d ps hs b P K W0 d1 (hid (wh_below hw HB0.out)) hd1 (by omega) (by omega) (by omega));have HW0:=hid hW0;have HBX:=hid hbx;have HA0:Hid (KRels W0 (fun k=>Q k∧k<w.heap.size) l lo 0):=hid (HA.out.below HB0.out);have x0:W0.cell? ⟨bx,0,none⟩=some (.int .i64 K):=row_cell HX0.out (j:=0) rfl;clear hfit ha hdis hw hbd hsz hd hd1 hd2 hW0 hbx hK;go_enter Tryz.func182,Tryz.ntmps182;go_wp2_with fail;rw[HW0.out,HBX.out];go_wp2_with fail;refine HOP.out.mono ?_;intro e w2 hpost;obtain ⟨rfl,u1,P1,r1,n1⟩:=hpost;have HU1:=hid u1;have HN1:=hid n1
 have HBX1:Hid (¬P1 bx):=hid (fun hp=>by
  rcases n1 bx hp with h|h
  ·exact HPB.out h
  ·have:=row_lt HX0.out;omega)
 have HS2:=hid (WSx.start r1 (Below.refl _ _) ((u1.block bx (row_lt HX0.out) HPB.out).trans HX0.out) HBX1.out)
 have HQP:Hid (∀ k,Q k∧k<w.heap.size→¬P1 k):=hid (fun k hk hp=>by
  rcases n1 k hp with h|h
  ·exact HDIS.out k hk.1 h
  ·have:=HB0.out.size;omega)
 have HA2:Hid (KRels w2 (fun k=>Q k∧k<w.heap.size) l lo 0):=hid (KRels.upd u1 (fun k hk=>HDIS.out k hk.1) (fun k hk=>hk) l lo 0 HA0.out);clear u1 n1 r1 x0;go_wp2_with fail;refine (hl.out p d1 (wps (b||!decide (0≤d1)) ps [[]]++[]) (hs++[⟨K,ps.length,ps.flatten.length⟩]) ((b||!decide (0≤d1))||!true) P1 (fun k=>Q k∧k<w.heap.size) w2 1 lo lc HFIT.out HA2.out HQP.out HS2.out.so.wr (by by_cases h:0≤d1<;>simp[h]) HD1R.out (by omega) ?side).mono ?_
 case side =>
  have:=HSZ.out;rw[List.append_nil];have h1:=wps1_len (b||!decide (0≤d1)) ps;have h2:=wps1_flat (b||!decide (0≤d1)) ps;rw[List.length_append,List.length_singleton];exact ⟨by omega,by omega,by omega⟩
 intro e w3 hpost;obtain ⟨qs3,P3,rfl,h3⟩:=HS2.out.next hpost;have H3:=hid h3;clear hpost h3;have x6:w3.cell? ⟨bx,6,none⟩=some (.string IA):=H3.out.cell (j:=6) rfl;go_wp2_with fail
 refine (wv_rest IA i itk 191 H3.out.so.wr hIA.out (by have:=HSZ.out;omega) (by
  have:=HSZ.out;have:=H3.out.so.len;have h1:=wps1_len (b||!decide (0≤d1)) ps;rw[List.length_append];omega) (by
  have:=HSZ.out;have:=H3.out.so.size;have h2:=wps1_flat (b||!decide (0≤d1)) ps;rw[List.flatten_append,List.length_append];omega) HET.out (fun r w=>itakes_any r w)).mono ?_
 intro e w4 hpost;obtain ⟨qs4,P4,rfl,h4⟩:=H3.out.next hpost;have H4:=hid h4;clear hpost h4 x6;have HL4:Hid (qs4.length≤ksw l+1):=hid (by have:=H4.out.so.len;omega);have HF4:Hid (qs4.flatten.length≤ksw l+i.length):=hid (by have:=H4.out.so.size;omega)
 have HCLS:=hid (wclose_any p d1 (wps (b||!decide (0≤d1)) ps [[]]++qs4) hs ⟨K,ps.length,ps.flatten.length⟩ ((b||!decide (0≤d1))||!(true&&kmays l d1&&munkOk itk i d1)) P4 w4 d (hid H4.out.so.wr) HQ2.out (by
  have:=HSZ.out;have:=HL4.out;have h1:=wps1_len (b||!decide (0≤d1)) ps;rw[List.length_append];omega) (by have:=HSZ.out;omega) (by
  have:=HSZ.out;have:=HF4.out;have h2:=wps1_flat (b||!decide (0≤d1)) ps;rw[List.flatten_append,List.length_append];omega) (hid (close_hok (by have:=HK.out;omega) (by have:=HK.out;omega))))
 go_wp2_with fail;refine HCLS.out.mono ?_;intro e w5 hpost;have hin:=wv_inner HU1.out HN1.out H4.out.so.upd H4.out.so.new H4.out.so.bytes HL4.out HF4.out hpost;rw[whead_raw (by have:=HK.out;omega) (by have:=HK.out;omega)] at hin;have HIN:=hid hin;obtain rfl:=hin.unit;clear hpost hin;go_wp2_with fail
 go_end0
 refine ((WvPost.below HB0.out HIN.out).conv (fun hb=>?_) (fun _ _=>rfl)).le (Nat.le_refl _) (Nat.le_refl _)
 have h0:0≤d:=by
  rcases HBD.out with h|h
  ·rw[hb] at h;cases h
  ·exact h
 rw[HD1.out h0];have:decide (0≤d - 1)=decide (1≤d):=by congr 1;exact propext ⟨fun h=>by omega,fun h=>by omega⟩
 rw[this]
 simp
open Go.RowKit
theorem vput0 (s:List UInt8)(b0:Bool)(n:Nat)(l:List Val)(m:List KV)(i u:List UInt8):PutV (.mk 0 s b0 n l m i u):=by
 intro p d ps hs b P Q w cs hfit hr hdis hw hbd hd hsz;rw[VRel] at hr;obtain ⟨lo,lc,mo,mc,rfl,hrl,hrm⟩:=hr;rw[vfit] at hfit;obtain ⟨hkr,hn,_,_,_,hfl,hfm⟩:=hfit;rw[vb] at hsz ⊢;have HSZ:=hid hsz;have HDIS:=hid hdis;have HRL:=hid (VRels.lt l lo 0 hrl);have HRM:=hid (KRels.lt m mo 0 hrm);have HFL:=hid hfl;have HFM:=hid hfm;have HBD:=hid hbd;have HD:=hid hd;have HN:=hid hn;have HET:=hid (enters_of Tryz.func169 (by kernel_rfl) rfl);obtain ⟨SA,hSA⟩:∃ SA:ByteArray,(⟨s.toArray⟩:ByteArray)=SA:=⟨_,rfl⟩
 obtain ⟨IA,hIA⟩:∃ IA:ByteArray,(⟨i.toArray⟩:ByteArray)=IA:=⟨_,rfl⟩
 obtain ⟨UA,hUA⟩:∃ UA:ByteArray,(⟨u.toArray⟩:ByteArray)=UA:=⟨_,rfl⟩
 have HSA:Hid (SA.data.toList=s):=hid (by rw[←hSA]);have HIA:Hid (IA.data.toList=i):=hid (by rw[←hIA]);have HIE:Hid (IA=⟨i.toArray⟩):=hid hIA.symm;have HUE:Hid (UA=⟨u.toArray⟩):=hid hUA.symm;have HSS:Hid (SA.size=s.length):=hid (by rw[←hSA];simp[ByteArray.size]);unfold strV;rw[hSA,hIA,hUA];obtain ⟨g,hg⟩:∃ g,vpl 0 s.isEmpty b0 n l.length m.length i.isEmpty=g:=⟨_,rfl⟩
 have HG:=hid hg;have HG2:Hid (vpl 0 SA.data.toList.isEmpty b0 n l.length m.length IA.data.toList.isEmpty=g):=hid (by rw[HSA.out,HIA.out];exact hg);obtain ⟨W0,hW0⟩:∃ W,w.alloc (.cells #[.int .i64 0,.string SA,.bool b0,.int .u64 n,.slice lo l.length lc,.slice mo m.length mc,.string IA,.string UA] 77)=W:=⟨_,rfl⟩
 obtain ⟨bx,hbx⟩:∃ bx,w.heap.size=bx:=⟨_,rfl⟩
 have HB0:Hid (Below w.heap.size w W0):=hid (by rw[←hW0];exact below_new _ _);have HGE:Hid (w.heap.size≤bx):=hid (by omega);have H0:Hid (WSx p d ps hs b P w true [] 0 0 [] P bx #[.int .i64 0,.string SA,.bool b0,.int .u64 n,.slice lo l.length lc,.slice mo m.length mc,.string IA,.string UA] 77 W0):=hid (WSx.start hw HB0.out (by rw[←hW0,←hbx];exact heap_alloc_new _ _) (wh_out hw (by omega)));have HPL:=hid (plain0_any SA b0 n lo l.length lc mo m.length mc IA UA W0);have HW0:=hid hW0;have HBX:=hid hbx;clear hfl hfm hdis hrl hrm hw hbd hd hsz hn hW0 hbx hSA hIA hUA hg hkr;go_enter Tryz.func149,Tryz.ntmps149;go_wp2_with fail;rw[HW0.out];refine HPL.out.mono ?_;rintro e w1 ⟨rfl,hb1⟩;rw[HG2.out];have H1:=hid (H0.out.below hb1);clear hb1;go_wp2_with fail;refine (wv_ask g H1.out.so.wr).mono ?_;intro e w2 hpost;obtain ⟨qs2,P2,rfl,h2⟩:=H1.out.next hpost;have H2:=hid h2;clear hpost h2;have x0:w2.cell? ⟨bx,0,none⟩=some (.int .i64 0):=H2.out.cell (j:=0) rfl;have x1:w2.cell? ⟨bx,1,none⟩=some (.string SA):=H2.out.cell (j:=1) rfl;have x2:w2.cell? ⟨bx,2,none⟩=some (.bool b0):=H2.out.cell (j:=2) rfl;have x3:w2.cell? ⟨bx,3,none⟩=some (.int .u64 n):=H2.out.cell (j:=3) rfl;have x7:w2.cell? ⟨bx,7,none⟩=some (.string UA):=H2.out.cell (j:=7) rfl;have xf:w2.frozen? ⟨bx,3,none⟩=false:=row_thaw H2.out.row 3;rw[HBX.out];go_wp2_with fail;refine (wv_rest UA u vtk 169 H2.out.so.wr HUE.out (by have:=HSZ.out;omega) (by have:=HSZ.out;have:=H2.out.so.len;rw[List.length_append];omega) (by have:=HSZ.out;have:=H2.out.so.size;rw[List.flatten_append,List.length_append];skip;omega) HET.out (fun r w=>vtakes_any r w)).mono ?_;intro e w9 hpost;obtain ⟨qs9,P9,rfl,h9⟩:=H2.out.next hpost;have H9:=hid h9;clear hpost h9 x0 x1 x2 x3 x7 xf;go_wp2_with fail
 go_end0
 refine ((H9.out.done.conv (fun hb=>?_) (fun hb hm=>?_)).le ?_ ?_)
 ·rw[vmay]
  rw[HG.out]
  simp
 ·rw[vout]
  simp[vrec]
 ·omega
 ·omega
theorem vputX (k:Int)(hk:¬(0≤k∧k≤7))(s:List UInt8)(b0:Bool)(n:Nat)(l:List Val)(m:List KV)(i u:List UInt8):PutV (.mk k s b0 n l m i u):=by
 intro p d ps hs b P Q w cs hfit hr hdis hw hbd hd hsz;rw[VRel] at hr;obtain ⟨lo,lc,mo,mc,rfl,hrl,hrm⟩:=hr;rw[vfit] at hfit;obtain ⟨hkr,hn,_,_,_,hfl,hfm⟩:=hfit;rw[vb] at hsz ⊢;have HSZ:=hid hsz;have HDIS:=hid hdis;have HRL:=hid (VRels.lt l lo 0 hrl);have HRM:=hid (KRels.lt m mo 0 hrm);have HFL:=hid hfl;have HFM:=hid hfm;have HBD:=hid hbd;have HD:=hid hd;have HN:=hid hn;have HET:=hid (enters_of Tryz.func169 (by kernel_rfl) rfl);obtain ⟨SA,hSA⟩:∃ SA:ByteArray,(⟨s.toArray⟩:ByteArray)=SA:=⟨_,rfl⟩
 obtain ⟨IA,hIA⟩:∃ IA:ByteArray,(⟨i.toArray⟩:ByteArray)=IA:=⟨_,rfl⟩
 obtain ⟨UA,hUA⟩:∃ UA:ByteArray,(⟨u.toArray⟩:ByteArray)=UA:=⟨_,rfl⟩
 have HSA:Hid (SA.data.toList=s):=hid (by rw[←hSA]);have HIA:Hid (IA.data.toList=i):=hid (by rw[←hIA]);have HIE:Hid (IA=⟨i.toArray⟩):=hid hIA.symm;have HUE:Hid (UA=⟨u.toArray⟩):=hid hUA.symm;have HSS:Hid (SA.size=s.length):=hid (by rw[←hSA];simp[ByteArray.size]);unfold strV;rw[hSA,hIA,hUA];obtain ⟨g,hg⟩:∃ g,vpl k s.isEmpty b0 n l.length m.length i.isEmpty=g:=⟨_,rfl⟩
 have HG:=hid hg;have HG2:Hid (vpl k SA.data.toList.isEmpty b0 n l.length m.length IA.data.toList.isEmpty=g):=hid (by rw[HSA.out,HIA.out];exact hg);obtain ⟨W0,hW0⟩:∃ W,w.alloc (.cells #[.int .i64 k,.string SA,.bool b0,.int .u64 n,.slice lo l.length lc,.slice mo m.length mc,.string IA,.string UA] 77)=W:=⟨_,rfl⟩
 obtain ⟨bx,hbx⟩:∃ bx,w.heap.size=bx:=⟨_,rfl⟩
 have HB0:Hid (Below w.heap.size w W0):=hid (by rw[←hW0];exact below_new _ _);have HGE:Hid (w.heap.size≤bx):=hid (by omega);have H0:Hid (WSx p d ps hs b P w true [] 0 0 [] P bx #[.int .i64 k,.string SA,.bool b0,.int .u64 n,.slice lo l.length lc,.slice mo m.length mc,.string IA,.string UA] 77 W0):=hid (WSx.start hw HB0.out (by rw[←hW0,←hbx];exact heap_alloc_new _ _) (wh_out hw (by omega)));have HPL:=hid (plainX_any k hk SA b0 n lo l.length lc mo m.length mc IA UA W0);have HW0:=hid hW0;have HBX:=hid hbx;clear hfl hfm hdis hrl hrm hw hbd hd hsz hn hW0 hbx hSA hIA hUA hg hkr;go_enter Tryz.func149,Tryz.ntmps149;go_wp2_with fail;rw[HW0.out];refine HPL.out.mono ?_;rintro e w1 ⟨rfl,hb1⟩;rw[HG2.out];have H1:=hid (H0.out.below hb1);clear hb1;go_wp2_with fail;refine (wv_ask g H1.out.so.wr).mono ?_;intro e w2 hpost;obtain ⟨qs2,P2,rfl,h2⟩:=H1.out.next hpost;have H2:=hid h2;clear hpost h2;have x0:w2.cell? ⟨bx,0,none⟩=some (.int .i64 k):=H2.out.cell (j:=0) rfl;have x1:w2.cell? ⟨bx,1,none⟩=some (.string SA):=H2.out.cell (j:=1) rfl;have x2:w2.cell? ⟨bx,2,none⟩=some (.bool b0):=H2.out.cell (j:=2) rfl;have x3:w2.cell? ⟨bx,3,none⟩=some (.int .u64 n):=H2.out.cell (j:=3) rfl;have x7:w2.cell? ⟨bx,7,none⟩=some (.string UA):=H2.out.cell (j:=7) rfl;have xf:w2.frozen? ⟨bx,3,none⟩=false:=row_thaw H2.out.row 3;have d0:(k == 0)=false:=by rw[beq_eq_false_iff_ne];omega
 have d1:(k == 1)=false:=by rw[beq_eq_false_iff_ne];omega
 have d2:(k == 2)=false:=by rw[beq_eq_false_iff_ne];omega
 have d3:(k == 3)=false:=by rw[beq_eq_false_iff_ne];omega
 have d4:(k == 4)=false:=by rw[beq_eq_false_iff_ne];omega
 have d5:(k == 5)=false:=by rw[beq_eq_false_iff_ne];omega
 have d6:(k == 6)=false:=by rw[beq_eq_false_iff_ne];omega
 have d7:(k == 7)=false:=by rw[beq_eq_false_iff_ne];omega
 have HK:=hid hk;rw[HBX.out];clear hk;go_wp2_with fail;refine (wv_rest UA u vtk 169 H2.out.so.wr HUE.out (by have:=HSZ.out;omega) (by have:=HSZ.out;have:=H2.out.so.len;rw[List.length_append];omega) (by have:=HSZ.out;have:=H2.out.so.size;rw[List.flatten_append,List.length_append];skip;omega) HET.out (fun r w=>vtakes_any r w)).mono ?_;intro e w9 hpost;obtain ⟨qs9,P9,rfl,h9⟩:=H2.out.next hpost;have H9:=hid h9;clear hpost h9 x0 x1 x2 x3 x7 xf;go_wp2_with fail
 go_end0
 refine ((H9.out.done.conv (fun hb=>?_) (fun hb hm=>?_)).le ?_ ?_)
 ·rw[vmay]
  rw[HG.out];have:=HK.out
  simp[show ¬k=1 by omega,show ¬k=5 by omega,show ¬k=6 by omega]
 ·rw[vout]
  have:=HK.out
  simp[vrec,show ¬k=1 by omega,show ¬k=2 by omega,show ¬k=3 by omega,show ¬k=4 by omega,show ¬k=5 by omega,show ¬k=6 by omega,show ¬k=7 by omega]
 ·omega
 ·omega
theorem vput7 (s:List UInt8)(b0:Bool)(n:Nat)(l:List Val)(m:List KV)(i u:List UInt8):PutV (.mk 7 s b0 n l m i u):=by
 intro p d ps hs b P Q w cs hfit hr hdis hw hbd hd hsz;rw[VRel] at hr;obtain ⟨lo,lc,mo,mc,rfl,hrl,hrm⟩:=hr;rw[vfit] at hfit;obtain ⟨hkr,hn,_,_,_,hfl,hfm⟩:=hfit;rw[vb] at hsz ⊢;have HSZ:=hid hsz;have HDIS:=hid hdis;have HRL:=hid (VRels.lt l lo 0 hrl);have HRM:=hid (KRels.lt m mo 0 hrm);have HFL:=hid hfl;have HFM:=hid hfm;have HBD:=hid hbd;have HD:=hid hd;have HN:=hid hn;have HET:=hid (enters_of Tryz.func169 (by kernel_rfl) rfl);obtain ⟨SA,hSA⟩:∃ SA:ByteArray,(⟨s.toArray⟩:ByteArray)=SA:=⟨_,rfl⟩
 obtain ⟨IA,hIA⟩:∃ IA:ByteArray,(⟨i.toArray⟩:ByteArray)=IA:=⟨_,rfl⟩
 obtain ⟨UA,hUA⟩:∃ UA:ByteArray,(⟨u.toArray⟩:ByteArray)=UA:=⟨_,rfl⟩
 have HSA:Hid (SA.data.toList=s):=hid (by rw[←hSA]);have HIA:Hid (IA.data.toList=i):=hid (by rw[←hIA]);have HIE:Hid (IA=⟨i.toArray⟩):=hid hIA.symm;have HUE:Hid (UA=⟨u.toArray⟩):=hid hUA.symm;have HSS:Hid (SA.size=s.length):=hid (by rw[←hSA];simp[ByteArray.size]);unfold strV;rw[hSA,hIA,hUA];obtain ⟨g,hg⟩:∃ g,vpl 7 s.isEmpty b0 n l.length m.length i.isEmpty=g:=⟨_,rfl⟩
 have HG:=hid hg;have HG2:Hid (vpl 7 SA.data.toList.isEmpty b0 n l.length m.length IA.data.toList.isEmpty=g):=hid (by rw[HSA.out,HIA.out];exact hg);obtain ⟨W0,hW0⟩:∃ W,w.alloc (.cells #[.int .i64 7,.string SA,.bool b0,.int .u64 n,.slice lo l.length lc,.slice mo m.length mc,.string IA,.string UA] 77)=W:=⟨_,rfl⟩
 obtain ⟨bx,hbx⟩:∃ bx,w.heap.size=bx:=⟨_,rfl⟩
 have HB0:Hid (Below w.heap.size w W0):=hid (by rw[←hW0];exact below_new _ _);have HGE:Hid (w.heap.size≤bx):=hid (by omega);have H0:Hid (WSx p d ps hs b P w true [] 0 0 [] P bx #[.int .i64 7,.string SA,.bool b0,.int .u64 n,.slice lo l.length lc,.slice mo m.length mc,.string IA,.string UA] 77 W0):=hid (WSx.start hw HB0.out (by rw[←hW0,←hbx];exact heap_alloc_new _ _) (wh_out hw (by omega)));have HPL:=hid (plain7_any SA b0 n lo l.length lc mo m.length mc IA UA W0);have HW0:=hid hW0;have HBX:=hid hbx;clear hfl hfm hdis hrl hrm hw hbd hd hsz hn hW0 hbx hSA hIA hUA hg hkr;go_enter Tryz.func149,Tryz.ntmps149;go_wp2_with fail;rw[HW0.out];refine HPL.out.mono ?_;rintro e w1 ⟨rfl,hb1⟩;rw[HG2.out];have H1:=hid (H0.out.below hb1);clear hb1;go_wp2_with fail;refine (wv_ask g H1.out.so.wr).mono ?_;intro e w2 hpost;obtain ⟨qs2,P2,rfl,h2⟩:=H1.out.next hpost;have H2:=hid h2;clear hpost h2;have x0:w2.cell? ⟨bx,0,none⟩=some (.int .i64 7):=H2.out.cell (j:=0) rfl;have x1:w2.cell? ⟨bx,1,none⟩=some (.string SA):=H2.out.cell (j:=1) rfl;have x2:w2.cell? ⟨bx,2,none⟩=some (.bool b0):=H2.out.cell (j:=2) rfl;have x3:w2.cell? ⟨bx,3,none⟩=some (.int .u64 n):=H2.out.cell (j:=3) rfl;have x7:w2.cell? ⟨bx,7,none⟩=some (.string UA):=H2.out.cell (j:=7) rfl;have xf:w2.frozen? ⟨bx,3,none⟩=false:=row_thaw H2.out.row 3;rw[HBX.out];go_wp2_with fail;refine (wbytes_any 7 SA _ (by omega) (by omega) (by have:=HSS.out;have:=HSZ.out;omega)).mono ?_;rintro e w5 ⟨rfl,hb5⟩;rw[HSS.out,HSA.out];have H5:=hid (H2.out.below hb5)
 have hwl:(wrec 7 2 (vput s.length++s)).length≤20+s.length:=by
  rw[show wrec 7 2 (vput s.length++s)=(rB 7 s).raw from wrec_raw (num:=7) (ty:=2) (by omega) (by omega) (by omega) (vput s.length++s)]
  show (vput (8 * 7+2)++(vput s.length++s)).length≤_
  rw[List.length_append,List.length_append];have:=vput_le10 (8 * 7+2);have:=vput_le10 s.length;omega
 have HWL:=hid hwl;clear hb5 hwl;go_wp2_with fail;refine (wv_put (wrec 7 2 (vput s.length++s)) H5.out.so.wr (by have:=HSZ.out;have:=H5.out.so.len;rw[List.length_append];omega) (by have:=HSZ.out;have:=H5.out.so.size;have:=HWL.out;rw[List.flatten_append,List.length_append];omega)).mono ?_;intro e w6 hpost;obtain ⟨qs6,P6,rfl,h6⟩:=H5.out.next hpost;have H6:=hid h6;clear hpost h6;have x7:w6.cell? ⟨bx,7,none⟩=some (.string UA):=H6.out.cell (j:=7) rfl;go_wp2_with fail;refine (wv_rest UA u vtk 169 H6.out.so.wr HUE.out (by have:=HSZ.out;omega) (by have:=HSZ.out;have:=H6.out.so.len;rw[List.length_append];omega) (by have:=HSZ.out;have:=H6.out.so.size;rw[List.flatten_append,List.length_append];have:=HWL.out;omega) HET.out (fun r w=>vtakes_any r w)).mono ?_;intro e w9 hpost;obtain ⟨qs9,P9,rfl,h9⟩:=H6.out.next hpost;have H9:=hid h9;clear hpost h9 x0 x1 x2 x3 x7 xf;go_wp2_with fail
 go_end0
 refine ((H9.out.done.conv (fun hb=>?_) (fun hb hm=>?_)).le ?_ ?_)
 ·rw[vmay]
  rw[HG.out]
  simp
 ·rw[vout]
  rw[show wrec 7 2 (vput s.length++s)=(rB 7 s).raw from wrec_raw (num:=7) (ty:=2) (by omega) (by omega) (by omega) (vput s.length++s)]
  simp[vrec]
 ·omega
 ·have:=HWL.out;omega
theorem vput1 (s:List UInt8)(b0:Bool)(n:Nat)(l:List Val)(m:List KV)(i u:List UInt8):PutV (.mk 1 s b0 n l m i u):=by
 intro p d ps hs b P Q w cs hfit hr hdis hw hbd hd hsz;rw[VRel] at hr;obtain ⟨lo,lc,mo,mc,rfl,hrl,hrm⟩:=hr;rw[vfit] at hfit;obtain ⟨hkr,hn,_,_,_,hfl,hfm⟩:=hfit;rw[vb] at hsz ⊢;have HSZ:=hid hsz;have HDIS:=hid hdis;have HRL:=hid (VRels.lt l lo 0 hrl);have HRM:=hid (KRels.lt m mo 0 hrm);have HFL:=hid hfl;have HFM:=hid hfm;have HBD:=hid hbd;have HD:=hid hd;have HN:=hid hn;have HET:=hid (enters_of Tryz.func169 (by kernel_rfl) rfl);obtain ⟨SA,hSA⟩:∃ SA:ByteArray,(⟨s.toArray⟩:ByteArray)=SA:=⟨_,rfl⟩
 obtain ⟨IA,hIA⟩:∃ IA:ByteArray,(⟨i.toArray⟩:ByteArray)=IA:=⟨_,rfl⟩
 obtain ⟨UA,hUA⟩:∃ UA:ByteArray,(⟨u.toArray⟩:ByteArray)=UA:=⟨_,rfl⟩
 have HSA:Hid (SA.data.toList=s):=hid (by rw[←hSA]);have HIA:Hid (IA.data.toList=i):=hid (by rw[←hIA]);have HIE:Hid (IA=⟨i.toArray⟩):=hid hIA.symm;have HUE:Hid (UA=⟨u.toArray⟩):=hid hUA.symm;have HSS:Hid (SA.size=s.length):=hid (by rw[←hSA];simp[ByteArray.size]);unfold strV;rw[hSA,hIA,hUA];obtain ⟨g,hg⟩:∃ g,vpl 1 s.isEmpty b0 n l.length m.length i.isEmpty=g:=⟨_,rfl⟩
 have HG:=hid hg;have HG2:Hid (vpl 1 SA.data.toList.isEmpty b0 n l.length m.length IA.data.toList.isEmpty=g):=hid (by rw[HSA.out,HIA.out];exact hg);obtain ⟨W0,hW0⟩:∃ W,w.alloc (.cells #[.int .i64 1,.string SA,.bool b0,.int .u64 n,.slice lo l.length lc,.slice mo m.length mc,.string IA,.string UA] 77)=W:=⟨_,rfl⟩
 obtain ⟨bx,hbx⟩:∃ bx,w.heap.size=bx:=⟨_,rfl⟩
 have HB0:Hid (Below w.heap.size w W0):=hid (by rw[←hW0];exact below_new _ _);have HGE:Hid (w.heap.size≤bx):=hid (by omega);have H0:Hid (WSx p d ps hs b P w true [] 0 0 [] P bx #[.int .i64 1,.string SA,.bool b0,.int .u64 n,.slice lo l.length lc,.slice mo m.length mc,.string IA,.string UA] 77 W0):=hid (WSx.start hw HB0.out (by rw[←hW0,←hbx];exact heap_alloc_new _ _) (wh_out hw (by omega)));have HPL:=hid (plain1_any SA b0 n lo l.length lc mo m.length mc IA UA W0);have HW0:=hid hW0;have HBX:=hid hbx;clear hfl hfm hdis hrl hrm hw hbd hd hsz hn hW0 hbx hSA hIA hUA hg hkr;go_enter Tryz.func149,Tryz.ntmps149;go_wp2_with fail;rw[HW0.out];refine HPL.out.mono ?_;rintro e w1 ⟨rfl,hb1⟩;rw[HG2.out];have H1:=hid (H0.out.below hb1);clear hb1;go_wp2_with fail;refine (wv_ask g H1.out.so.wr).mono ?_;intro e w2 hpost;obtain ⟨qs2,P2,rfl,h2⟩:=H1.out.next hpost;have H2:=hid h2;clear hpost h2;have x0:w2.cell? ⟨bx,0,none⟩=some (.int .i64 1):=H2.out.cell (j:=0) rfl;have x1:w2.cell? ⟨bx,1,none⟩=some (.string SA):=H2.out.cell (j:=1) rfl;have x2:w2.cell? ⟨bx,2,none⟩=some (.bool b0):=H2.out.cell (j:=2) rfl;have x3:w2.cell? ⟨bx,3,none⟩=some (.int .u64 n):=H2.out.cell (j:=3) rfl;have x7:w2.cell? ⟨bx,7,none⟩=some (.string UA):=H2.out.cell (j:=7) rfl;have xf:w2.frozen? ⟨bx,3,none⟩=false:=row_thaw H2.out.row 3;rw[HBX.out];go_wp2_with fail;refine (wv_askt 1 SA s H2.out.so.wr HSA.out (by have:=HSZ.out;omega)).mono ?_;intro e w3 hpost;obtain ⟨qs3,P3,rfl,h3⟩:=H2.out.next hpost;have H3:=hid h3;clear hpost h3;have y0:w3.cell? ⟨bx,0,none⟩=some (.int .i64 1):=H3.out.cell (j:=0) rfl;have y1:w3.cell? ⟨bx,1,none⟩=some (.string SA):=H3.out.cell (j:=1) rfl;go_wp2_with fail;refine (wbytes_any 1 SA _ (by omega) (by omega) (by have:=HSS.out;have:=HSZ.out;omega)).mono ?_;rintro e w5 ⟨rfl,hb5⟩;rw[HSS.out,HSA.out];have H5:=hid (H3.out.below hb5)
 have hwl:(wrec 1 2 (vput s.length++s)).length≤20+s.length:=by
  rw[show wrec 1 2 (vput s.length++s)=(rB 1 s).raw from wrec_raw (num:=1) (ty:=2) (by omega) (by omega) (by omega) (vput s.length++s)]
  show (vput (8 * 1+2)++(vput s.length++s)).length≤_
  rw[List.length_append,List.length_append];have:=vput_le10 (8 * 1+2);have:=vput_le10 s.length;omega
 have HWL:=hid hwl;clear hb5 hwl;go_wp2_with fail;refine (wv_put (wrec 1 2 (vput s.length++s)) H5.out.so.wr (by have:=HSZ.out;have:=H5.out.so.len;rw[List.length_append];omega) (by have:=HSZ.out;have:=H5.out.so.size;have:=HWL.out;rw[List.flatten_append,List.length_append];omega)).mono ?_;intro e w6 hpost;obtain ⟨qs6,P6,rfl,h6⟩:=H5.out.next hpost;have H6:=hid h6;clear hpost h6;have x7:w6.cell? ⟨bx,7,none⟩=some (.string UA):=H6.out.cell (j:=7) rfl;go_wp2_with fail;refine (wv_rest UA u vtk 169 H6.out.so.wr HUE.out (by have:=HSZ.out;omega) (by have:=HSZ.out;have:=H6.out.so.len;rw[List.length_append];omega) (by have:=HSZ.out;have:=H6.out.so.size;rw[List.flatten_append,List.length_append];have:=HWL.out;omega) HET.out (fun r w=>vtakes_any r w)).mono ?_;intro e w9 hpost;obtain ⟨qs9,P9,rfl,h9⟩:=H6.out.next hpost;have H9:=hid h9;clear hpost h9 y0 y1 x0 x1 x2 x3 x7 xf;go_wp2_with fail
 go_end0
 refine ((H9.out.done.conv (fun hb=>?_) (fun hb hm=>?_)).le ?_ ?_)
 ·rw[vmay]
  rw[HG.out]
  simp
 ·rw[vout]
  rw[show wrec 1 2 (vput s.length++s)=(rB 1 s).raw from wrec_raw (num:=1) (ty:=2) (by omega) (by omega) (by omega) (vput s.length++s)]
  simp[vrec]
 ·omega
 ·have:=HWL.out;omega
theorem vput3 (s:List UInt8)(b0:Bool)(n:Nat)(l:List Val)(m:List KV)(i u:List UInt8):PutV (.mk 3 s b0 n l m i u):=by
 intro p d ps hs b P Q w cs hfit hr hdis hw hbd hd hsz;rw[VRel] at hr;obtain ⟨lo,lc,mo,mc,rfl,hrl,hrm⟩:=hr;rw[vfit] at hfit;obtain ⟨hkr,hn,_,_,_,hfl,hfm⟩:=hfit;rw[vb] at hsz ⊢;have HSZ:=hid hsz;have HDIS:=hid hdis;have HRL:=hid (VRels.lt l lo 0 hrl);have HRM:=hid (KRels.lt m mo 0 hrm);have HFL:=hid hfl;have HFM:=hid hfm;have HBD:=hid hbd;have HD:=hid hd;have HN:=hid hn;have HET:=hid (enters_of Tryz.func169 (by kernel_rfl) rfl);obtain ⟨SA,hSA⟩:∃ SA:ByteArray,(⟨s.toArray⟩:ByteArray)=SA:=⟨_,rfl⟩
 obtain ⟨IA,hIA⟩:∃ IA:ByteArray,(⟨i.toArray⟩:ByteArray)=IA:=⟨_,rfl⟩
 obtain ⟨UA,hUA⟩:∃ UA:ByteArray,(⟨u.toArray⟩:ByteArray)=UA:=⟨_,rfl⟩
 have HSA:Hid (SA.data.toList=s):=hid (by rw[←hSA]);have HIA:Hid (IA.data.toList=i):=hid (by rw[←hIA]);have HIE:Hid (IA=⟨i.toArray⟩):=hid hIA.symm;have HUE:Hid (UA=⟨u.toArray⟩):=hid hUA.symm;have HSS:Hid (SA.size=s.length):=hid (by rw[←hSA];simp[ByteArray.size]);unfold strV;rw[hSA,hIA,hUA];obtain ⟨g,hg⟩:∃ g,vpl 3 s.isEmpty b0 n l.length m.length i.isEmpty=g:=⟨_,rfl⟩
 have HG:=hid hg;have HG2:Hid (vpl 3 SA.data.toList.isEmpty b0 n l.length m.length IA.data.toList.isEmpty=g):=hid (by rw[HSA.out,HIA.out];exact hg);obtain ⟨W0,hW0⟩:∃ W,w.alloc (.cells #[.int .i64 3,.string SA,.bool b0,.int .u64 n,.slice lo l.length lc,.slice mo m.length mc,.string IA,.string UA] 77)=W:=⟨_,rfl⟩
 obtain ⟨bx,hbx⟩:∃ bx,w.heap.size=bx:=⟨_,rfl⟩
 have HB0:Hid (Below w.heap.size w W0):=hid (by rw[←hW0];exact below_new _ _);have HGE:Hid (w.heap.size≤bx):=hid (by omega);have H0:Hid (WSx p d ps hs b P w true [] 0 0 [] P bx #[.int .i64 3,.string SA,.bool b0,.int .u64 n,.slice lo l.length lc,.slice mo m.length mc,.string IA,.string UA] 77 W0):=hid (WSx.start hw HB0.out (by rw[←hW0,←hbx];exact heap_alloc_new _ _) (wh_out hw (by omega)));have HPL:=hid (plain3_any SA b0 n lo l.length lc mo m.length mc IA UA W0);have HW0:=hid hW0;have HBX:=hid hbx;clear hfl hfm hdis hrl hrm hw hbd hd hsz hn hW0 hbx hSA hIA hUA hg hkr;go_enter Tryz.func149,Tryz.ntmps149;go_wp2_with fail;rw[HW0.out];refine HPL.out.mono ?_;rintro e w1 ⟨rfl,hb1⟩;rw[HG2.out];have H1:=hid (H0.out.below hb1);clear hb1;go_wp2_with fail;refine (wv_ask g H1.out.so.wr).mono ?_;intro e w2 hpost;obtain ⟨qs2,P2,rfl,h2⟩:=H1.out.next hpost;have H2:=hid h2;clear hpost h2;have x0:w2.cell? ⟨bx,0,none⟩=some (.int .i64 3):=H2.out.cell (j:=0) rfl;have x1:w2.cell? ⟨bx,1,none⟩=some (.string SA):=H2.out.cell (j:=1) rfl;have x2:w2.cell? ⟨bx,2,none⟩=some (.bool b0):=H2.out.cell (j:=2) rfl;have x3:w2.cell? ⟨bx,3,none⟩=some (.int .u64 n):=H2.out.cell (j:=3) rfl;have x7:w2.cell? ⟨bx,7,none⟩=some (.string UA):=H2.out.cell (j:=7) rfl;have xf:w2.frozen? ⟨bx,3,none⟩=false:=row_thaw H2.out.row 3;rw[HBX.out];go_wp2_with fail;refine (wvarint_any 3 n _ (by omega) (by omega) (by have:=HN.out;omega)).mono ?_;rintro e w5 ⟨rfl,hb5⟩;have H5:=hid (H2.out.below hb5)
 have hwl:(wrec 3 0 (vput n)).length≤20:=by
  rw[show wrec 3 0 (vput n)=(rN 3 n).raw from wrec_raw (num:=3) (ty:=0) (by omega) (by omega) (by omega) (vput n)]
  show (vput (8 * 3+0)++vput n).length≤_
  rw[List.length_append];have:=vput_le10 (8 * 3+0);have:=vput_le10 n;omega
 have HWL:=hid hwl;clear hb5 hwl;go_wp2_with fail;refine (wv_put (wrec 3 0 (vput n)) H5.out.so.wr (by have:=HSZ.out;have:=H5.out.so.len;rw[List.length_append];omega) (by have:=HSZ.out;have:=H5.out.so.size;have:=HWL.out;rw[List.flatten_append,List.length_append];omega)).mono ?_;intro e w6 hpost;obtain ⟨qs6,P6,rfl,h6⟩:=H5.out.next hpost;have H6:=hid h6;clear hpost h6;have x7:w6.cell? ⟨bx,7,none⟩=some (.string UA):=H6.out.cell (j:=7) rfl;go_wp2_with fail;refine (wv_rest UA u vtk 169 H6.out.so.wr HUE.out (by have:=HSZ.out;omega) (by have:=HSZ.out;have:=H6.out.so.len;rw[List.length_append];omega) (by have:=HSZ.out;have:=H6.out.so.size;rw[List.flatten_append,List.length_append];have:=HWL.out;omega) HET.out (fun r w=>vtakes_any r w)).mono ?_;intro e w9 hpost;obtain ⟨qs9,P9,rfl,h9⟩:=H6.out.next hpost;have H9:=hid h9;clear hpost h9 x0 x1 x2 x3 x7 xf;go_wp2_with fail
 go_end0
 refine ((H9.out.done.conv (fun hb=>?_) (fun hb hm=>?_)).le ?_ ?_)
 ·rw[vmay]
  rw[HG.out]
  simp
 ·rw[vout]
  rw[show wrec 3 0 (vput n)=(rN 3 n).raw from wrec_raw (num:=3) (ty:=0) (by omega) (by omega) (by omega) (vput n)]
  simp[vrec]
 ·omega
 ·have:=HWL.out;omega
theorem vput4 (s:List UInt8)(b0:Bool)(n:Nat)(l:List Val)(m:List KV)(i u:List UInt8):PutV (.mk 4 s b0 n l m i u):=by
 intro p d ps hs b P Q w cs hfit hr hdis hw hbd hd hsz;rw[VRel] at hr;obtain ⟨lo,lc,mo,mc,rfl,hrl,hrm⟩:=hr;rw[vfit] at hfit;obtain ⟨hkr,hn,_,_,_,hfl,hfm⟩:=hfit;rw[vb] at hsz ⊢;have HSZ:=hid hsz;have HDIS:=hid hdis;have HRL:=hid (VRels.lt l lo 0 hrl);have HRM:=hid (KRels.lt m mo 0 hrm);have HFL:=hid hfl;have HFM:=hid hfm;have HBD:=hid hbd;have HD:=hid hd;have HN:=hid hn;have HET:=hid (enters_of Tryz.func169 (by kernel_rfl) rfl);obtain ⟨SA,hSA⟩:∃ SA:ByteArray,(⟨s.toArray⟩:ByteArray)=SA:=⟨_,rfl⟩
 obtain ⟨IA,hIA⟩:∃ IA:ByteArray,(⟨i.toArray⟩:ByteArray)=IA:=⟨_,rfl⟩
 obtain ⟨UA,hUA⟩:∃ UA:ByteArray,(⟨u.toArray⟩:ByteArray)=UA:=⟨_,rfl⟩
 have HSA:Hid (SA.data.toList=s):=hid (by rw[←hSA]);have HIA:Hid (IA.data.toList=i):=hid (by rw[←hIA]);have HIE:Hid (IA=⟨i.toArray⟩):=hid hIA.symm;have HUE:Hid (UA=⟨u.toArray⟩):=hid hUA.symm;have HSS:Hid (SA.size=s.length):=hid (by rw[←hSA];simp[ByteArray.size]);unfold strV;rw[hSA,hIA,hUA];obtain ⟨g,hg⟩:∃ g,vpl 4 s.isEmpty b0 n l.length m.length i.isEmpty=g:=⟨_,rfl⟩
 have HG:=hid hg;have HG2:Hid (vpl 4 SA.data.toList.isEmpty b0 n l.length m.length IA.data.toList.isEmpty=g):=hid (by rw[HSA.out,HIA.out];exact hg);obtain ⟨W0,hW0⟩:∃ W,w.alloc (.cells #[.int .i64 4,.string SA,.bool b0,.int .u64 n,.slice lo l.length lc,.slice mo m.length mc,.string IA,.string UA] 77)=W:=⟨_,rfl⟩
 obtain ⟨bx,hbx⟩:∃ bx,w.heap.size=bx:=⟨_,rfl⟩
 have HB0:Hid (Below w.heap.size w W0):=hid (by rw[←hW0];exact below_new _ _);have HGE:Hid (w.heap.size≤bx):=hid (by omega);have H0:Hid (WSx p d ps hs b P w true [] 0 0 [] P bx #[.int .i64 4,.string SA,.bool b0,.int .u64 n,.slice lo l.length lc,.slice mo m.length mc,.string IA,.string UA] 77 W0):=hid (WSx.start hw HB0.out (by rw[←hW0,←hbx];exact heap_alloc_new _ _) (wh_out hw (by omega)));have HPL:=hid (plain4_any SA b0 n lo l.length lc mo m.length mc IA UA W0);have HW0:=hid hW0;have HBX:=hid hbx;clear hfl hfm hdis hrl hrm hw hbd hd hsz hn hW0 hbx hSA hIA hUA hg hkr;go_enter Tryz.func149,Tryz.ntmps149;go_wp2_with fail;rw[HW0.out];refine HPL.out.mono ?_;rintro e w1 ⟨rfl,hb1⟩;rw[HG2.out];have H1:=hid (H0.out.below hb1);clear hb1;go_wp2_with fail;refine (wv_ask g H1.out.so.wr).mono ?_;intro e w2 hpost;obtain ⟨qs2,P2,rfl,h2⟩:=H1.out.next hpost;have H2:=hid h2;clear hpost h2;have x0:w2.cell? ⟨bx,0,none⟩=some (.int .i64 4):=H2.out.cell (j:=0) rfl;have x1:w2.cell? ⟨bx,1,none⟩=some (.string SA):=H2.out.cell (j:=1) rfl;have x2:w2.cell? ⟨bx,2,none⟩=some (.bool b0):=H2.out.cell (j:=2) rfl;have x3:w2.cell? ⟨bx,3,none⟩=some (.int .u64 n):=H2.out.cell (j:=3) rfl;have x7:w2.cell? ⟨bx,7,none⟩=some (.string UA):=H2.out.cell (j:=7) rfl;have xf:w2.frozen? ⟨bx,3,none⟩=false:=row_thaw H2.out.row 3;rw[HBX.out];go_wp2_with fail;refine (wfixed_any 4 n _ (by omega) (by omega) (by have:=HN.out;omega)).mono ?_;rintro e w5 ⟨rfl,hb5⟩;have H5:=hid (H2.out.below hb5)
 have hwl:(wrec 4 1 (eight 8 n)).length≤20:=by
  rw[show wrec 4 1 (eight 8 n)=(rF 4 n).raw from wrec_raw (num:=4) (ty:=1) (by omega) (by omega) (by omega) (eight 8 n)]
  show (vput (8 * 4+1)++eight 8 n).length≤_
  rw[List.length_append];have:=vput_le10 (8 * 4+1);have:(eight 8 n).length=8:=by rw[eight_8];rfl
  omega
 have HWL:=hid hwl;clear hb5 hwl;go_wp2_with fail;refine (wv_put (wrec 4 1 (eight 8 n)) H5.out.so.wr (by have:=HSZ.out;have:=H5.out.so.len;rw[List.length_append];omega) (by have:=HSZ.out;have:=H5.out.so.size;have:=HWL.out;rw[List.flatten_append,List.length_append];omega)).mono ?_;intro e w6 hpost;obtain ⟨qs6,P6,rfl,h6⟩:=H5.out.next hpost;have H6:=hid h6;clear hpost h6;have x7:w6.cell? ⟨bx,7,none⟩=some (.string UA):=H6.out.cell (j:=7) rfl;go_wp2_with fail;refine (wv_rest UA u vtk 169 H6.out.so.wr HUE.out (by have:=HSZ.out;omega) (by have:=HSZ.out;have:=H6.out.so.len;rw[List.length_append];omega) (by have:=HSZ.out;have:=H6.out.so.size;rw[List.flatten_append,List.length_append];have:=HWL.out;omega) HET.out (fun r w=>vtakes_any r w)).mono ?_;intro e w9 hpost;obtain ⟨qs9,P9,rfl,h9⟩:=H6.out.next hpost;have H9:=hid h9;clear hpost h9 x0 x1 x2 x3 x7 xf;go_wp2_with fail
 go_end0
 refine ((H9.out.done.conv (fun hb=>?_) (fun hb hm=>?_)).le ?_ ?_)
 ·rw[vmay]
  rw[HG.out]
  simp
 ·rw[vout]
  rw[show wrec 4 1 (eight 8 n)=(rF 4 n).raw from wrec_raw (num:=4) (ty:=1) (by omega) (by omega) (by omega) (eight 8 n)]
  simp[vrec]
 ·omega
 ·have:=HWL.out;omega
theorem vput2F (s:List UInt8)(n:Nat)(l:List Val)(m:List KV)(i u:List UInt8):PutV (.mk 2 s false n l m i u):=by
 intro p d ps hs b P Q w cs hfit hr hdis hw hbd hd hsz;rw[VRel] at hr;obtain ⟨lo,lc,mo,mc,rfl,hrl,hrm⟩:=hr;rw[vfit] at hfit;obtain ⟨hkr,hn,_,_,_,hfl,hfm⟩:=hfit;rw[vb] at hsz ⊢;have HSZ:=hid hsz;have HDIS:=hid hdis;have HRL:=hid (VRels.lt l lo 0 hrl);have HRM:=hid (KRels.lt m mo 0 hrm);have HFL:=hid hfl;have HFM:=hid hfm;have HBD:=hid hbd;have HD:=hid hd;have HN:=hid hn;have HET:=hid (enters_of Tryz.func169 (by kernel_rfl) rfl);obtain ⟨SA,hSA⟩:∃ SA:ByteArray,(⟨s.toArray⟩:ByteArray)=SA:=⟨_,rfl⟩
 obtain ⟨IA,hIA⟩:∃ IA:ByteArray,(⟨i.toArray⟩:ByteArray)=IA:=⟨_,rfl⟩
 obtain ⟨UA,hUA⟩:∃ UA:ByteArray,(⟨u.toArray⟩:ByteArray)=UA:=⟨_,rfl⟩
 have HSA:Hid (SA.data.toList=s):=hid (by rw[←hSA]);have HIA:Hid (IA.data.toList=i):=hid (by rw[←hIA]);have HIE:Hid (IA=⟨i.toArray⟩):=hid hIA.symm;have HUE:Hid (UA=⟨u.toArray⟩):=hid hUA.symm;have HSS:Hid (SA.size=s.length):=hid (by rw[←hSA];simp[ByteArray.size]);unfold strV;rw[hSA,hIA,hUA];obtain ⟨g,hg⟩:∃ g,vpl 2 s.isEmpty false n l.length m.length i.isEmpty=g:=⟨_,rfl⟩
 have HG:=hid hg;have HG2:Hid (vpl 2 SA.data.toList.isEmpty false n l.length m.length IA.data.toList.isEmpty=g):=hid (by rw[HSA.out,HIA.out];exact hg);obtain ⟨W0,hW0⟩:∃ W,w.alloc (.cells #[.int .i64 2,.string SA,.bool false,.int .u64 n,.slice lo l.length lc,.slice mo m.length mc,.string IA,.string UA] 77)=W:=⟨_,rfl⟩
 obtain ⟨bx,hbx⟩:∃ bx,w.heap.size=bx:=⟨_,rfl⟩
 have HB0:Hid (Below w.heap.size w W0):=hid (by rw[←hW0];exact below_new _ _);have HGE:Hid (w.heap.size≤bx):=hid (by omega);have H0:Hid (WSx p d ps hs b P w true [] 0 0 [] P bx #[.int .i64 2,.string SA,.bool false,.int .u64 n,.slice lo l.length lc,.slice mo m.length mc,.string IA,.string UA] 77 W0):=hid (WSx.start hw HB0.out (by rw[←hW0,←hbx];exact heap_alloc_new _ _) (wh_out hw (by omega)));have HPL:=hid (plain2_any SA false n lo l.length lc mo m.length mc IA UA W0);have HW0:=hid hW0;have HBX:=hid hbx;clear hfl hfm hdis hrl hrm hw hbd hd hsz hn hW0 hbx hSA hIA hUA hg hkr;go_enter Tryz.func149,Tryz.ntmps149;go_wp2_with fail;rw[HW0.out];refine HPL.out.mono ?_;rintro e w1 ⟨rfl,hb1⟩;rw[HG2.out];have H1:=hid (H0.out.below hb1);clear hb1;go_wp2_with fail;refine (wv_ask g H1.out.so.wr).mono ?_;intro e w2 hpost;obtain ⟨qs2,P2,rfl,h2⟩:=H1.out.next hpost;have H2:=hid h2;clear hpost h2;have x0:w2.cell? ⟨bx,0,none⟩=some (.int .i64 2):=H2.out.cell (j:=0) rfl;have x1:w2.cell? ⟨bx,1,none⟩=some (.string SA):=H2.out.cell (j:=1) rfl;have x2:w2.cell? ⟨bx,2,none⟩=some (.bool false):=H2.out.cell (j:=2) rfl;have x3:w2.cell? ⟨bx,3,none⟩=some (.int .u64 n):=H2.out.cell (j:=3) rfl;have x7:w2.cell? ⟨bx,7,none⟩=some (.string UA):=H2.out.cell (j:=7) rfl;have xf:w2.frozen? ⟨bx,3,none⟩=false:=row_thaw H2.out.row 3;rw[HBX.out];go_wp2_with fail;refine (wvarint_any 2 n _ (by omega) (by omega) (by have:=HN.out;omega)).mono ?_;rintro e w5 ⟨rfl,hb5⟩;have H5:=hid (H2.out.below hb5)
 have hwl:(wrec 2 0 (vput n)).length≤20:=by
  rw[show wrec 2 0 (vput n)=(rN 2 n).raw from wrec_raw (num:=2) (ty:=0) (by omega) (by omega) (by omega) (vput n)]
  show (vput (8 * 2+0)++vput n).length≤_
  rw[List.length_append];have:=vput_le10 (8 * 2+0);have:=vput_le10 n;omega
 have HWL:=hid hwl;clear hb5 hwl;go_wp2_with fail;refine (wv_put (wrec 2 0 (vput n)) H5.out.so.wr (by have:=HSZ.out;have:=H5.out.so.len;rw[List.length_append];omega) (by have:=HSZ.out;have:=H5.out.so.size;have:=HWL.out;rw[List.flatten_append,List.length_append];omega)).mono ?_;intro e w6 hpost;obtain ⟨qs6,P6,rfl,h6⟩:=H5.out.next hpost;have H6:=hid h6;clear hpost h6;have x7:w6.cell? ⟨bx,7,none⟩=some (.string UA):=H6.out.cell (j:=7) rfl;go_wp2_with fail;refine (wv_rest UA u vtk 169 H6.out.so.wr HUE.out (by have:=HSZ.out;omega) (by have:=HSZ.out;have:=H6.out.so.len;rw[List.length_append];omega) (by have:=HSZ.out;have:=H6.out.so.size;rw[List.flatten_append,List.length_append];have:=HWL.out;omega) HET.out (fun r w=>vtakes_any r w)).mono ?_;intro e w9 hpost;obtain ⟨qs9,P9,rfl,h9⟩:=H6.out.next hpost;have H9:=hid h9;clear hpost h9 x0 x1 x2 x3 x7 xf;go_wp2_with fail
 go_end0
 refine ((H9.out.done.conv (fun hb=>?_) (fun hb hm=>?_)).le ?_ ?_)
 ·rw[vmay]
  rw[HG.out]
  simp
 ·rw[vout]
  rw[show wrec 2 0 (vput n)=(rN 2 n).raw from wrec_raw (num:=2) (ty:=0) (by omega) (by omega) (by omega) (vput n)]
  simp[vrec]
 ·omega
 ·have:=HWL.out;omega
theorem vput2T (s:List UInt8)(n:Nat)(l:List Val)(m:List KV)(i u:List UInt8):PutV (.mk 2 s true n l m i u):=by
 intro p d ps hs b P Q w cs hfit hr hdis hw hbd hd hsz;rw[VRel] at hr;obtain ⟨lo,lc,mo,mc,rfl,hrl,hrm⟩:=hr;rw[vfit] at hfit;obtain ⟨hkr,hn,_,_,_,hfl,hfm⟩:=hfit;rw[vb] at hsz ⊢;have HSZ:=hid hsz;have HDIS:=hid hdis;have HRL:=hid (VRels.lt l lo 0 hrl);have HRM:=hid (KRels.lt m mo 0 hrm);have HFL:=hid hfl;have HFM:=hid hfm;have HBD:=hid hbd;have HD:=hid hd;have HN:=hid hn;have HET:=hid (enters_of Tryz.func169 (by kernel_rfl) rfl);obtain ⟨SA,hSA⟩:∃ SA:ByteArray,(⟨s.toArray⟩:ByteArray)=SA:=⟨_,rfl⟩
 obtain ⟨IA,hIA⟩:∃ IA:ByteArray,(⟨i.toArray⟩:ByteArray)=IA:=⟨_,rfl⟩
 obtain ⟨UA,hUA⟩:∃ UA:ByteArray,(⟨u.toArray⟩:ByteArray)=UA:=⟨_,rfl⟩
 have HSA:Hid (SA.data.toList=s):=hid (by rw[←hSA]);have HIA:Hid (IA.data.toList=i):=hid (by rw[←hIA]);have HIE:Hid (IA=⟨i.toArray⟩):=hid hIA.symm;have HUE:Hid (UA=⟨u.toArray⟩):=hid hUA.symm;have HSS:Hid (SA.size=s.length):=hid (by rw[←hSA];simp[ByteArray.size]);unfold strV;rw[hSA,hIA,hUA];obtain ⟨g,hg⟩:∃ g,vpl 2 s.isEmpty true n l.length m.length i.isEmpty=g:=⟨_,rfl⟩
 have HG:=hid hg;have HG2:Hid (vpl 2 SA.data.toList.isEmpty true n l.length m.length IA.data.toList.isEmpty=g):=hid (by rw[HSA.out,HIA.out];exact hg);obtain ⟨W0,hW0⟩:∃ W,w.alloc (.cells #[.int .i64 2,.string SA,.bool true,.int .u64 n,.slice lo l.length lc,.slice mo m.length mc,.string IA,.string UA] 77)=W:=⟨_,rfl⟩
 obtain ⟨bx,hbx⟩:∃ bx,w.heap.size=bx:=⟨_,rfl⟩
 have HB0:Hid (Below w.heap.size w W0):=hid (by rw[←hW0];exact below_new _ _);have HGE:Hid (w.heap.size≤bx):=hid (by omega);have H0:Hid (WSx p d ps hs b P w true [] 0 0 [] P bx #[.int .i64 2,.string SA,.bool true,.int .u64 n,.slice lo l.length lc,.slice mo m.length mc,.string IA,.string UA] 77 W0):=hid (WSx.start hw HB0.out (by rw[←hW0,←hbx];exact heap_alloc_new _ _) (wh_out hw (by omega)));have HPL:=hid (plain2_any SA true n lo l.length lc mo m.length mc IA UA W0);have HW0:=hid hW0;have HBX:=hid hbx;clear hfl hfm hdis hrl hrm hw hbd hd hsz hn hW0 hbx hSA hIA hUA hg hkr;go_enter Tryz.func149,Tryz.ntmps149;go_wp2_with fail;rw[HW0.out];refine HPL.out.mono ?_;rintro e w1 ⟨rfl,hb1⟩;rw[HG2.out];have H1:=hid (H0.out.below hb1);clear hb1;go_wp2_with fail;refine (wv_ask g H1.out.so.wr).mono ?_;intro e w2 hpost;obtain ⟨qs2,P2,rfl,h2⟩:=H1.out.next hpost;have H2:=hid h2;clear hpost h2;have x0:w2.cell? ⟨bx,0,none⟩=some (.int .i64 2):=H2.out.cell (j:=0) rfl;have x1:w2.cell? ⟨bx,1,none⟩=some (.string SA):=H2.out.cell (j:=1) rfl;have x2:w2.cell? ⟨bx,2,none⟩=some (.bool true):=H2.out.cell (j:=2) rfl;have x3:w2.cell? ⟨bx,3,none⟩=some (.int .u64 n):=H2.out.cell (j:=3) rfl;have x7:w2.cell? ⟨bx,7,none⟩=some (.string UA):=H2.out.cell (j:=7) rfl;have xf:w2.frozen? ⟨bx,3,none⟩=false:=row_thaw H2.out.row 3;rw[HBX.out];obtain ⟨W3,hW3⟩:∃ W,w2.setCell ⟨bx,3,none⟩ (.int .u64 1)=W:=⟨_,rfl⟩
 have H3:=hid (H2.out.set val_not_wrap HGE.out 3 (.int .u64 1));rw[hW3] at H3;have y0:W3.cell? ⟨bx,0,none⟩=some (.int .i64 2):=H3.out.cell (j:=0) rfl;have y3:W3.cell? ⟨bx,3,none⟩=some (.int .u64 1):=H3.out.cell (j:=3) rfl;have HW3:=hid hW3;clear hW3;go_upto_region 99 with fail
 rw[HW3.out];go_wp2_with fail;refine (wvarint_any 2 1 _ (by omega) (by omega) (by have:=HN.out;omega)).mono ?_;rintro e w5 ⟨rfl,hb5⟩;have H5:=hid (H3.out.below hb5)
 have hwl:(wrec 2 0 (vput 1)).length≤20:=by
  rw[show wrec 2 0 (vput 1)=(rN 2 1).raw from wrec_raw (num:=2) (ty:=0) (by omega) (by omega) (by omega) (vput 1)]
  show (vput (8 * 2+0)++vput 1).length≤_
  rw[List.length_append];have:=vput_le10 (8 * 2+0);have:=vput_le10 1;omega
 have HWL:=hid hwl;clear hb5 hwl;go_wp2_with fail;refine (wv_put (wrec 2 0 (vput 1)) H5.out.so.wr (by have:=HSZ.out;have:=H5.out.so.len;rw[List.length_append];omega) (by have:=HSZ.out;have:=H5.out.so.size;have:=HWL.out;rw[List.flatten_append,List.length_append];omega)).mono ?_;intro e w6 hpost;obtain ⟨qs6,P6,rfl,h6⟩:=H5.out.next hpost;have H6:=hid h6;clear hpost h6;have x7:w6.cell? ⟨bx,7,none⟩=some (.string UA):=H6.out.cell (j:=7) rfl;go_wp2_with fail;refine (wv_rest UA u vtk 169 H6.out.so.wr HUE.out (by have:=HSZ.out;omega) (by have:=HSZ.out;have:=H6.out.so.len;rw[List.length_append];omega) (by have:=HSZ.out;have:=H6.out.so.size;rw[List.flatten_append,List.length_append];have:=HWL.out;omega) HET.out (fun r w=>vtakes_any r w)).mono ?_;intro e w9 hpost;obtain ⟨qs9,P9,rfl,h9⟩:=H6.out.next hpost;have H9:=hid h9;clear hpost h9 y0 y3 x0 x1 x2 x3 x7 xf;go_wp2_with fail
 go_end0
 refine ((H9.out.done.conv (fun hb=>?_) (fun hb hm=>?_)).le ?_ ?_)
 ·rw[vmay]
  rw[HG.out]
  simp
 ·rw[vout]
  rw[show wrec 2 0 (vput 1)=(rN 2 1).raw from wrec_raw (num:=2) (ty:=0) (by omega) (by omega) (by omega) (vput 1)]
  simp[vrec]
 ·omega
 ·have:=HWL.out;omega
theorem vput5 (s:List UInt8)(b0:Bool)(n:Nat)(l:List Val)(m:List KV)(i u:List UInt8)(hl:Hid (EachV l)):PutV (.mk 5 s b0 n l m i u):=by
 intro p d ps hs b P Q w cs hfit hr hdis hw hbd hd hsz;rw[VRel] at hr;obtain ⟨lo,lc,mo,mc,rfl,hrl,hrm⟩:=hr;rw[vfit] at hfit;obtain ⟨hkr,hn,_,_,_,hfl,hfm⟩:=hfit;rw[vb] at hsz ⊢;have HSZ:=hid hsz;have HDIS:=hid hdis;have HRL:=hid (VRels.lt l lo 0 hrl);have HRM:=hid (KRels.lt m mo 0 hrm);have HFL:=hid hfl;have HFM:=hid hfm;have HBD:=hid hbd;have HD:=hid hd;have HN:=hid hn;have HET:=hid (enters_of Tryz.func169 (by kernel_rfl) rfl);obtain ⟨SA,hSA⟩:∃ SA:ByteArray,(⟨s.toArray⟩:ByteArray)=SA:=⟨_,rfl⟩
 obtain ⟨IA,hIA⟩:∃ IA:ByteArray,(⟨i.toArray⟩:ByteArray)=IA:=⟨_,rfl⟩
 obtain ⟨UA,hUA⟩:∃ UA:ByteArray,(⟨u.toArray⟩:ByteArray)=UA:=⟨_,rfl⟩
 have HSA:Hid (SA.data.toList=s):=hid (by rw[←hSA]);have HIA:Hid (IA.data.toList=i):=hid (by rw[←hIA]);have HIE:Hid (IA=⟨i.toArray⟩):=hid hIA.symm;have HUE:Hid (UA=⟨u.toArray⟩):=hid hUA.symm;have HSS:Hid (SA.size=s.length):=hid (by rw[←hSA];simp[ByteArray.size]);unfold strV;rw[hSA,hIA,hUA];obtain ⟨g,hg⟩:∃ g,vpl 5 s.isEmpty b0 n l.length m.length i.isEmpty=g:=⟨_,rfl⟩
 have HG:=hid hg;have HG2:Hid (vpl 5 SA.data.toList.isEmpty b0 n l.length m.length IA.data.toList.isEmpty=g):=hid (by rw[HSA.out,HIA.out];exact hg);obtain ⟨W0,hW0⟩:∃ W,w.alloc (.cells #[.int .i64 5,.string SA,.bool b0,.int .u64 n,.slice lo l.length lc,.slice mo m.length mc,.string IA,.string UA] 77)=W:=⟨_,rfl⟩
 obtain ⟨bx,hbx⟩:∃ bx,w.heap.size=bx:=⟨_,rfl⟩
 have HB0:Hid (Below w.heap.size w W0):=hid (by rw[←hW0];exact below_new _ _);have HGE:Hid (w.heap.size≤bx):=hid (by omega);have H0:Hid (WSx p d ps hs b P w true [] 0 0 [] P bx #[.int .i64 5,.string SA,.bool b0,.int .u64 n,.slice lo l.length lc,.slice mo m.length mc,.string IA,.string UA] 77 W0):=hid (WSx.start hw HB0.out (by rw[←hW0,←hbx];exact heap_alloc_new _ _) (wh_out hw (by omega)));have HPL:=hid (plain5_any SA b0 n lo l.length lc mo m.length mc IA UA W0);have HW0:=hid hW0;have HBX:=hid hbx;clear hfl hfm hdis hrl hrm hw hbd hd hsz hn hW0 hbx hSA hIA hUA hg hkr;go_enter Tryz.func149,Tryz.ntmps149;go_wp2_with fail;rw[HW0.out];refine HPL.out.mono ?_;rintro e w1 ⟨rfl,hb1⟩;rw[HG2.out];have H1:=hid (H0.out.below hb1);clear hb1;go_wp2_with fail;refine (wv_ask g H1.out.so.wr).mono ?_;intro e w2 hpost;obtain ⟨qs2,P2,rfl,h2⟩:=H1.out.next hpost;have H2:=hid h2;clear hpost h2;have x0:w2.cell? ⟨bx,0,none⟩=some (.int .i64 5):=H2.out.cell (j:=0) rfl;have x1:w2.cell? ⟨bx,1,none⟩=some (.string SA):=H2.out.cell (j:=1) rfl;have x2:w2.cell? ⟨bx,2,none⟩=some (.bool b0):=H2.out.cell (j:=2) rfl;have x3:w2.cell? ⟨bx,3,none⟩=some (.int .u64 n):=H2.out.cell (j:=3) rfl;have x7:w2.cell? ⟨bx,7,none⟩=some (.string UA):=H2.out.cell (j:=7) rfl;have xf:w2.frozen? ⟨bx,3,none⟩=false:=row_thaw H2.out.row 3;rw[HBX.out];have y4:w2.cell? ⟨bx,4,none⟩=some (.slice lo l.length lc):=H2.out.cell (j:=4) rfl;have y5:w2.cell? ⟨bx,5,none⟩=some (.slice mo m.length mc):=H2.out.cell (j:=5) rfl;have y6:w2.cell? ⟨bx,6,none⟩=some (.string IA):=H2.out.cell (j:=6) rfl
 have HQP:Hid (∀ k,Q k∧k<w.heap.size→¬P2 k):=hid (fun k hk hp=>by
  rcases H2.out.so.new k hp with h|h
  ·exact HDIS.out k hk.1 h
  ·omega)
 have HP1:Hid (∀ k,Q k∧k<w.heap.size→¬P k):=hid (fun k hk=>HDIS.out k hk.1);have HR9:=hid (VRels.upd H2.out.so.upd (fun k hk=>HDIS.out k hk.1) (fun k hk=>hk) l lo 0 HRL.out);go_wp2_with fail;refine (vputlist_any l hl 5 (by omega) i p d (ps++qs2) hs (b||!(true&&g)) P2 (fun k=>Q k∧k<w.heap.size) w2 SA b0 n lo l.length lc mo m.length mc IA UA lo lc HIE.out HFL.out HR9.out HQP.out H2.out.so.wr (HBD.out.imp (fun h=>by rw[h];rfl) id) HD.out ?side).mono ?_
 case side =>
  have:=HSZ.out;have:=H2.out.so.len;have:=H2.out.so.size;rw[List.length_append,List.flatten_append,List.length_append];exact ⟨by omega,by omega,by omega⟩
 intro e w6 hpost;obtain ⟨qs6,P6,rfl,h6⟩:=H2.out.next hpost;have H6:=hid h6;clear hpost h6;have z7:w6.cell? ⟨bx,7,none⟩=some (.string UA):=H6.out.cell (j:=7) rfl;go_wp2_with fail;refine (wv_rest UA u vtk 169 H6.out.so.wr HUE.out (by have:=HSZ.out;omega) (by have:=HSZ.out;have:=H6.out.so.len;rw[List.length_append];omega) (by have:=HSZ.out;have:=H6.out.so.size;rw[List.flatten_append,List.length_append];skip;omega) HET.out (fun r w=>vtakes_any r w)).mono ?_;intro e w9 hpost;obtain ⟨qs9,P9,rfl,h9⟩:=H6.out.next hpost;have H9:=hid h9;clear hpost h9 y4 y5 y6 z7 x0 x1 x2 x3 x7 xf;go_wp2_with fail
 go_end0
 refine ((H9.out.done.conv (fun hb=>?_) (fun hb hm=>?_)).le ?_ ?_)
 ·rw[vmay]
  rw[HG.out]
  cases hgg:g with
  | false=>simp
  | true =>
   have h:=HG.out;rw[hgg] at h;unfold vpl at h
   simp only[Bool.and_eq_true,Bool.or_eq_true,decide_eq_true_eq] at h
   have h2:m=[]:=List.eq_nil_of_length_eq_zero (by obtain ⟨⟨_,h2⟩,_⟩:=h;omega);rw[h2]
   simp[kmays]
 ·rw[vout]
  simp[vrec]
 ·omega
 ·omega
theorem vput6 (s:List UInt8)(b0:Bool)(n:Nat)(l:List Val)(m:List KV)(i u:List UInt8)(hm:Hid (EachK m)):PutV (.mk 6 s b0 n l m i u):=by
 intro p d ps hs b P Q w cs hfit hr hdis hw hbd hd hsz;rw[VRel] at hr;obtain ⟨lo,lc,mo,mc,rfl,hrl,hrm⟩:=hr;rw[vfit] at hfit;obtain ⟨hkr,hn,_,_,_,hfl,hfm⟩:=hfit;rw[vb] at hsz ⊢;have HSZ:=hid hsz;have HDIS:=hid hdis;have HRL:=hid (VRels.lt l lo 0 hrl);have HRM:=hid (KRels.lt m mo 0 hrm);have HFL:=hid hfl;have HFM:=hid hfm;have HBD:=hid hbd;have HD:=hid hd;have HN:=hid hn;have HET:=hid (enters_of Tryz.func169 (by kernel_rfl) rfl);obtain ⟨SA,hSA⟩:∃ SA:ByteArray,(⟨s.toArray⟩:ByteArray)=SA:=⟨_,rfl⟩
 obtain ⟨IA,hIA⟩:∃ IA:ByteArray,(⟨i.toArray⟩:ByteArray)=IA:=⟨_,rfl⟩
 obtain ⟨UA,hUA⟩:∃ UA:ByteArray,(⟨u.toArray⟩:ByteArray)=UA:=⟨_,rfl⟩
 have HSA:Hid (SA.data.toList=s):=hid (by rw[←hSA]);have HIA:Hid (IA.data.toList=i):=hid (by rw[←hIA]);have HIE:Hid (IA=⟨i.toArray⟩):=hid hIA.symm;have HUE:Hid (UA=⟨u.toArray⟩):=hid hUA.symm;have HSS:Hid (SA.size=s.length):=hid (by rw[←hSA];simp[ByteArray.size]);unfold strV;rw[hSA,hIA,hUA];obtain ⟨g,hg⟩:∃ g,vpl 6 s.isEmpty b0 n l.length m.length i.isEmpty=g:=⟨_,rfl⟩
 have HG:=hid hg;have HG2:Hid (vpl 6 SA.data.toList.isEmpty b0 n l.length m.length IA.data.toList.isEmpty=g):=hid (by rw[HSA.out,HIA.out];exact hg);obtain ⟨W0,hW0⟩:∃ W,w.alloc (.cells #[.int .i64 6,.string SA,.bool b0,.int .u64 n,.slice lo l.length lc,.slice mo m.length mc,.string IA,.string UA] 77)=W:=⟨_,rfl⟩
 obtain ⟨bx,hbx⟩:∃ bx,w.heap.size=bx:=⟨_,rfl⟩
 have HB0:Hid (Below w.heap.size w W0):=hid (by rw[←hW0];exact below_new _ _);have HGE:Hid (w.heap.size≤bx):=hid (by omega);have H0:Hid (WSx p d ps hs b P w true [] 0 0 [] P bx #[.int .i64 6,.string SA,.bool b0,.int .u64 n,.slice lo l.length lc,.slice mo m.length mc,.string IA,.string UA] 77 W0):=hid (WSx.start hw HB0.out (by rw[←hW0,←hbx];exact heap_alloc_new _ _) (wh_out hw (by omega)));have HPL:=hid (plain6_any SA b0 n lo l.length lc mo m.length mc IA UA W0);have HW0:=hid hW0;have HBX:=hid hbx;clear hfl hfm hdis hrl hrm hw hbd hd hsz hn hW0 hbx hSA hIA hUA hg hkr;go_enter Tryz.func149,Tryz.ntmps149;go_wp2_with fail;rw[HW0.out];refine HPL.out.mono ?_;rintro e w1 ⟨rfl,hb1⟩;rw[HG2.out];have H1:=hid (H0.out.below hb1);clear hb1;go_wp2_with fail;refine (wv_ask g H1.out.so.wr).mono ?_;intro e w2 hpost;obtain ⟨qs2,P2,rfl,h2⟩:=H1.out.next hpost;have H2:=hid h2;clear hpost h2;have x0:w2.cell? ⟨bx,0,none⟩=some (.int .i64 6):=H2.out.cell (j:=0) rfl;have x1:w2.cell? ⟨bx,1,none⟩=some (.string SA):=H2.out.cell (j:=1) rfl;have x2:w2.cell? ⟨bx,2,none⟩=some (.bool b0):=H2.out.cell (j:=2) rfl;have x3:w2.cell? ⟨bx,3,none⟩=some (.int .u64 n):=H2.out.cell (j:=3) rfl;have x7:w2.cell? ⟨bx,7,none⟩=some (.string UA):=H2.out.cell (j:=7) rfl;have xf:w2.frozen? ⟨bx,3,none⟩=false:=row_thaw H2.out.row 3;rw[HBX.out];have y4:w2.cell? ⟨bx,4,none⟩=some (.slice lo l.length lc):=H2.out.cell (j:=4) rfl;have y5:w2.cell? ⟨bx,5,none⟩=some (.slice mo m.length mc):=H2.out.cell (j:=5) rfl;have y6:w2.cell? ⟨bx,6,none⟩=some (.string IA):=H2.out.cell (j:=6) rfl
 have HQP:Hid (∀ k,Q k∧k<w.heap.size→¬P2 k):=hid (fun k hk hp=>by
  rcases H2.out.so.new k hp with h|h
  ·exact HDIS.out k hk.1 h
  ·omega)
 have HP1:Hid (∀ k,Q k∧k<w.heap.size→¬P k):=hid (fun k hk=>HDIS.out k hk.1);have HR9:=hid (KRels.upd H2.out.so.upd (fun k hk=>HDIS.out k hk.1) (fun k hk=>hk) m mo 0 HRM.out);go_wp2_with fail;refine (kputlist_any m hm 6 (by omega) i p d (ps++qs2) hs (b||!(true&&g)) P2 (fun k=>Q k∧k<w.heap.size) w2 SA b0 n lo l.length lc mo m.length mc IA UA mo mc HIE.out HFM.out HR9.out HQP.out H2.out.so.wr (HBD.out.imp (fun h=>by rw[h];rfl) id) HD.out ?side).mono ?_
 case side =>
  have:=HSZ.out;have:=H2.out.so.len;have:=H2.out.so.size;rw[List.length_append,List.flatten_append,List.length_append];exact ⟨by omega,by omega,by omega⟩
 intro e w6 hpost;obtain ⟨qs6,P6,rfl,h6⟩:=H2.out.next hpost;have H6:=hid h6;clear hpost h6;have z7:w6.cell? ⟨bx,7,none⟩=some (.string UA):=H6.out.cell (j:=7) rfl;go_wp2_with fail;refine (wv_rest UA u vtk 169 H6.out.so.wr HUE.out (by have:=HSZ.out;omega) (by have:=HSZ.out;have:=H6.out.so.len;rw[List.length_append];omega) (by have:=HSZ.out;have:=H6.out.so.size;rw[List.flatten_append,List.length_append];skip;omega) HET.out (fun r w=>vtakes_any r w)).mono ?_;intro e w9 hpost;obtain ⟨qs9,P9,rfl,h9⟩:=H6.out.next hpost;have H9:=hid h9;clear hpost h9 y4 y5 y6 z7 x0 x1 x2 x3 x7 xf;go_wp2_with fail
 go_end0
 refine ((H9.out.done.conv (fun hb=>?_) (fun hb hm=>?_)).le ?_ ?_)
 ·rw[vmay]
  rw[HG.out]
  cases hgg:g with
  | false=>simp
  | true =>
   have h:=HG.out;rw[hgg] at h;unfold vpl at h
   simp only[Bool.and_eq_true,Bool.or_eq_true,decide_eq_true_eq] at h
   have h2:l=[]:=List.eq_nil_of_length_eq_zero (by obtain ⟨⟨⟨_,h2⟩,_⟩,_⟩:=h;omega);rw[h2]
   simp[vmays]
 ·rw[vout]
  simp[vrec]
 ·omega
 ·omega
open Go.RowKit
theorem vput_step (k:Int)(s:List UInt8)(b0:Bool)(n:Nat)(l:List Val)(m:List KV)(i u:List UInt8)(hl:Hid (EachV l))(hm:Hid (EachK m)):PutV (.mk k s b0 n l m i u):=by
 by_cases hk:0≤k∧k≤7
 case neg=>exact vputX k hk s b0 n l m i u
 case pos =>
 rcases (by omega:k=0∨k=1∨k=2∨k=3∨k=4∨k=5∨k=6∨k=7) with rfl|rfl|rfl|rfl|rfl|rfl|rfl|rfl
 ·exact vput0 s b0 n l m i u
 ·exact vput1 s b0 n l m i u
 ·cases b0
  ·exact vput2F s n l m i u
  ·exact vput2T s n l m i u
 ·exact vput3 s b0 n l m i u
 ·exact vput4 s b0 n l m i u
 ·exact vput5 s b0 n l m i u hl
 ·exact vput6 s b0 n l m i u hm
 ·exact vput7 s b0 n l m i u
theorem kput_has (key:List UInt8)(k:Int)(s:List UInt8)(b0:Bool)(n:Nat)(l:List Val)(m:List KV)(i u0 u:List UInt8)(hv:Hid (EachV [.mk k s b0 n l m i u0])):PutK (.mk key true (.mk k s b0 n l m i u0) u):=by
 intro p d ps hs b P Q w cs hfit hr hdis hw hbd hd hsz;rw[KRel] at hr;obtain ⟨cv,hrv,rfl⟩:=hr;have HRV:Hid (VRel w (fun k=>Q k∧k<w.heap.size) (.mk k s b0 n l m i u0) cv):=hid (VRel.lt _ _ hrv);rw[VRel] at hrv;obtain ⟨lo,lc,mo,mc,rfl,_,_⟩:=hrv;rw[kfit] at hfit;obtain ⟨_,_,hfv⟩:=hfit;rw[kb] at hsz ⊢;have HSZ:=hid hsz;have HDIS:=hid hdis;have HFV:=hid hfv;have HBD:=hid hbd;have HD:=hid hd;have HET:=hid (enters_of Tryz.func130 (by kernel_rfl) rfl);obtain ⟨KA,hKA⟩:∃ SA:ByteArray,(⟨key.toArray⟩:ByteArray)=SA:=⟨_,rfl⟩
 obtain ⟨SA,hSA⟩:∃ SA:ByteArray,(⟨s.toArray⟩:ByteArray)=SA:=⟨_,rfl⟩
 obtain ⟨IA,hIA⟩:∃ IA:ByteArray,(⟨i.toArray⟩:ByteArray)=IA:=⟨_,rfl⟩
 obtain ⟨UA,hUA⟩:∃ UA:ByteArray,(⟨u0.toArray⟩:ByteArray)=UA:=⟨_,rfl⟩
 obtain ⟨YA,hYA⟩:∃ YA:ByteArray,(⟨u.toArray⟩:ByteArray)=YA:=⟨_,rfl⟩
 have HKA:Hid (KA.data.toList=key):=hid (by rw[←hKA]);have HSA:Hid (SA.data.toList=s):=hid (by rw[←hSA]);have HIA:Hid (IA.data.toList=i):=hid (by rw[←hIA]);have HUA:Hid (UA.data.toList=u0):=hid (by rw[←hUA]);have HYE:Hid (YA=⟨u.toArray⟩):=hid hYA.symm;unfold strV at HRV ⊢
 rw[hSA,hIA,hUA] at HRV
 show Calls _ _ #[.pointer (some ⟨p,0,none⟩),.agg #[.string ⟨key.toArray⟩,.bool true,.int .i64 k,.string ⟨s.toArray⟩,.bool b0,.int .u64 n,.slice lo l.length lc,.slice mo m.length mc,.string ⟨i.toArray⟩,.string ⟨u0.toArray⟩,.string ⟨u.toArray⟩]] w _
 rw[hKA,hSA,hIA,hUA,hYA];obtain ⟨W0,hW0⟩:∃ W,w.alloc (.cells #[.string KA,.bool true,.int .i64 k,.string SA,.bool b0,.int .u64 n,.slice lo l.length lc,.slice mo m.length mc,.string IA,.string UA,.string YA] 79)=W:=⟨_,rfl⟩
 obtain ⟨bx,hbx⟩:∃ bx,w.heap.size=bx:=⟨_,rfl⟩
 have HB0:Hid (Below w.heap.size w W0):=hid (by rw[←hW0];exact below_new _ _);have HGE:Hid (w.heap.size≤bx):=hid (by omega);have H0:Hid (WSx p d ps hs b P w true [] 0 0 [] P bx #[.string KA,.bool true,.int .i64 k,.string SA,.bool b0,.int .u64 n,.slice lo l.length lc,.slice mo m.length mc,.string IA,.string UA,.string YA] 79 W0):=hid (WSx.start hw HB0.out (by rw[←hW0,←hbx];exact heap_alloc_new _ _) (wh_out hw (by omega)));have HW0:=hid hW0;have HBX:=hid hbx;have HKL:=hid (krec_len key);have x0:W0.cell? ⟨bx,0,none⟩=some (.string KA):=H0.out.cell (j:=0) rfl;clear hfv hdis hw hbd hd hsz hW0 hbx hKA hSA hIA hUA hYA;go_enter Tryz.func103,Tryz.ntmps103;go_wp2_with fail;rw[HW0.out,HBX.out];go_wp2_with fail;refine (wv_text 1 KA key H0.out.so.wr HKA.out (by omega) (by have:=HSZ.out;omega) (by have:=HSZ.out;rw[List.append_nil];omega) (by have:=HSZ.out;rw[List.append_nil];omega)).mono ?_;intro e w2 hpost;obtain ⟨qs2,P2,rfl,h2⟩:=H0.out.next hpost;have H2:=hid h2;clear hpost h2 x0;have x0:w2.cell? ⟨bx,0,none⟩=some (.string KA):=H2.out.cell (j:=0) rfl;have x1:w2.cell? ⟨bx,1,none⟩=some (.bool true):=H2.out.cell (j:=1) rfl;have x2:w2.cell? ⟨bx,2,none⟩=some (.int .i64 k):=H2.out.cell (j:=2) rfl;have x3:w2.cell? ⟨bx,3,none⟩=some (.string SA):=H2.out.cell (j:=3) rfl;have x4:w2.cell? ⟨bx,4,none⟩=some (.bool b0):=H2.out.cell (j:=4) rfl;have x5:w2.cell? ⟨bx,5,none⟩=some (.int .u64 n):=H2.out.cell (j:=5) rfl;have x6:w2.cell? ⟨bx,6,none⟩=some (.slice lo l.length lc):=H2.out.cell (j:=6) rfl;have x7:w2.cell? ⟨bx,7,none⟩=some (.slice mo m.length mc):=H2.out.cell (j:=7) rfl;have x8:w2.cell? ⟨bx,8,none⟩=some (.string IA):=H2.out.cell (j:=8) rfl;have x9:w2.cell? ⟨bx,9,none⟩=some (.string UA):=H2.out.cell (j:=9) rfl;have x10:w2.cell? ⟨bx,10,none⟩=some (.string YA):=H2.out.cell (j:=10) rfl;obtain ⟨W3,hW3⟩:∃ W,w2.alloc (.cells #[.int .i64 k,.string SA,.bool b0,.int .u64 n,.slice lo l.length lc,.slice mo m.length mc,.string IA,.string UA] 77)=W:=⟨_,rfl⟩
 obtain ⟨ba,hba⟩:∃ ba,w2.heap.size=ba:=⟨_,rfl⟩
 have HB3:Hid (Below w2.heap.size w2 W3):=hid (by rw[←hW3];exact below_new _ _);have HA3:Hid (W3.heap[ba]? = some (.cells #[.int .i64 k,.string SA,.bool b0,.int .u64 n,.slice lo l.length lc,.slice mo m.length mc,.string IA,.string UA] 77 (0,0))):=hid (by rw[←hW3,←hba];exact heap_alloc_new _ _);have H3:=hid (H2.out.below HB3.out);have HBA0:Hid (w.heap.size≤ba):=hid (by rw[←hba];exact H2.out.so.upd.size);have HP2:Hid (¬P2 ba):=hid (fun hp=>by have:=(wh_lt H2.out.so.wr ba hp).2;omega);have HV3:Hid (VRel W3 (fun k=>Q k∧k<w.heap.size) (.mk k s b0 n l m i u0) [.int .i64 k,.string SA,.bool b0,.int .u64 n,.slice lo l.length lc,.slice mo m.length mc,.string IA,.string UA]):=hid ((VRel.upd H2.out.so.upd (fun k hk=>HDIS.out k hk.1) (fun k hk=>hk) _ _ HRV.out).below HB3.out)
 have HL3:Hid (VRels W3 (fun k=>Q k∧k<w.heap.size∨k=ba) [.mk k s b0 n l m i u0] (some ⟨ba,0,none⟩) 0):=hid (by
  rw[VRels,VRels];refine ⟨⟨ba,0,[.int .i64 k,.string SA,.bool b0,.int .u64 n,.slice lo l.length lc,.slice mo m.length mc,.string IA,.string UA],rfl,.inr rfl,row_lt HA3.out,fun j hj=>?_,VRel.upd (Upd.refl (fun _=>False) W3) (fun _ _ h=>h) (fun k hk => .inl hk) _ _ HV3.out⟩,trivial⟩;exact row_cell HA3.out (by simp[List.getElem?_eq_getElem hj]))
 have HDQ:Hid (∀ k,Q k∧k<w.heap.size∨k=ba→¬P2 k):=hid (fun k hk hp=>by
  rcases hk with hk|rfl
  ·rcases H2.out.so.new k hp with h|h
   ·exact HDIS.out k hk.1 h
   ·omega
  ·exact HP2.out hp)
 have HW3:=hid hW3;have HBAE:=hid hba;clear hW3 hba;go_wp2_with fail;rw[HW3.out,HBAE.out];refine (hv.out p d (ps++qs2) hs (b||!(true&&uvalid key)) P2 (fun k=>Q k∧k<w.heap.size∨k=ba) W3 2 (some ⟨ba,0,none⟩) 1 (by rw[vsfit,vsfit];exact ⟨HFV.out,trivial⟩) HL3.out HDQ.out H3.out.so.wr (HBD.out.imp (fun h=>by rw[h];rfl) id) HD.out (by omega) ?side).mono ?_
 case side =>
  have:=HSZ.out;have:=H2.out.so.len;have:=H2.out.so.size;have:=HKL.out;rw[List.length_append,List.flatten_append,List.length_append,vsw_one];exact ⟨by omega,by omega,by omega⟩
 intro e w6 hpost;rw[vsw_one] at hpost;obtain ⟨qs6,P6,rfl,h6⟩:=H3.out.next hpost;have H6:=hid h6;clear hpost h6 x0 x1 x2 x3 x4 x5 x6 x7 x8 x9 x10;have z:w6.cell? ⟨bx,10,none⟩=some (.string YA):=H6.out.cell (j:=10) rfl;go_wp2_with fail;refine (wv_rest YA u ktk 130 H6.out.so.wr HYE.out (by have:=HSZ.out;omega) (by have:=HSZ.out;have:=H6.out.so.len;have:=HKL.out;rw[List.length_append];omega) (by have:=HSZ.out;have:=H6.out.so.size;have:=HKL.out;rw[List.flatten_append,List.length_append];omega) HET.out (fun r w=>ktakes_any r w)).mono ?_;intro e w9 hpost;obtain ⟨qs9,P9,rfl,h9⟩:=H6.out.next hpost;have H9:=hid h9;clear hpost h9 z;go_wp2_with fail
 go_end0
 refine ((H9.out.done.conv (fun hb=>?_) (fun hb hm=>?_)).le ?_ ?_)
 ·rw[kmay]
  rw[vmays_one]
  simp
 ·rw[kout,krec_parts]
  rw[vouts_one]
  simp
 ·have:=HKL.out;skip;omega
 ·have:=HKL.out;skip;omega
theorem kput_kind (key:List UInt8)(k:Int)(s:List UInt8)(b0:Bool)(n:Nat)(l:List Val)(m:List KV)(i u0 u:List UInt8)(hk:k≠0):PutK (.mk key false (.mk k s b0 n l m i u0) u):=by
 intro p d ps hs b P Q w cs hfit hr hdis hw hbd hd hsz;rw[KRel] at hr;obtain ⟨cv,hrv,rfl⟩:=hr;have HRV:Hid (VRel w (fun k=>Q k∧k<w.heap.size) (.mk k s b0 n l m i u0) cv):=hid (VRel.lt _ _ hrv);rw[VRel] at hrv;obtain ⟨lo,lc,mo,mc,rfl,_,_⟩:=hrv;rw[kfit] at hfit;obtain ⟨_,_,hfv⟩:=hfit;rw[kb] at hsz ⊢;have HSZ:=hid hsz;have HDIS:=hid hdis;have HFV:=hid hfv;have HBD:=hid hbd;have HD:=hid hd;have HET:=hid (enters_of Tryz.func130 (by kernel_rfl) rfl);obtain ⟨KA,hKA⟩:∃ SA:ByteArray,(⟨key.toArray⟩:ByteArray)=SA:=⟨_,rfl⟩
 obtain ⟨SA,hSA⟩:∃ SA:ByteArray,(⟨s.toArray⟩:ByteArray)=SA:=⟨_,rfl⟩
 obtain ⟨IA,hIA⟩:∃ IA:ByteArray,(⟨i.toArray⟩:ByteArray)=IA:=⟨_,rfl⟩
 obtain ⟨UA,hUA⟩:∃ UA:ByteArray,(⟨u0.toArray⟩:ByteArray)=UA:=⟨_,rfl⟩
 obtain ⟨YA,hYA⟩:∃ YA:ByteArray,(⟨u.toArray⟩:ByteArray)=YA:=⟨_,rfl⟩
 have HKA:Hid (KA.data.toList=key):=hid (by rw[←hKA]);have HSA:Hid (SA.data.toList=s):=hid (by rw[←hSA]);have HIA:Hid (IA.data.toList=i):=hid (by rw[←hIA]);have HUA:Hid (UA.data.toList=u0):=hid (by rw[←hUA]);have HYE:Hid (YA=⟨u.toArray⟩):=hid hYA.symm;unfold strV at HRV ⊢
 rw[hSA,hIA,hUA] at HRV
 show Calls _ _ #[.pointer (some ⟨p,0,none⟩),.agg #[.string ⟨key.toArray⟩,.bool false,.int .i64 k,.string ⟨s.toArray⟩,.bool b0,.int .u64 n,.slice lo l.length lc,.slice mo m.length mc,.string ⟨i.toArray⟩,.string ⟨u0.toArray⟩,.string ⟨u.toArray⟩]] w _
 rw[hKA,hSA,hIA,hUA,hYA];obtain ⟨W0,hW0⟩:∃ W,w.alloc (.cells #[.string KA,.bool false,.int .i64 k,.string SA,.bool b0,.int .u64 n,.slice lo l.length lc,.slice mo m.length mc,.string IA,.string UA,.string YA] 79)=W:=⟨_,rfl⟩
 obtain ⟨bx,hbx⟩:∃ bx,w.heap.size=bx:=⟨_,rfl⟩
 have HB0:Hid (Below w.heap.size w W0):=hid (by rw[←hW0];exact below_new _ _);have HGE:Hid (w.heap.size≤bx):=hid (by omega);have H0:Hid (WSx p d ps hs b P w true [] 0 0 [] P bx #[.string KA,.bool false,.int .i64 k,.string SA,.bool b0,.int .u64 n,.slice lo l.length lc,.slice mo m.length mc,.string IA,.string UA,.string YA] 79 W0):=hid (WSx.start hw HB0.out (by rw[←hW0,←hbx];exact heap_alloc_new _ _) (wh_out hw (by omega)));have HW0:=hid hW0;have HBX:=hid hbx;have HKL:=hid (krec_len key);have x0:W0.cell? ⟨bx,0,none⟩=some (.string KA):=H0.out.cell (j:=0) rfl;clear hfv hdis hw hbd hd hsz hW0 hbx hKA hSA hIA hUA hYA;go_enter Tryz.func103,Tryz.ntmps103;go_wp2_with fail;rw[HW0.out,HBX.out];go_wp2_with fail;refine (wv_text 1 KA key H0.out.so.wr HKA.out (by omega) (by have:=HSZ.out;omega) (by have:=HSZ.out;rw[List.append_nil];omega) (by have:=HSZ.out;rw[List.append_nil];omega)).mono ?_;intro e w2 hpost;obtain ⟨qs2,P2,rfl,h2⟩:=H0.out.next hpost;have H2:=hid h2;clear hpost h2 x0;have x0:w2.cell? ⟨bx,0,none⟩=some (.string KA):=H2.out.cell (j:=0) rfl;have x1:w2.cell? ⟨bx,1,none⟩=some (.bool false):=H2.out.cell (j:=1) rfl;have x2:w2.cell? ⟨bx,2,none⟩=some (.int .i64 k):=H2.out.cell (j:=2) rfl;have x3:w2.cell? ⟨bx,3,none⟩=some (.string SA):=H2.out.cell (j:=3) rfl;have x4:w2.cell? ⟨bx,4,none⟩=some (.bool b0):=H2.out.cell (j:=4) rfl;have x5:w2.cell? ⟨bx,5,none⟩=some (.int .u64 n):=H2.out.cell (j:=5) rfl;have x6:w2.cell? ⟨bx,6,none⟩=some (.slice lo l.length lc):=H2.out.cell (j:=6) rfl;have x7:w2.cell? ⟨bx,7,none⟩=some (.slice mo m.length mc):=H2.out.cell (j:=7) rfl;have x8:w2.cell? ⟨bx,8,none⟩=some (.string IA):=H2.out.cell (j:=8) rfl;have x9:w2.cell? ⟨bx,9,none⟩=some (.string UA):=H2.out.cell (j:=9) rfl;have x10:w2.cell? ⟨bx,10,none⟩=some (.string YA):=H2.out.cell (j:=10) rfl;have HNO:Hid (vnone (.mk k s b0 n l m i u0)=false):=hid (by rw[vnone];simp[hk]);have d1:(k == 0)=false:=by rw[beq_eq_false_iff_ne];exact hk
 clear hk;go_wp2_with fail;refine (wv_ask false H2.out.so.wr).mono ?_;intro e w6 hpost;obtain ⟨qs6,P6,rfl,h6⟩:=H2.out.next hpost;have H6:=hid h6;clear hpost h6;have z:w6.cell? ⟨bx,10,none⟩=some (.string YA):=H6.out.cell (j:=10) rfl;clear x0 x1 x2 x3 x4 x5 x6 x7 x8 x9 x10;go_wp2_with fail;refine (wv_rest YA u ktk 130 H6.out.so.wr HYE.out (by have:=HSZ.out;omega) (by have:=HSZ.out;have:=H6.out.so.len;have:=HKL.out;rw[List.length_append];omega) (by have:=HSZ.out;have:=H6.out.so.size;have:=HKL.out;rw[List.flatten_append,List.length_append];omega) HET.out (fun r w=>ktakes_any r w)).mono ?_;intro e w9 hpost;obtain ⟨qs9,P9,rfl,h9⟩:=H6.out.next hpost;have H9:=hid h9;clear hpost h9 z;go_wp2_with fail
 go_end0
 refine ((H9.out.done.conv (fun hb=>?_) (fun hb hm=>?_)).le ?_ ?_)
 ·rw[kmay]
  rw[HNO.out]
  simp
 ·rw[kout,krec_parts]
  simp
 ·have:=HKL.out;skip;omega
 ·have:=HKL.out;skip;omega
theorem kput_unk (key s:List UInt8)(b0:Bool)(n:Nat)(l:List Val)(m:List KV)(i u0 u:List UInt8)(hu:u0≠[]):PutK (.mk key false (.mk 0 s b0 n l m i u0) u):=by
 intro p d ps hs b P Q w cs hfit hr hdis hw hbd hd hsz;rw[KRel] at hr;obtain ⟨cv,hrv,rfl⟩:=hr;have HRV:Hid (VRel w (fun k=>Q k∧k<w.heap.size) (.mk 0 s b0 n l m i u0) cv):=hid (VRel.lt _ _ hrv);rw[VRel] at hrv;obtain ⟨lo,lc,mo,mc,rfl,_,_⟩:=hrv;rw[kfit] at hfit;obtain ⟨_,_,hfv⟩:=hfit;rw[kb] at hsz ⊢;have HSZ:=hid hsz;have HDIS:=hid hdis;have HFV:=hid hfv;have HBD:=hid hbd;have HD:=hid hd;have HET:=hid (enters_of Tryz.func130 (by kernel_rfl) rfl);obtain ⟨KA,hKA⟩:∃ SA:ByteArray,(⟨key.toArray⟩:ByteArray)=SA:=⟨_,rfl⟩
 obtain ⟨SA,hSA⟩:∃ SA:ByteArray,(⟨s.toArray⟩:ByteArray)=SA:=⟨_,rfl⟩
 obtain ⟨IA,hIA⟩:∃ IA:ByteArray,(⟨i.toArray⟩:ByteArray)=IA:=⟨_,rfl⟩
 obtain ⟨UA,hUA⟩:∃ UA:ByteArray,(⟨u0.toArray⟩:ByteArray)=UA:=⟨_,rfl⟩
 obtain ⟨YA,hYA⟩:∃ YA:ByteArray,(⟨u.toArray⟩:ByteArray)=YA:=⟨_,rfl⟩
 have HKA:Hid (KA.data.toList=key):=hid (by rw[←hKA]);have HSA:Hid (SA.data.toList=s):=hid (by rw[←hSA]);have HIA:Hid (IA.data.toList=i):=hid (by rw[←hIA]);have HUA:Hid (UA.data.toList=u0):=hid (by rw[←hUA]);have HYE:Hid (YA=⟨u.toArray⟩):=hid hYA.symm;unfold strV at HRV ⊢
 rw[hSA,hIA,hUA] at HRV
 show Calls _ _ #[.pointer (some ⟨p,0,none⟩),.agg #[.string ⟨key.toArray⟩,.bool false,.int .i64 0,.string ⟨s.toArray⟩,.bool b0,.int .u64 n,.slice lo l.length lc,.slice mo m.length mc,.string ⟨i.toArray⟩,.string ⟨u0.toArray⟩,.string ⟨u.toArray⟩]] w _
 rw[hKA,hSA,hIA,hUA,hYA];obtain ⟨W0,hW0⟩:∃ W,w.alloc (.cells #[.string KA,.bool false,.int .i64 0,.string SA,.bool b0,.int .u64 n,.slice lo l.length lc,.slice mo m.length mc,.string IA,.string UA,.string YA] 79)=W:=⟨_,rfl⟩
 obtain ⟨bx,hbx⟩:∃ bx,w.heap.size=bx:=⟨_,rfl⟩
 have HB0:Hid (Below w.heap.size w W0):=hid (by rw[←hW0];exact below_new _ _);have HGE:Hid (w.heap.size≤bx):=hid (by omega);have H0:Hid (WSx p d ps hs b P w true [] 0 0 [] P bx #[.string KA,.bool false,.int .i64 0,.string SA,.bool b0,.int .u64 n,.slice lo l.length lc,.slice mo m.length mc,.string IA,.string UA,.string YA] 79 W0):=hid (WSx.start hw HB0.out (by rw[←hW0,←hbx];exact heap_alloc_new _ _) (wh_out hw (by omega)));have HW0:=hid hW0;have HBX:=hid hbx;have HKL:=hid (krec_len key);have x0:W0.cell? ⟨bx,0,none⟩=some (.string KA):=H0.out.cell (j:=0) rfl;clear hfv hdis hw hbd hd hsz hW0 hbx hKA hSA hIA hUA hYA;go_enter Tryz.func103,Tryz.ntmps103;go_wp2_with fail;rw[HW0.out,HBX.out];go_wp2_with fail;refine (wv_text 1 KA key H0.out.so.wr HKA.out (by omega) (by have:=HSZ.out;omega) (by have:=HSZ.out;rw[List.append_nil];omega) (by have:=HSZ.out;rw[List.append_nil];omega)).mono ?_;intro e w2 hpost;obtain ⟨qs2,P2,rfl,h2⟩:=H0.out.next hpost;have H2:=hid h2;clear hpost h2 x0;have x0:w2.cell? ⟨bx,0,none⟩=some (.string KA):=H2.out.cell (j:=0) rfl;have x1:w2.cell? ⟨bx,1,none⟩=some (.bool false):=H2.out.cell (j:=1) rfl;have x2:w2.cell? ⟨bx,2,none⟩=some (.int .i64 0):=H2.out.cell (j:=2) rfl;have x3:w2.cell? ⟨bx,3,none⟩=some (.string SA):=H2.out.cell (j:=3) rfl;have x4:w2.cell? ⟨bx,4,none⟩=some (.bool b0):=H2.out.cell (j:=4) rfl;have x5:w2.cell? ⟨bx,5,none⟩=some (.int .u64 n):=H2.out.cell (j:=5) rfl;have x6:w2.cell? ⟨bx,6,none⟩=some (.slice lo l.length lc):=H2.out.cell (j:=6) rfl;have x7:w2.cell? ⟨bx,7,none⟩=some (.slice mo m.length mc):=H2.out.cell (j:=7) rfl;have x8:w2.cell? ⟨bx,8,none⟩=some (.string IA):=H2.out.cell (j:=8) rfl;have x9:w2.cell? ⟨bx,9,none⟩=some (.string UA):=H2.out.cell (j:=9) rfl;have x10:w2.cell? ⟨bx,10,none⟩=some (.string YA):=H2.out.cell (j:=10) rfl;have HNO:Hid (vnone (.mk 0 s b0 n l m i u0)=false):=hid (by rw[vnone];simp[hu]);obtain ⟨d1,d2,d3,d4⟩:=text_not (X:=UA) (by rw[HUA.out];exact hu);clear hu;go_wp2_with fail;refine (wv_ask false H2.out.so.wr).mono ?_;intro e w6 hpost;obtain ⟨qs6,P6,rfl,h6⟩:=H2.out.next hpost;have H6:=hid h6;clear hpost h6;have z:w6.cell? ⟨bx,10,none⟩=some (.string YA):=H6.out.cell (j:=10) rfl;clear x0 x1 x2 x3 x4 x5 x6 x7 x8 x9 x10;go_wp2_with fail;refine (wv_rest YA u ktk 130 H6.out.so.wr HYE.out (by have:=HSZ.out;omega) (by have:=HSZ.out;have:=H6.out.so.len;have:=HKL.out;rw[List.length_append];omega) (by have:=HSZ.out;have:=H6.out.so.size;have:=HKL.out;rw[List.flatten_append,List.length_append];omega) HET.out (fun r w=>ktakes_any r w)).mono ?_;intro e w9 hpost;obtain ⟨qs9,P9,rfl,h9⟩:=H6.out.next hpost;have H9:=hid h9;clear hpost h9 z;go_wp2_with fail
 go_end0
 refine ((H9.out.done.conv (fun hb=>?_) (fun hb hm=>?_)).le ?_ ?_)
 ·rw[kmay]
  rw[HNO.out]
  simp
 ·rw[kout,krec_parts]
  simp
 ·have:=HKL.out;skip;omega
 ·have:=HKL.out;skip;omega
theorem kput_plain (key:List UInt8) (s:List UInt8) (b0:Bool) (n:Nat) (l:List Val) (m:List KV) (i u:List UInt8)  : PutK (.mk key false (.mk 0 s b0 n l m i []) u):=by
 intro p d ps hs b P Q w cs hfit hr hdis hw hbd hd hsz;rw[KRel] at hr;obtain ⟨cv,hrv,rfl⟩:=hr;have HRV:Hid (VRel w (fun k=>Q k∧k<w.heap.size) (.mk 0 s b0 n l m i []) cv):=hid (VRel.lt _ _ hrv);rw[VRel] at hrv;obtain ⟨lo,lc,mo,mc,rfl,_,_⟩:=hrv;rw[kfit] at hfit;obtain ⟨_,_,hfv⟩:=hfit;rw[kb] at hsz ⊢;have HSZ:=hid hsz;have HDIS:=hid hdis;have HFV:=hid hfv;have HBD:=hid hbd;have HD:=hid hd;have HET:=hid (enters_of Tryz.func130 (by kernel_rfl) rfl);obtain ⟨KA,hKA⟩:∃ SA:ByteArray,(⟨key.toArray⟩:ByteArray)=SA:=⟨_,rfl⟩
 obtain ⟨SA,hSA⟩:∃ SA:ByteArray,(⟨s.toArray⟩:ByteArray)=SA:=⟨_,rfl⟩
 obtain ⟨IA,hIA⟩:∃ IA:ByteArray,(⟨i.toArray⟩:ByteArray)=IA:=⟨_,rfl⟩
 obtain ⟨UA,hUA⟩:∃ UA:ByteArray,(⟨([]:List UInt8).toArray⟩:ByteArray)=UA:=⟨_,rfl⟩
 obtain ⟨YA,hYA⟩:∃ YA:ByteArray,(⟨u.toArray⟩:ByteArray)=YA:=⟨_,rfl⟩
 have HKA:Hid (KA.data.toList=key):=hid (by rw[←hKA]);have HSA:Hid (SA.data.toList=s):=hid (by rw[←hSA]);have HIA:Hid (IA.data.toList=i):=hid (by rw[←hIA]);have HUA:Hid (UA.data.toList=[]):=hid (by rw[←hUA]);have HYE:Hid (YA=⟨u.toArray⟩):=hid hYA.symm;unfold strV at HRV ⊢
 rw[hSA,hIA,hUA] at HRV
 show Calls _ _ #[.pointer (some ⟨p,0,none⟩),.agg #[.string ⟨key.toArray⟩,.bool false,.int .i64 0,.string ⟨s.toArray⟩,.bool b0,.int .u64 n,.slice lo l.length lc,.slice mo m.length mc,.string ⟨i.toArray⟩,.string ⟨([]:List UInt8).toArray⟩,.string ⟨u.toArray⟩]] w _
 rw[hKA,hSA,hIA,hUA,hYA];obtain ⟨W0,hW0⟩:∃ W,w.alloc (.cells #[.string KA,.bool false,.int .i64 0,.string SA,.bool b0,.int .u64 n,.slice lo l.length lc,.slice mo m.length mc,.string IA,.string UA,.string YA] 79)=W:=⟨_,rfl⟩
 obtain ⟨bx,hbx⟩:∃ bx,w.heap.size=bx:=⟨_,rfl⟩
 have HB0:Hid (Below w.heap.size w W0):=hid (by rw[←hW0];exact below_new _ _);have HGE:Hid (w.heap.size≤bx):=hid (by omega);have H0:Hid (WSx p d ps hs b P w true [] 0 0 [] P bx #[.string KA,.bool false,.int .i64 0,.string SA,.bool b0,.int .u64 n,.slice lo l.length lc,.slice mo m.length mc,.string IA,.string UA,.string YA] 79 W0):=hid (WSx.start hw HB0.out (by rw[←hW0,←hbx];exact heap_alloc_new _ _) (wh_out hw (by omega)));have HW0:=hid hW0;have HBX:=hid hbx;have HKL:=hid (krec_len key);have x0:W0.cell? ⟨bx,0,none⟩=some (.string KA):=H0.out.cell (j:=0) rfl;clear hfv hdis hw hbd hd hsz hW0 hbx hKA hSA hIA hUA hYA;go_enter Tryz.func103,Tryz.ntmps103;go_wp2_with fail;rw[HW0.out,HBX.out];go_wp2_with fail;refine (wv_text 1 KA key H0.out.so.wr HKA.out (by omega) (by have:=HSZ.out;omega) (by have:=HSZ.out;rw[List.append_nil];omega) (by have:=HSZ.out;rw[List.append_nil];omega)).mono ?_;intro e w2 hpost;obtain ⟨qs2,P2,rfl,h2⟩:=H0.out.next hpost;have H2:=hid h2;clear hpost h2 x0;have x0:w2.cell? ⟨bx,0,none⟩=some (.string KA):=H2.out.cell (j:=0) rfl;have x1:w2.cell? ⟨bx,1,none⟩=some (.bool false):=H2.out.cell (j:=1) rfl;have x2:w2.cell? ⟨bx,2,none⟩=some (.int .i64 0):=H2.out.cell (j:=2) rfl;have x3:w2.cell? ⟨bx,3,none⟩=some (.string SA):=H2.out.cell (j:=3) rfl;have x4:w2.cell? ⟨bx,4,none⟩=some (.bool b0):=H2.out.cell (j:=4) rfl;have x5:w2.cell? ⟨bx,5,none⟩=some (.int .u64 n):=H2.out.cell (j:=5) rfl;have x6:w2.cell? ⟨bx,6,none⟩=some (.slice lo l.length lc):=H2.out.cell (j:=6) rfl;have x7:w2.cell? ⟨bx,7,none⟩=some (.slice mo m.length mc):=H2.out.cell (j:=7) rfl;have x8:w2.cell? ⟨bx,8,none⟩=some (.string IA):=H2.out.cell (j:=8) rfl;have x9:w2.cell? ⟨bx,9,none⟩=some (.string UA):=H2.out.cell (j:=9) rfl;have x10:w2.cell? ⟨bx,10,none⟩=some (.string YA):=H2.out.cell (j:=10) rfl;have HNO:Hid (vnone (.mk 0 s b0 n l m i [])=vpl 0 s.isEmpty b0 n l.length m.length i.isEmpty):=hid (by rw[vnone];simp);have HG:Hid (vpl 0 SA.data.toList.isEmpty b0 n l.length m.length IA.data.toList.isEmpty=vpl 0 s.isEmpty b0 n l.length m.length i.isEmpty):=hid (by rw[HSA.out,HIA.out]);obtain ⟨g,hg⟩:∃ g,vpl 0 s.isEmpty b0 n l.length m.length i.isEmpty=g:=⟨_,rfl⟩
 rw[hg] at HG HNO;clear hg;obtain rfl:=empty_ba (X:=UA) HUA.out;go_wp2_with fail;refine (plain0_any SA b0 n lo l.length lc mo m.length mc IA ⟨#[]⟩ w2).mono ?_;rintro e w3 ⟨rfl,hb3⟩;rw[HG.out];have H3:=hid (H2.out.below hb3);clear hb3;go_wp2_with fail;refine (wv_ask g H3.out.so.wr).mono ?_;intro e w6 hpost;obtain ⟨qs6,P6,rfl,h6⟩:=H3.out.next hpost;have H6:=hid h6;clear hpost h6;have z:w6.cell? ⟨bx,10,none⟩=some (.string YA):=H6.out.cell (j:=10) rfl;clear x0 x1 x2 x3 x4 x5 x6 x7 x8 x9 x10;go_wp2_with fail;refine (wv_rest YA u ktk 130 H6.out.so.wr HYE.out (by have:=HSZ.out;omega) (by have:=HSZ.out;have:=H6.out.so.len;have:=HKL.out;rw[List.length_append];omega) (by have:=HSZ.out;have:=H6.out.so.size;have:=HKL.out;rw[List.flatten_append,List.length_append];omega) HET.out (fun r w=>ktakes_any r w)).mono ?_;intro e w9 hpost;obtain ⟨qs9,P9,rfl,h9⟩:=H6.out.next hpost;have H9:=hid h9;clear hpost h9 z;go_wp2_with fail
 go_end0
 refine ((H9.out.done.conv (fun hb=>?_) (fun hb hm=>?_)).le ?_ ?_)
 ·rw[kmay]
  rw[HNO.out]
  simp
 ·rw[kout,krec_parts]
  simp
 ·have:=HKL.out;skip;omega
 ·have:=HKL.out;skip;omega
theorem kput_step (key:List UInt8)(has:Bool)(v:Val)(u:List UInt8)(hv:Hid (EachV [v])):PutK (.mk key has v u):=by
 cases v with|mk k s b0 n l m i u0 =>
 cases has with
 | true=>exact kput_has key k s b0 n l m i u0 u hv
 | false =>
  by_cases hk:k=0
  case neg=>exact kput_kind key k s b0 n l m i u0 u hk
  case pos =>
  subst hk
  by_cases hu:u0=[]
  case neg=>exact kput_unk key s b0 n l m i u0 u hu
  case pos =>
  subst hu;exact kput_plain key s b0 n l m i u
theorem put_all:∀ n:Nat,(∀ x:Val,SizeOf.sizeOf x<n→PutV x)∧(∀ x:KV,SizeOf.sizeOf x<n→PutK x)
 | 0=>⟨fun _ h=>by omega,fun _ h=>by omega⟩
 | n+1=>by
  obtain ⟨i1,i2⟩:=put_all n;refine ⟨fun x h=>?_,fun x h=>?_⟩
  ·cases x with|mk k s b n0 l m i u =>
   simp only[Val.mk.sizeOf_spec] at h
   exact vput_step k s b n0 l m i u (hid (veach_step l (hid fun x hx=>i1 x (by have:=List.sizeOf_lt_of_mem hx;omega)))) (hid (keach_step m (hid fun x hx=>i2 x (by have:=List.sizeOf_lt_of_mem hx;omega))))
  ·cases x with|mk key has v u =>
   simp only[KV.mk.sizeOf_spec] at h
   exact kput_step key has v u (hid (veach_step [v] (hid fun x hx=>by rw[List.mem_singleton.1 hx];exact i1 v (by omega))))
theorem putk_any (x:KV):PutK x:=(put_all (SizeOf.sizeOf x+1)).2 x (by omega)
open Go.RowKit
theorem wgr_enough:∀ (f:Nat) {l:List UInt8} {st:List Nat} {d d':Int} {k:Nat},(st.length:Int)+(l.length:Int)≤d'→wgr f l st d = .ok k→wgr f l st d' = .ok k
 | 0,_,_,_,_,_,_,h=>by cases h
 | f + 1,l,st,d,d',k,hd,h=>by
  rw[wgr] at h ⊢
  split at h
  ·rename_i h0
   rw[if_pos h0];exact h
  ·rename_i h0
   rw[if_neg h0]
   split at h
   ·cases h
   ·rename_i h1
    rw[if_neg (by omega)]
    cases hh:whd l with
    | error c=>rw[hh] at h;cases h
    | ok x =>
     obtain ⟨num,ty,j⟩:=x;have hb:=whd_bounds hh;rw[hh] at h;dsimp only at h ⊢
     split at h
     ·rename_i h3
      rw[if_pos h3];obtain ⟨i,hi,rfl⟩:=wadd_ok h;rw[wgr_enough f (by rw[List.length_cons,List.length_drop];omega) hi];rfl
     ·rename_i h3
      rw[if_neg h3]
      split at h
      ·rename_i h4
       rw[if_pos h4]
       split at h
       ·rename_i h5
        rw[if_pos h5];obtain ⟨i,hi,rfl⟩:=wadd_ok h;rw[wgr_enough f (by rw[List.length_tail,List.length_drop];omega) hi];rfl
       ·cases h
      ·rename_i h4
       rw[if_neg h4]
       cases hbd:wbd (l.drop j) ty with
       | error c=>rw[hbd] at h;cases h
       | ok y =>
        obtain ⟨n,s,m⟩:=y;rw[hbd] at h;dsimp only at h ⊢;obtain ⟨i,hi,rfl⟩:=wadd_ok h;rw[wgr_enough f (by rw[List.length_drop];omega) hi];rfl
theorem wnx_enough {l:List UInt8}{d d':Int}{x:Rec × Nat}(hd:(l.length:Int)≤d')(h:wnx l d = .ok x):wnx l d' = .ok x:=by
 unfold wnx at h ⊢
 cases hh:whd l with
 | error c=>rw[hh] at h;cases h
 | ok y =>
  obtain ⟨num,ty,j⟩:=y;have hb:=whd_bounds hh;rw[hh] at h;dsimp only at h ⊢
  split at h
  ·cases h
  ·rename_i h4
   rw[if_neg h4]
   split at h
   ·rename_i h3
    rw[if_pos h3]
    cases hg:wgroup (l.drop j) [num] d with
    | error c=>rw[hg] at h;cases h
    | ok k =>
     rw[hg] at h;have e:wgroup (l.drop j) [num] d' = .ok k:=wgr_enough _ (by rw[List.length_drop];simp only[List.length_cons,List.length_nil];omega) hg;rw[e];exact h
   ·rename_i h3
    rw[if_neg h3];exact h
theorem wall_enough:∀ (n:Nat) {l:List UInt8} {d d':Int} {rs:List Rec},(l.length:Int)≤d'→l.length≤n→wall l d = .ok rs→wall l d' = .ok rs
 | n,l,d,d',rs,hd,hn,h=>by
  rcases wall_inv h with ⟨rfl,rfl⟩|⟨r,q,ks,h1,h2,rfl,h4,h5,h6⟩
  ·rfl
  ·match n,hn with
   | 0,hn=>omega
   | n+1,hn =>
    rw[wall_cons (wnx_enough hd h1),wall_enough n (by rw[List.length_drop];omega) (by rw[List.length_drop];omega) h2]
theorem munkOk_enough {tk:Rec→Bool}{l:List UInt8}{d d':Int}(hd:(l.length:Int)≤d')(h:munkOk tk l d=true):munkOk tk l d'=true:=by
 unfold munkOk at h ⊢
 cases hw:wall l d with
 | error c=>rw[hw] at h;cases h
 | ok rs =>
  rw[hw] at h;rw[wall_enough _ hd (Nat.le_refl _) hw];exact h
open Go.RowKit
theorem wv_ends {p:Nat}{d:Int}{b:Bool}{P:Nat→Prop}{w:World}{may:Bool}{t:List UInt8}{nl nf:Nat}{e:Ending}{w':World}(h:WvPost p d [] [] b P w may t nl nf e w'):e = .returned (.tuple #[])∧Upd P w w'∧∃ vo P0 qs,WrAt p d vo qs (b||!may) P0 w'∧((b||!may)=false→qs.flatten=t)∧qs.length≤nl∧qs.flatten.length≤nf:=by
 obtain ⟨qs,⟨h1,h2,P',⟨vo,P0,h3,_⟩,_⟩,h5,h6,h7⟩:=h;exact ⟨h1,h2,vo,P0,qs,h3,h5,h6,h7⟩
mutual
theorem vmay_enough:∀ (x:Val) (d d':Int),vmay x d=true→(vw x:Int)≤d'+20→vmay x d'=true
 | .mk k s b n l m i u,d,d',h,hd=>by
  rw[vmay] at h ⊢;rw[vw] at hd
  simp only[Bool.and_eq_true,Bool.or_eq_true,decide_eq_true_eq,Bool.not_eq_true',decide_eq_false_iff_not] at h ⊢
  obtain ⟨⟨⟨h1,h2⟩,h3⟩,h4⟩:=h;refine ⟨⟨⟨h1,h2⟩,?_⟩,munkOk_enough (by omega) h4⟩
  rcases h3 with h3|⟨h5,⟨h6,h7⟩,h8⟩
  ·exact .inl h3
  ·exact .inr ⟨by omega,⟨vmays_enough l _ _ h6 (by omega),kmays_enough m _ _ h7 (by omega)⟩,munkOk_enough (by omega) h8⟩
theorem kmay_enough:∀ (x:KV) (d d':Int),kmay x d=true→(kw x:Int)≤d'+20→kmay x d'=true
 | .mk key has v u,d,d',h,hd=>by
  rw[kmay] at h ⊢;rw[kw] at hd
  simp only[Bool.and_eq_true] at h ⊢
  obtain ⟨⟨h1,h2⟩,h3⟩:=h;refine ⟨⟨h1,?_⟩,munkOk_enough (by omega) h3⟩
  cases has with
  | false=>exact h2
  | true =>
   simp only[if_true,Bool.and_eq_true,decide_eq_true_eq] at h2 ⊢
   exact ⟨by omega,vmay_enough v _ _ h2.2 (by omega)⟩
theorem vmays_enough:∀ (l:List Val) (d d':Int),vmays l d=true→(vsw l:Int)≤d'→vmays l d'=true
 | [],d,d',_,_=>by rw[vmays]
 | x::xs,d,d',h,hd=>by
  rw[vmays] at h ⊢;rw[vsw] at hd;have:=vw_vb x
  simp only[Bool.and_eq_true,decide_eq_true_eq] at h ⊢
  exact ⟨⟨by omega,vmay_enough x _ _ h.1.2 (by omega)⟩,vmays_enough xs _ _ h.2 (by omega)⟩
theorem kmays_enough:∀ (l:List KV) (d d':Int),kmays l d=true→(ksw l:Int)≤d'→kmays l d'=true
 | [],d,d',_,_=>by rw[kmays]
 | x::xs,d,d',h,hd=>by
  rw[kmays] at h ⊢;rw[ksw] at hd;have:=kw_kb x
  simp only[Bool.and_eq_true,decide_eq_true_eq] at h ⊢
  exact ⟨⟨by omega,kmay_enough x _ _ h.1.2 (by omega)⟩,kmays_enough xs _ _ h.2 (by omega)⟩
end
theorem kmarshal_any (x:KV)(cs:List Value)(Q:Nat→Prop)(d:Int)(w:World)(hf:kfit x)(hr:KRel w Q x cs)(hd:-9223372036854775808≤d∧d≤9223372036854775807)(hsz:kw x≤400000) :
  Calls Tryz.prog 51 #[.agg cs.toArray,.int .i64 d] w (MarPost (kmayD x d) (kout x) w):=by
 have HR:=hid (KRel.lt x cs hr);have HF:=hid hf;have HD:=hid hd;have hvb:kb x≤400000:=by have:=kw_kb x;omega
 have HVB:=hid hvb;obtain ⟨K0,h0,k1,S1,b1,n1,l1,ln1,lc1,m1,mn1,mc1,I1,U1,Y1,rfl⟩:=hr.form;obtain ⟨W0,hW0⟩:∃ W,w.alloc (.cells #[.string K0,.bool h0,.int .i64 k1,.string S1,.bool b1,.int .u64 n1,.slice l1 ln1 lc1,.slice m1 mn1 mc1,.string I1,.string U1,.string Y1] 79)=W:=⟨_,rfl⟩
 obtain ⟨bx,hbx⟩:∃ bx,w.heap.size=bx:=⟨_,rfl⟩
 have HB0:Hid (Below w.heap.size w W0):=hid (by rw[←hW0];exact below_new _ _);have HX0:Hid (W0.heap[bx]? = some (.cells #[.string K0,.bool h0,.int .i64 k1,.string S1,.bool b1,.int .u64 n1,.slice l1 ln1 lc1,.slice m1 mn1 mc1,.string I1,.string U1,.string Y1] 79 (0,0))):=hid (by rw[←hW0,←hbx];exact heap_alloc_new _ _);have HW0:=hid hW0;have HBX:=hid hbx;clear hW0 hbx hf hr hd hsz hvb;go_enter Tryz.func51,Tryz.ntmps51;go_wp2_with fail;rw[HW0.out,HBX.out];refine (wmnew_any d W0).mono ?_;rintro e w1 ⟨rfl,hb1,P1,hw1,hp1⟩;obtain ⟨p,hp⟩:∃ p,W0.heap.size=p:=⟨_,rfl⟩
 have hpp:bx<p:=by rw[←hp];exact row_lt HX0.out
 rw[hp] at hw1 hb1 ⊢;have HB1:Hid (Below p W0 w1):=hid hb1;have HX1:Hid (w1.heap[bx]? = some (.cells #[.string K0,.bool h0,.int .i64 k1,.string S1,.bool b1,.int .u64 n1,.slice l1 ln1 lc1,.slice m1 mn1 mc1,.string I1,.string U1,.string Y1] 79 (0,0))):=hid ((hb1.block _ hpp).trans HX0.out);have HP1:Hid (∀ k,P1 k→p≤k):=hid (fun k hk=>by have:=hp1 k hk;omega);have HW1:Hid (WrH p d [] [] (decide (d<0)) P1 w1):=hid (wh_new hw1);have HPE:=hid hp;have HR1:Hid (KRel w1 (fun k=>Q k∧k<w.heap.size) x [.string K0,.bool h0,.int .i64 k1,.string S1,.bool b1,.int .u64 n1,.slice l1 ln1 lc1,.slice m1 mn1 mc1,.string I1,.string U1,.string Y1]):=hid (KRel.upd (HB0.out.trans (hb1.mono (by have:=HB0.out.size;omega)) |> Upd.of_new (S:=fun _=>False)) (fun _ _ h=>h) (fun _ h=>h) x _ HR.out);have HQP:Hid (∀ k,Q k∧k<w.heap.size→¬P1 k):=hid (fun k hk hp=>by have:=HP1.out k hp;have:=HB0.out.size;have:=HPE.out;omega);clear hb1 hw1 hp1 hp;have x0:w1.cell? ⟨bx,0,none⟩=some (.string K0):=row_cell HX1.out (j:=0) rfl;have x1:w1.cell? ⟨bx,1,none⟩=some (.bool h0):=row_cell HX1.out (j:=1) rfl;have x2:w1.cell? ⟨bx,2,none⟩=some (.int .i64 k1):=row_cell HX1.out (j:=2) rfl;have x3:w1.cell? ⟨bx,3,none⟩=some (.string S1):=row_cell HX1.out (j:=3) rfl;have x4:w1.cell? ⟨bx,4,none⟩=some (.bool b1):=row_cell HX1.out (j:=4) rfl;have x5:w1.cell? ⟨bx,5,none⟩=some (.int .u64 n1):=row_cell HX1.out (j:=5) rfl;have x6:w1.cell? ⟨bx,6,none⟩=some (.slice l1 ln1 lc1):=row_cell HX1.out (j:=6) rfl;have x7:w1.cell? ⟨bx,7,none⟩=some (.slice m1 mn1 mc1):=row_cell HX1.out (j:=7) rfl;have x8:w1.cell? ⟨bx,8,none⟩=some (.string I1):=row_cell HX1.out (j:=8) rfl;have x9:w1.cell? ⟨bx,9,none⟩=some (.string U1):=row_cell HX1.out (j:=9) rfl;have x10:w1.cell? ⟨bx,10,none⟩=some (.string Y1):=row_cell HX1.out (j:=10) rfl;go_wp2_with fail;refine (putk_any x p d [] [] (decide (d<0)) P1 (fun k=>Q k∧k<w.heap.size) w1 _ HF.out HR1.out HQP.out HW1.out (by by_cases h:d<0<;>simp[h];omega) HD.out (by have:=HVB.out;simp;omega)).mono ?_;intro e w2 hpost;obtain ⟨rfl,hu2,vo,P0,qs,hw2,hq,hql,hqf⟩:=wv_ends hpost;have hp9:p≤w1.heap.size:=by have:=HB1.out.size;have:=HPE.out;omega
 have HB2:Hid (Below p W0 w2):=hid (HB1.out.trans (hu2.below (by omega) (fun k _ h=>HP1.out k h)));have HS2:=hid hu2.size;obtain ⟨bb,hbb⟩:∃ bb,(decide (d<0)||!kmay x d)=bb:=⟨_,rfl⟩
 rw[hbb] at hw2 hq
 have HBB:Hid (kmayD x d=!bb):=hid (by
  rw[←hbb,kmayD]
  by_cases h:d<0
  ·simp[h];omega
  ·simp[h];omega)
 have HW2:=hid hw2;have HQ:=hid hq;have HQL:=hid hql;have HQF:=hid hqf;clear hu2 hw2 hpost hp9 x0 x1 x2 x3 x4 x5 x6 x7 x8 x9 x10 hbb hq hql hqf;go_wp2_with fail;refine (wend_any p d vo qs bb P0 w2 HW2 (by have:=HQL.out;have:=HVB.out;omega) (by have:=HQF.out;have:=HVB.out;omega)).mono ?_;rintro e w3 ⟨hb3,hcase⟩;have HB3:Hid (Below w.heap.size w w3):=hid (HB0.out.trans ((HB2.out.trans (hb3.mono (by have:=HS2.out;have:=HB1.out.size;have:=HPE.out;omega))).mono (by have:=HPE.out;have:=HB0.out.size;omega)));clear hb3
 cases bb with
 | true =>
  rw[if_pos rfl] at hcase;obtain ⟨v,rfl,hec⟩:=hcase;obtain ⟨T',y,rfl⟩:=hec.iface;have HEC:=hid hec;clear hec;go_wp2_with fail
  go_ret2
  refine ⟨HB3.out,?_⟩;rw[HBB.out,if_neg (by simp)];exact ⟨_,rfl,HEC.out⟩
 | false =>
  rw[if_neg (by simp)] at hcase;subst hcase;go_wp2_with fail
  go_ret2
  refine ⟨HB3.out,?_⟩;have hq9:qs.flatten=kout x:=by first|exact HQ.out rfl|exact HQ.out trivial
  rw[HBB.out,hq9,if_pos (show (!false)=true from rfl)]
  rfl
open Go.RowKit
theorem kmar_any:KMar:=fun x cs Q d w hf hr hd hsz=>kmarshal_any x cs Q d w hf hr hd hsz
end Go.Proofs.YtficgfemmijaaaaGreatDoor
