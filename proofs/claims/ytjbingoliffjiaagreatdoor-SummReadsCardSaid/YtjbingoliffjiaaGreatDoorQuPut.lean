/-
  summ.putQuantile; message.Each of quantiles.
-/
import Derived.Test.YtjbingoliffjiaaGreatDoorQuTakes
import Derived.Test.YtjbingoliffjiaaGreatDoorValMar
set_option maxRecDepth 1000000
set_option maxHeartbeats 16000000
namespace Go.Proofs.YtjbingoliffjiaaGreatDoor
open Go.RowKit
def PutQ (x:Qu):Prop:=∀ (p:Nat) (d:Int) (ps:List (List UInt8)) (hs:List Hole) (b:Bool) (P Q:Nat→Prop) (w:World) (cs:List Value),qu_fit x→quCel.R w Q x cs→(∀ k,Q k→¬P k)→WrH p d ps hs b P w→(b=true∨0≤d) → -9223372036854775808≤d∧d≤9223372036854775807→ps.length+10≤500000∧ps.flatten.length+(qu_wt x+20)≤5000000∧hs.length≤500000 →
 Calls Tryz.prog 101 #[.pointer (some ⟨p,0,none⟩),.agg cs.toArray] w (WvPost p d ps hs b P w (qu_may d x) (qu_out x) 3 (qu_wt x+20))
theorem putqu_any (x:Qu):PutQ x:=by
 intro p d ps hs b P Q w cs hfit hr hdis hw hbd hd hsz
 obtain ⟨⟨q,v⟩,u⟩:=x
 have hr:cs=[.int .u64 (q:Int),.int .u64 (v:Int),strV u]:=hr
 subst hr
 obtain ⟨hnq,hnv,hwu⟩:=hfit
 have hsz:ps.length+10≤500000∧ps.flatten.length+(20+(u.length)+20)≤5000000∧hs.length≤500000:=hsz
 have HSZ:=Lib.hid hsz
 have HBD:=Lib.hid hbd
 have HNQ:=Lib.hid hnq
 have HNV:=Lib.hid hnv
 have HFK:=Lib.hid hwu
 have HET:=Lib.hid (enters_of Tryz.func147 (by kernel_rfl) rfl)
 obtain ⟨Xu,hXu⟩:∃ U:ByteArray,(⟨u.toArray⟩:ByteArray)=U:=⟨_,rfl⟩
 have HU:=Lib.hid hXu
 dsimp only[strV]
 rw[hXu]
 show Calls _ _ #[.pointer (some ⟨p,0,none⟩),.agg #[.int .u64 (q:Int),.int .u64 (v:Int),.string Xu]] w _
 obtain ⟨W0,hW0⟩:∃ W,w.alloc (.cells #[.int .u64 (q:Int),.int .u64 (v:Int),.string Xu] 141)=W:=⟨_,rfl⟩
 obtain ⟨bx,hbx⟩:∃ bx,w.heap.size=bx:=⟨_,rfl⟩
 have HB0:Hid (Below w.heap.size w W0):=Lib.hid (by rw[←hW0];exact below_new _ _)
 have HS:Hid (WSx p d ps hs b P w true [] 0 0 [] P bx #[.int .u64 (q:Int),.int .u64 (v:Int),.string Xu] 141 W0):=Lib.hid (WSx.start hw HB0.out (by rw[←hW0,←hbx];exact heap_alloc_new _ _) (wh_out hw (by omega)))
 have HW0:=Lib.hid hW0
 have HBX:=Lib.hid hbx
 have xc:W0.cell? ⟨bx,0,none⟩=some (.int .u64 (q:Int)):=HS.out.cell rfl
 clear hdis hw hbd hd hsz hW0 hbx hXu hnq hnv hwu
 go_enter Tryz.func101,Tryz.ntmps101
 go_wp2_with fail
 rw[HW0.out,HBX.out]
 go_wp2_with fail
 refine (wv_num 1 q HS.out.so.wr HNQ.out (by omega) (by omega) (by have:=HS.out.so.len;have:=HSZ.out;rw[List.length_append];omega) (by have:=HS.out.so.size;have:=HSZ.out;rw[List.flatten_append,List.length_append];omega)).mono ?_;intro e wz hpost
 obtain ⟨qs2,P2,rfl,hs⟩:=HS.out.next hpost
 have HSN:=Lib.hid hs
 clear hpost hs HS xc
 have HS:=HSN
 clear HSN
 have xc:wz.cell? ⟨bx,1,none⟩=some (.int .u64 (v:Int)):=HS.out.cell rfl
 go_wp2_with fail
 refine (wv_num 2 v HS.out.so.wr HNV.out (by omega) (by omega) (by have:=HS.out.so.len;have:=HSZ.out;rw[List.length_append];omega) (by have:=HS.out.so.size;have:=HSZ.out;rw[List.flatten_append,List.length_append];omega)).mono ?_;intro e wz hpost
 obtain ⟨qs2,P2,rfl,hs⟩:=HS.out.next hpost
 have HSN:=Lib.hid hs
 clear hpost hs HS xc
 have HS:=HSN
 clear HSN
 have xc:wz.cell? ⟨bx,2,none⟩=some (.string Xu):=HS.out.cell rfl
 go_wp2_with fail
 refine (wv_rest Xu u quF.tk 147 HS.out.so.wr HU.out.symm (by have:=HFK.out;omega) (by have:=HS.out.so.len;have:=HSZ.out;rw[List.length_append];omega) (by have:=HS.out.so.size;have:=HSZ.out;rw[List.flatten_append,List.length_append];omega) HET.out (fun r w=>qutakes_any r w)).mono ?_;intro e wz hpost
 obtain ⟨qs2,P2,rfl,hs⟩:=HS.out.next hpost
 have HSN:=Lib.hid hs
 clear hpost hs HS xc
 have HS:=HSN
 clear HSN
 go_wp2_with fail
 go_end0
 refine ((HS.out.done.conv (fun hb=>?_) (fun hb hm=>?_)).le (by omega) (by show _≤20+(u.length)+20;omega))
 · rcases HBD.out with h|h
   · rw[h] at hb;cases hb
   · show _=(decide (0≤d)&&(true&&munkOk quF.tk u d))
     rw[decide_eq_true h]
     simp only[Bool.true_and]
 · show _=(if q=0 then [] else (rF 1 q).raw)++(if v=0 then [] else (rF 2 v).raw)++u
   simp only[List.nil_append]
theorem qu_wt20 (x:Qu):20≤qu_wt x:=by obtain ⟨⟨q,v⟩,u⟩:=x;show 20≤20+_;omega
def EachQ (l:List Qu):Prop:=∀ (p:Nat) (d:Int) (ps:List (List UInt8)) (hs:List Hole) (b:Bool) (P Q:Nat→Prop) (w:World) (num:Nat) (lo:Option Addr) (lc:Nat),(∀ x∈l,qu_fit x)→CRels quCel w Q l lo→(∀ k,Q k→¬P k)→WrH p d ps hs b P w→(b=true∨0≤d) → -9223372036854775808≤d∧d≤9223372036854775807→1≤num∧num≤536870911→ps.length+lwt quSb l≤500000∧ps.flatten.length+3 * lwt quSb l≤5000000∧hs.length+lwt quSb l≤500000 →
 Calls Tryz.prog 100 #[.pointer (some ⟨p,0,none⟩),.int .i64 (num:Int),.slice lo l.length lc,.func (.func 101) #[] #[]] w (WvPost p d ps hs b P w (lmays quSb l d) (louts quSb num l) (lwt quSb l) (3 * lwt quSb l))
theorem lwt_take {α:Type} {S:Sub α} (l:List α) (j:Nat):lwt S (l.take j)≤lwt S l:=by
  have h1:lwt S l=lwt S (l.take j)+lwt S (l.drop j):=by rw[←lwt_app,List.take_append_drop]
  omega
theorem lmays_take {α:Type} {S:Sub α} {l:List α} {j:Nat} {d:Int} (h:lmays S (l.take j) d=false):lmays S l d=false:=by
  have h1:lmays S l d=(lmays S (l.take j) d&&lmays S (l.drop j) d):=by rw[←lmays_app,List.take_append_drop]
  rw[h1,h];rfl
theorem eachqu_any (l:List Qu):EachQ l:=by
 intro p d ps hs b P Q w num lo lc hfit ha hdis hw hbd hd hnum hsz
 have HFIT:=Lib.hid hfit
 have HA:=Lib.hid (CRels.lt ha)
 have HPLT:=Lib.hid (fun k hk=>(wh_lt hw k hk).2)
 have HDIS:=Lib.hid hdis
 have HW:=Lib.hid hw
 have HBD:=Lib.hid hbd
 have HSZ:=Lib.hid hsz
 have HNUM:=Lib.hid hnum
 have HD:=Lib.hid hd
 have hlen:l.length≤500000:=by have:=qus_len l;omega
 obtain ⟨d1,hd1⟩:∃ d1,IntKind.i64.wrap (d - 1)=d1:=⟨_,rfl⟩
 have hd2:IntKind.i64.wrap (d1+1)=d:=by
  rcases Int.lt_or_le (-9223372036854775808) d with h|h
  ·rw[IntWalk.i64_in _ (by omega)] at hd1
   rw[IntWalk.i64_in _ (by omega)];omega
  ·have e:d = -9223372036854775808:=by omega
   subst e
   rw[←hd1];decide +kernel
 have HD1:Hid (0≤d→d1=d - 1):=Lib.hid (fun h=>by rw[←hd1,IntWalk.i64_in _ (by omega)])
 have HD1R:Hid (-9223372036854775808≤d1∧d1≤9223372036854775807):=Lib.hid (by
  rcases Int.lt_or_le (-9223372036854775808) d with h|h
  ·rw[IntWalk.i64_in _ (by omega)] at hd1;omega
  ·have e:d = -9223372036854775808:=by omega
   subst e
   have:IntKind.i64.wrap (-9223372036854775808 - 1)=9223372036854775807:=by decide +kernel
   omega)
 have HQ1:=Lib.hid hd1
 have HQ2:=Lib.hid hd2
 clear hfit ha hdis hw hbd hsz hnum hd hd1 hd2
 go_enter Tryz.func100,Tryz.ntmps100
 go_wp2_with fail
 go_loopg [12] l.length (fun k i wr=>∃ (j:Nat) (qs:List (List UInt8)) (P1:Nat→Prop),i = .int .i64 (j:Int)∧j+k=l.length∧Hid (WSo p d ps hs b P w (lmays quSb (l.take j) d) (louts quSb num (l.take j)) (lwt quSb (l.take j)) (3 * lwt quSb (l.take j)) qs P1 wr))
 case atStart=>exact ⟨0,[],P,rfl,by omega,Lib.hid (by simpa [lmays,louts,lwt,lsum] using WSo.start HW.out)⟩
 case round =>
  obtain ⟨j,qs,P1,rfl,hj,HSO⟩:=hrel
  have HJ:=Lib.hid hj
  clear hj
  by_cases hlt:j<l.length
  ·have HAW:Hid (CRels quCel wr (fun k=>Q k∧k<w.heap.size) l lo):=Lib.hid (CRels.upd HSO.out.upd (fun k hk hp=>HDIS.out k hk.1 hp) (fun k hk=>hk) HA.out)
   obtain ⟨ga,oa,ca,rfl,_,hga,hca,hra⟩:=HAW.out j hlt
   have hca:Cells wr ga (oa+3 * j) ca:=hca
   have hmem:=List.getElem_mem hlt
   obtain ⟨x,hx⟩:∃ x,l[j]=x:=⟨_,rfl⟩
   have HKX:=Lib.hid (putqu_any x)
   have HFX:=Lib.hid (HFIT.out x (hx ▸ hmem))
   have HTM:Hid (lmays quSb (l.take (j+1)) d=(lmays quSb (l.take j) d&&(decide (1≤d)&&qu_may (d - 1) x))):=Lib.hid (by rw[List.take_succ_eq_append_getElem hlt,lmays_app,hx,lmays_one];rfl)
   have HTO:Hid (louts quSb num (l.take (j+1))=louts quSb num (l.take j)++(rB num (qu_out x)).raw):=Lib.hid (by rw[List.take_succ_eq_append_getElem hlt,louts_app,hx,louts_one];rfl)
   have HTW:Hid (lwt quSb (l.take (j+1))=lwt quSb (l.take j)+qu_wt x):=Lib.hid (by rw[List.take_succ_eq_append_getElem hlt,lwt_app,hx,lwt_one];rfl)
   have HTB:Hid (lwt quSb (l.take j)+qu_wt x≤lwt quSb l):=Lib.hid (by rw[←hx];exact lwt_at (S:=quSb) hlt)
   have HWB:Hid (20≤qu_wt x):=Lib.hid (qu_wt20 x)
   rw[hx] at hra
   have HRA:=Lib.hid hra
   obtain ⟨jq,jv,Xu,rfl⟩:=QuRel.form hra
   have HCA:=Lib.hid hca
   obtain ⟨wa,hwa⟩:∃ wa,wr.alloc (.cells #[.int .u64 jq,.int .u64 jv,.string Xu] 141)=wa:=⟨_,rfl⟩
   obtain ⟨bx,hbx⟩:∃ bx,wr.heap.size=bx:=⟨_,rfl⟩
   have HBA:Hid (Below wr.heap.size wr wa):=Lib.hid (by rw[←hwa];exact below_new _ _)
   have HXA:Hid (wa.heap[bx]? = some (.cells #[.int .u64 jq,.int .u64 jv,.string Xu] 141 (0,0))):=Lib.hid (by rw[←hwa,←hbx];exact heap_alloc_new _ _)
   have HSA:=Lib.hid (HSO.out.below HBA.out)
   have HP1L:Hid (∀ k,P1 k→k<bx):=Lib.hid (fun k hk=>by rw[←hbx];exact (wh_lt HSO.out.wr k hk).2)
   have HWA:=Lib.hid hwa
   have HBX:=Lib.hid hbx
   have HBXW:Hid (w.heap.size≤bx):=Lib.hid (by rw[←hbx];exact HSO.out.upd.size)
   have HRAA:Hid (quCel.R wa (fun k=>Q k∧k<w.heap.size) x [.int .u64 jq,.int .u64 jv,.string Xu]):=Lib.hid (quCel.upd (Upd.of_new (S:=fun _=>False) HBA.out) (fun _ _ h=>h) (fun _ h=>h) HRA.out)
   obtain ⟨bb,hbb⟩:∃ bb,(b||!lmays quSb (l.take j) d)=bb:=⟨_,rfl⟩
   have HBB:=Lib.hid hbb
   have HWR:Hid (WrH p d (ps++qs) hs bb P1 wa):=Lib.hid (by rw[←hbb];exact HSA.out.wr)
   have hwr0:WrH p d (ps++qs) hs bb P1 wr:=by rw[←hbb];exact HSO.out.wr
   obtain ⟨vo,P0,hwr,hho,hdd,hPE⟩:=hwr0
   obtain ⟨vp,ev,h1,h2,h3,h4⟩:=hwr
   have hpw:=row_lt h1
   clear hx hmem hra hca hbb hPE h2 h4 hho hdd
   obtain ⟨ea0,ea1,ea2⟩:=cells3 HCA.out
   cases bb with
   | true =>
    obtain ⟨T',y',rfl⟩:=h3.yes.iface
    have k4:wr.cell? ⟨p,4,none⟩=some (.iface T' y'):=row_cell h1 (j:=4) rfl
    clear h1 h3 hwa hbx
    go_wp2_with fail
    rw[HWA.out]
    go_wp2_with fail
    go_end0
    have hdone:=HSA.out.done
    have hfin:=(hdone.le (lwt_take l j) (show 3 * lwt quSb (l.take j)≤3 * lwt quSb l by have:=lwt_take (S:=quSb) l j;omega)).conv (m2:=lmays quSb l d) (t2:=louts quSb num l) (fun hb=>by
     have h:=HBB.out
     rw[hb] at h
     have h5:lmays quSb (l.take j) d=false:=by revert h;cases lmays quSb (l.take j) d<;>simp
     rw[h5,lmays_take h5]) (fun hb hm=>by
     have h:=HBB.out
     rw[hb,hm] at h
     cases h)
    exact hfin
   | false =>
    obtain rfl:=h3.no
    have k4:wr.cell? ⟨p,4,none⟩=some .nilIface:=row_cell h1 (j:=4) rfl
    have hb0:b=false:=by have h:=HBB.out;revert h;cases b<;>simp
    subst hb0
    have hm0:lmays quSb (l.take j) d=true:=by have h:=HBB.out;revert h;cases lmays quSb (l.take j) d<;>simp
    have HM0:=Lib.hid hm0
    have hd0:0≤d:=by rcases HBD.out with h|h;cases h;exact h
    have he1:d1=d - 1:=HD1.out hd0
    have HDG:Hid (decide (0≤d1)=decide (1≤d)):=Lib.hid (by rw[he1];congr 1;exact propext ⟨fun h=>by omega,fun h=>by omega⟩)
    have HE1:=Lib.hid he1
    have hql:(ps++qs).length+(qu_wt x)≤500000:=by rw[List.length_append];have:=HSO.out.len;have:=HTB.out;have:=HSZ.out;omega
    have hqf:(ps++qs).flatten.length+(3 * qu_wt x)≤5000000:=by rw[List.flatten_append,List.length_append];have:=HSO.out.size;have:=HTB.out;have:=HSZ.out;omega
    have hhl:hs.length+(qu_wt x)≤500000:=by have:=HTB.out;have:=HSZ.out;omega
    have HQL:=Lib.hid hql
    have HQF:=Lib.hid hqf
    have HHL:=Lib.hid hhl
    have HOP:=Lib.hid (wopen_any p d (ps++qs) hs false P1 num wa d1 HWR HQ1.out (by omega) (by omega) (by omega))
    clear h1 h3 hwa hbx hm0 hd0 he1 hql hqf hhl
    go_wp2_with fail
    rw[HWA.out]
    go_wp2_with fail
    refine HOP.out.mono ?_;intro e w2 hpost
    obtain ⟨rfl,u1,P2,r1,n1_⟩:=hpost
    have HU1:=Lib.hid u1
    have HR1:=Lib.hid r1
    have HN1:=Lib.hid n1_
    have HX2:Hid (w2.heap[bx]? = some (.cells #[.int .u64 jq,.int .u64 jv,.string Xu] 141 (0,0))):=Lib.hid ((u1.block bx (row_lt HXA.out) (fun hp=>by have:=HP1L.out bx hp;omega)).trans HXA.out)
    have HQP1:Hid (∀ k,Q k∧k<w.heap.size→¬P1 k):=Lib.hid (fun k hk hp=>by
     rcases HSO.out.new k hp with h|h
     ·exact HDIS.out k hk.1 h
     ·omega)
    have HRX:Hid (quCel.R w2 (fun k=>Q k∧k<w.heap.size) x [.int .u64 jq,.int .u64 jv,.string Xu]):=Lib.hid (quCel.upd u1 HQP1.out (fun k hk=>hk) HRAA.out)
    have HQP2:Hid (∀ k,Q k∧k<w.heap.size→¬P2 k):=Lib.hid (fun k hk hp=>by
     rcases n1_ k hp with h|h
     ·exact HQP1.out k hk h
     ·have:=HBA.out.size;have:=HBX.out;have:=HBXW.out;omega)
    clear u1 r1 n1_
    have x0:w2.cell? ⟨bx,0,none⟩=some (.int .u64 jq):=row_cell HX2.out (j:=0) rfl
    have x1:w2.cell? ⟨bx,1,none⟩=some (.int .u64 jv):=row_cell HX2.out (j:=1) rfl
    have x2:w2.cell? ⟨bx,2,none⟩=some (.string Xu):=row_cell HX2.out (j:=2) rfl
    rw[HBX.out]
    go_wp2_with fail
    have HCL:=Lib.hid (fun (b2:Bool)=>(show (b2=true∨0≤d1)→(b2=true∨0≤d1) from id))
    refine (HKX.out p d1 (wps (false||!decide (0≤d1)) (ps++qs) [[]]) (hs++[⟨num,(ps++qs).length,(ps++qs).flatten.length⟩]) (false||!decide (0≤d1)) P2 (fun k=>Q k∧k<w.heap.size) w2 [.int .u64 jq,.int .u64 jv,.string Xu] HFX.out HRX.out HQP2.out HR1.out (by by_cases h:0≤d1<;>simp[h]) HD1R.out ?side).mono ?_
    case side =>
     have:=HQL.out;have:=HQF.out;have:=HHL.out;have:=HWB.out
     refine ⟨?_,?_,?_⟩
     ·cases hgg:(false||!decide (0≤d1))<;>simp only[wps]<;>(try rw[List.length_append,List.length_singleton])<;>omega
     ·cases hgg:(false||!decide (0≤d1))<;>simp only[wps]<;>(try rw[List.flatten_append (l₁:=ps++qs)])<;>simp only[List.flatten_cons,List.flatten_nil,List.append_nil,List.length_append,List.flatten_append] at * <;> omega
     ·rw[List.length_append,List.length_singleton];omega
    intro e w3 hpost
    obtain ⟨rs,⟨rfl,u2,P3,r2,n2⟩,hrq,hrl,hrf⟩:=hpost
    have HU2:=Lib.hid u2
    have HN2:=Lib.hid n2
    have HRQ:=Lib.hid hrq
    have HRL:=Lib.hid hrl
    have HRF:=Lib.hid hrf
    have HCLS:=Lib.hid (wclose_any p d1 (wps (false||!decide (0≤d1)) (ps++qs) [[]]++rs) hs ⟨num,(ps++qs).length,(ps++qs).flatten.length⟩ (false||!decide (0≤d1)||!qu_may d1 x) P3 w3 d (Lib.hid r2) HQ2.out (by
     have:=HQL.out;have:=HWB.out
     rw[List.length_append]
     cases hgg:(false||!decide (0≤d1))<;>simp only[wps]<;>(try rw[List.length_append,List.length_singleton])<;>omega) (by have:=HHL.out;omega) (by
     have:=HQF.out;have:=HWB.out
     rw[List.flatten_append,List.length_append]
     cases hgg:(false||!decide (0≤d1))<;>simp only[wps,List.flatten_cons,List.flatten_nil,List.append_nil,List.length_append,List.flatten_append] at * <;> omega) (Lib.hid (close_hok HNUM.out.1 HNUM.out.2)))
    clear u2 r2 n2 hrq hrl hrf ea0 x0 ea1 x1 ea2 x2
    go_wp2_with fail
    refine HCLS.out.mono ?_;intro e w4 hpost
    have hin:=wv_inner (b:=false) HU1.out HN1.out HU2.out HN2.out HRQ.out HRL.out HRF.out hpost
    rw[whead_raw HNUM.out.1 HNUM.out.2] at hin
    obtain ⟨qs2,P4,rfl,hso4⟩:=HSA.out.next (m2:=decide (0≤d1)&&qu_may d1 x) (t2:=(rB num (qu_out x)).raw) (l2:=3+1) (f2:=qu_wt x+20+20) (by rw[show (false||!lmays quSb (l.take j) d)=false from HBB.out];exact hin)
    have HSO4:Hid (WSo p d ps hs false P w (lmays quSb (l.take (j+1)) d) (louts quSb num (l.take (j+1))) (lwt quSb (l.take (j+1))) (3 * lwt quSb (l.take (j+1))) (qs++qs2) P4 w4):=Lib.hid (by
     rw[HTM.out,HTO.out,HTW.out,←HDG.out,←HE1.out]
     have:=HWB.out
     exact ⟨hso4.upd,hso4.wr,hso4.new,hso4.bytes,by have:=hso4.len;omega,by have:=hso4.size;omega⟩)
    clear hpost hin hso4
    go_wp2_with fail
    have hj:=HJ.out
    go_roundg (gk - 1)
    case measure=>omega
    case rel=>exact ⟨j+1,qs++qs2,P4,by simp,by omega,HSO4⟩
  ·have hjn:j=l.length:=by have:=HJ.out;omega
   have HDONE:=Lib.hid HSO.out.done
   have HTK:Hid (l.take j=l):=Lib.hid (by rw[hjn,List.take_length])
   clear hjn
   go_wp2_with fail
   go_end0
   have:=HDONE.out
   rw[HTK.out] at this
   exact this
end Go.Proofs.YtjbingoliffjiaaGreatDoor
