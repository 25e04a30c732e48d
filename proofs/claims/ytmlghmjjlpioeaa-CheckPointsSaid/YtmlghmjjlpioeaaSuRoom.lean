/-
  QuTakes, SuRoom
-/
import Derived.Test.YtmlghmjjlpioeaaQuBack
import Derived.Test.YtmlghmjjlpioeaaSuBack
import Derived.Test.YtmlghmjjlpioeaaAlikeB
set_option maxRecDepth 1000000
set_option maxHeartbeats 16000000
namespace Go.Proofs.Ytmlghmjjlpioeaa
open Go.RowKit
open Lib (hid)
theorem cells3 {w:World}{g o j:Nat}{c0 c1 c2:Value}(h:Cells w g (o+3 * j) [c0,c1,c2]):w.cell? ⟨g,o+j * 3,none⟩=some c0∧w.cell? ⟨g,o+j * 3+1,none⟩=some c1∧w.cell? ⟨g,o+j * 3+2,none⟩=some c2:=by
  refine ⟨?_,?_,?_⟩
  · have:=h 0 (by simp);rw[show o+j * 3=o+3 * j+0 by omega,this];rfl
  · have:=h 1 (by simp);rw[show o+j * 3+1=o+3 * j+1 by omega,this];rfl
  · have:=h 2 (by simp);rw[show o+j * 3+2=o+3 * j+2 by omega,this];rfl
open Go.RowKit
theorem su_room (x:Su)(cs:List Value)(P:Nat→Prop)(w:World)(room:Int)(harg:su_arg x)(hr:suCel.R w P x cs)(hro:-1≤room∧room≤1000000) :
 Calls Try.prog 10 #[.agg cs.toArray,.int .i64 room] w (RmPost room (su_wt x) w):=by
 have HRO:=hid hro
 obtain ⟨⟨a,⟨t,⟨k,⟨n,⟨qs,⟨l,f⟩⟩⟩⟩⟩⟩,u⟩:=x
 obtain ⟨lo,lc,qo,qc,rfl,hk,hq⟩:=hr
 obtain ⟨_,_,_,_,hfq,hzq,hfl,hll,hzl,_,hzu⟩:=harg
 have HK:=hid hk
 have HQ:=hid hq
 have HFQ:=hid hfq
 have HZQ:=hid hzq
 have HFL:=hid hfl
 have HLL:=hid hll
 have HZL:=hid hzl
 have HWX:Hid (su_wt ((a,(t,(k,(n,(qs,(l,f)))))),u)=20+(lwt quSb qs+ksw l+u.length)):=hid rfl
 dsimp only[strV]
 obtain ⟨Xu,hXu⟩:∃ X:ByteArray,(⟨u.toArray⟩:ByteArray)=X:=⟨_,rfl⟩
 have HZU:Hid (Xu.size=u.length):=hid (by rw[←hXu];simp[ByteArray.size])
 have HBU:Hid (Xu.size≤9223372036854775807):=hid (by rw[HZU.out];exact hzu)
 rw[hXu]
 clear hro hk hq hfq hfl hll hzl hzu hXu
 obtain ⟨W,hW⟩:∃ W,w.alloc (.cells #[.slice lo l.length lc,.int .u64 (a:Int),.int .u64 (t:Int),.int .u64 (k:Int),.int .u64 (n:Int),.slice qo qs.length qc,.int .u32 (f:Int),.string Xu] 39)=W:=⟨_,rfl⟩
 obtain ⟨bx,hbx⟩:∃ bx,w.heap.size=bx:=⟨_,rfl⟩
 have HB0:Hid (Below w.heap.size w W):=hid (by rw[←hW];exact below_new _ _)
 have HROW:Hid (W.heap[bx]? = some (.cells #[.slice lo l.length lc,.int .u64 (a:Int),.int .u64 (t:Int),.int .u64 (k:Int),.int .u64 (n:Int),.slice qo qs.length qc,.int .u32 (f:Int),.string Xu] 39 (0,0))):=hid (by rw[←hW,←hbx];exact heap_alloc_new _ _)
 have HW:=hid hW
 have HBX:=hid hbx
 clear hW hbx
 go_enter Try.func10,Try.ntmps10
 go_wp2_with fail
 rw[HW.out,HBX.out]
 have xu:W.cell? ⟨bx,7,none⟩=some (.string Xu):=row_cell HROW.out (j:=7) rfl
 go_wp2_with fail
 refine (roomtake_any room Xu.size W HRO.out HBU.out).mono ?_;rintro e w4 ⟨rfl,r1,rfl,HR1⟩
 have HB1:=hid (HR1.out.le HRO.out)
 clear xu
 go_wp2_with fail
 go_loopg [1,5] qs.length (fun gz r i wr=>∃ (j:Nat) (rm:Int),r = .int .i64 rm∧i = .int .i64 (j:Int)∧j+gz=qs.length∧Below w.heap.size w wr∧Hid (wr.heap[bx]? = some (.cells #[.slice lo l.length lc,.int .u64 (a:Int),.int .u64 (t:Int),.int .u64 (k:Int),.int .u64 (n:Int),.slice qo qs.length qc,.int .u32 (f:Int),.string Xu] 39 (0,0)))∧Hid (RoomOk r1 (lwt quSb (qs.take j)) rm))
 case atStart=>exact ⟨0,r1,rfl,rfl,by omega,HB0.out,HROW,hid (by show RoomOk r1 0 r1;unfold RoomOk;have:=HB1.out;omega)⟩
 case round =>
  obtain ⟨j,rm,rfl,rfl,hj,hbr,HRW,HRM⟩:=hrel
  have HBR:=hid hbr
  have HJ:=hid hj
  have HRB:=hid (HRM.out.le HB1.out)
  clear hbr hj
  have x5:wr.cell? ⟨bx,5,none⟩=some (.slice qo qs.length qc):=row_cell HRW.out (j:=5) rfl
  have x0:wr.cell? ⟨bx,0,none⟩=some (.slice lo l.length lc):=row_cell HRW.out (j:=0) rfl
  have HKR:=hid (HK.out.below HBR.out)
  by_cases hlt:j<qs.length
  · by_cases hrm:0≤rm
    · have d4:decide (rm ≥ 0)=true:=decide_eq_true hrm
      obtain ⟨ga,oa,ca,hqo,_,hga,hca,hra⟩:=(HQ.out.below HBR.out) j hlt
      have hca:Cells wr ga (oa+3 * j) ca:=hca
      have hmem:=List.getElem_mem hlt
      obtain ⟨x,hx⟩:∃ x,qs[j]=x:=⟨_,rfl⟩
      have HAX:=HFQ.out x (hx ▸ hmem)
      have HTK:Hid (lwt quSb (qs.take (j+1))=lwt quSb (qs.take j)+qu_wt x):=hid (by rw[List.take_succ_eq_append_getElem hlt,lwt_app,hx,lwt_one];rfl)
      rw[hx] at hra
      clear hx hmem hrm
      obtain ⟨⟨q,v⟩,u0⟩:=x
      have hra:ca=[.int .u64 (q:Int),.int .u64 (v:Int),strV u0]:=hra
      subst hra
      obtain ⟨_,_,hzx⟩:=HAX
      unfold strV at hca
      obtain ⟨Xq,hXq⟩:∃ X:ByteArray,(⟨u0.toArray⟩:ByteArray)=X:=⟨_,rfl⟩
      have HZQ2:Hid (Xq.size=u0.length):=hid (by rw[←hXq];simp[ByteArray.size])
      have HBQ:Hid (Xq.size≤9223372036854775807):=hid (by rw[HZQ2.out];exact hzx)
      have HWQ:Hid (qu_wt ((q,v),u0)=20+(u0.length)):=hid rfl
      rw[hXq] at hca
      have ev2:wr.cell? ⟨ga,oa+j * 3+2,none⟩=some (.string Xq):=(cells3 hca).2.2
      rw[hqo] at x5
      clear hXq hzx hca hqo
      go_wp2_with fail
      refine (roomtake_any rm Xq.size wr HRB.out HBQ.out).mono ?_;rintro e w5 ⟨rfl,r2,rfl,HR2⟩
      clear ev2
      go_wp2_with fail
      have hj:=HJ.out
      go_roundg (gk - 1)
      case measure=>omega
      case rel=>exact ⟨j+1,r2,rfl,by simp,by omega,HBR.out,HRW,hid (by
        have h1:=HRM.out.then HR2.out
        have h2:=HZQ2.out
        have h3:=HWQ.out
        have h4:=HTK.out
        unfold RoomOk at h1 ⊢
        omega)⟩
    · have d4:decide (rm ≥ 0)=false:=decide_eq_false hrm
      have hm1:rm = -1:=by have:=HRB.out;omega
      subst hm1
      clear hrm
      go_wp2_with fail
      refine (roomks_any l lo lc P wr 40 (-1) HZL.out HLL.out HFL.out HKR.out (by omega) HRB.out).mono ?_;rintro e w6 ⟨hb6,r3,rfl,HR3⟩
      have HBZ:=hid (below_step HBR.out hb6)
      clear hb6
      go_wp2_with fail
      go_ret
      exact ⟨HBZ.out,r3,rfl,hid (by
       have h1:=HR3.out
       unfold RoomOk at h1 ⊢
       omega)⟩
  · have hjn:j=qs.length:=by have:=HJ.out;omega
    have HTK:Hid (qs.take j=qs):=hid (by rw[hjn,List.take_length])
    clear hjn
    go_wp2_with fail
    refine (roomks_any l lo lc P wr 40 rm HZL.out HLL.out HFL.out HKR.out (by omega) HRB.out).mono ?_;rintro e w6 ⟨hb6,r3,rfl,HR3⟩
    have HBZ:=hid (below_step HBR.out hb6)
    clear hb6
    go_wp2_with fail
    go_ret
    exact ⟨HBZ.out,r3,rfl,hid (by
     have h0:=HRM.out
     rw[HTK.out] at h0
     have h1:=(HR1.out.then h0).then HR3.out
     have h2:=HWX.out
     have h3:=HZU.out
     unfold RoomOk at h1 ⊢
     omega)⟩
end Go.Proofs.Ytmlghmjjlpioeaa
