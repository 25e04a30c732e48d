/-
  hygref13.MaySummary.
-/
import Derived.Test.YtjbingoliffjiaaGreatDoorQuRead
import Derived.Test.YtjbingoliffjiaaGreatDoorSuKMar
import Derived.Test.YtjbingoliffjiaaGreatDoorSuFirst
import Derived.Test.YtjbingoliffjiaaGreatDoorRefOut
set_option maxRecDepth 1000000
set_option maxHeartbeats 16000000
namespace Go.Proofs.YtjbingoliffjiaaGreatDoor
open Go.RowKit
def Sq2 (w':World) (bx:Nat) (v:Value) (ga o:Nat) (Xq:ByteArray):Prop:=w'.cell? ⟨bx,5,none⟩=some v∧w'.cell? ⟨ga,o,none⟩=some (.string Xq)
theorem su_fit_ofx {x:Su} (h:su_arg x) (hw:su_wt x≤12000):su_fit x:=by
  obtain ⟨⟨a,⟨t,⟨k,⟨n,⟨qs,⟨l,f⟩⟩⟩⟩⟩⟩,u⟩:=x
  exact su_fit_of h hw
theorem su_rmay (x:Su) (cs:List Value) (Q:Nat→Prop) (d:Int) (w:World) (ha:su_arg x) (hw:su_wt x≤12000) (hr:suCel.R w Q x cs) (hd : -9223372036854775808≤d∧d≤9223372036854775807) :
 Calls Tryz.prog 38 #[.agg cs.toArray,.int .i64 d] w fun e w'=>e = .returned (.bool (su_may d x))∧Below w.heap.size w w':=by
 have hft:=su_fit_ofx ha hw
 obtain ⟨⟨a,⟨t,⟨k,⟨n,⟨qs,⟨l,f⟩⟩⟩⟩⟩⟩,u⟩:=x
 obtain ⟨lo,lc,qo,qc,rfl,hrl,hrqs⟩:=hr
 have hwt:20+(lwt quSb qs+ksw l+u.length)≤12000:=hw
 clear hw
 obtain ⟨hna,hnt,hnk,hnn,hfqs,hfl,hnf,hw⟩:=hft
 dsimp only[strV]
 obtain ⟨Xu,hXu⟩:∃ X:ByteArray,(⟨u.toArray⟩:ByteArray)=X:=⟨_,rfl⟩
 have HDu:Hid (Xu.data.toList=u):=Lib.hid (by rw[←hXu])
 have HZu:Hid (Xu.size≤12000):=Lib.hid (by rw[←hXu];simp[ByteArray.size];omega)
 rw[hXu]
 clear hXu
 obtain ⟨mx,hmx⟩:∃ q0,su_may d ((a,(t,(k,(n,(qs,(l,f)))))),u)=q0:=⟨_,rfl⟩
 have hm2:(decide (0≤d)&&((lmays quSb qs d&&kmays l d)&&munkOk suF.tk u d))=mx:=hmx
 rw[hmx]
 have HMX:=Lib.hid hm2
 have HDD:=Lib.hid hd
 have HKqs:Hid (CRels quCel w Q qs qo):=Lib.hid hrqs
 have HKl0:Hid (KRels w Q l lo 0):=Lib.hid hrl
 have HFl:=Lib.hid hfl
 have HFqs:=Lib.hid hfqs
 have HWTl:Hid (ksw l≤12000):=Lib.hid (by omega)
 have HWTq:Hid (lwt quSb qs≤12000):=Lib.hid (by omega)
 have hql:qs.length≤12000:=by have:=qus_len qs;omega
 obtain ⟨bx,hbx⟩:∃ b,w.heap.size=b:=⟨_,rfl⟩
 obtain ⟨W,hW⟩:∃ W,w.alloc (.cells #[.slice lo l.length lc,.int .u64 (a:Int),.int .u64 (t:Int),.int .u64 (k:Int),.int .u64 (n:Int),.slice qo qs.length qc,.int .u32 (f:Int),.string Xu] 64)=W:=⟨_,rfl⟩
 have HB0:Hid (Below w.heap.size w W):=Lib.hid (by rw[←hW];exact below_new _ _)
 have HROW:Hid (W.heap[bx]? = some (.cells #[.slice lo l.length lc,.int .u64 (a:Int),.int .u64 (t:Int),.int .u64 (k:Int),.int .u64 (n:Int),.slice qo qs.length qc,.int .u32 (f:Int),.string Xu] 64 (0,0))):=Lib.hid (by rw[←hW,←hbx];exact new_row _ _ _)
 have HW:=Lib.hid hW
 have HBX:=Lib.hid hbx
 clear hW hbx hmx hm2 hna hnt hnk hnn hfqs hfl hnf hw hwt ha hd hrl hrqs
 go_enter Tryz.func38,Tryz.ntmps38
 go_wp2_with fail
 rw[HW.out,HBX.out]
 go_loopg [5] qs.length (fun gz i wr=>∃ j:Nat,i = .int .i64 (j:Int)∧j+gz=qs.length∧Below w.heap.size w wr∧Hid (wr.heap[bx]? = some (.cells #[.slice lo l.length lc,.int .u64 (a:Int),.int .u64 (t:Int),.int .u64 (k:Int),.int .u64 (n:Int),.slice qo qs.length qc,.int .u32 (f:Int),.string Xu] 64 (0,0)))∧Hid (d<0∨lmays quSb (qs.take j) d=true))
 case atStart=>exact ⟨0,rfl,by omega,HB0.out,HROW,Lib.hid (.inr rfl)⟩
 case round =>
  obtain ⟨j,rfl,hj,hbr,HRW,HAL⟩:=hrel
  have HBR:=Lib.hid hbr
  have HJ:=Lib.hid hj
  clear hbr hj
  have x5:wr.cell? ⟨bx,5,none⟩=some (.slice qo qs.length qc):=row_cell HRW.out (j:=5) rfl
  by_cases hlt:j<qs.length
  · obtain ⟨ga,oa,ca,hqo,_,hga,hca,hra⟩:=(HKqs.out.below HBR.out) j hlt
    have hca:Cells wr ga (oa+3 * j) ca:=hca
    have hmem:=List.getElem_mem hlt
    obtain ⟨x,hx⟩:∃ x,qs[j]=x:=⟨_,rfl⟩
    have HXW:Hid (qu_wt x≤12000):=Lib.hid (by rw[←hx];have:=lwt_mem (S:=quSb) hmem;have h2:quSb.wt qs[j]=qu_wt qs[j]:=rfl;have:=HWTq.out;omega)
    have HTK:Hid (lmays quSb (qs.take (j+1)) d=(lmays quSb (qs.take j) d&&(decide (1≤d)&&qu_may (d - 1) x))):=Lib.hid (by rw[List.take_succ_eq_append_getElem hlt,lmays_app,lmays_one,hx];rfl)
    have HNO:Hid ((decide (1≤d)&&qu_may (d - 1) x)=false→lmays quSb qs d=false):=Lib.hid (fun h=>by
      have h2:lmays quSb (qs.take (j+1)) d=false:=by rw[HTK.out,h,Bool.and_false]
      exact lmays_take h2)
    rw[hx] at hra
    clear hx hmem
    obtain ⟨⟨q0,v0⟩,u0⟩:=x
    have hra:ca=[.int .u64 (q0:Int),.int .u64 (v0:Int),strV u0]:=hra
    subst hra
    unfold strV at hca
    have hu0:u0.length≤12000:=by have h:20+u0.length≤12000:=HXW.out;omega
    obtain ⟨Xq,hXq⟩:∃ X:ByteArray,(⟨u0.toArray⟩:ByteArray)=X:=⟨_,rfl⟩
    have HXD:Hid (Xq.data.toList=u0):=Lib.hid (by rw[←hXq])
    have hzq:Xq.size≤12000:=by rw[←hXq];simpa [ByteArray.size] using hu0
    rw[hXq] at hca
    obtain ⟨zz,hzz⟩:∃ z,IntKind.i64.wrap (d - 1)=z:=⟨_,rfl⟩
    have hz1 : -9223372036854775808≤zz∧zz≤9223372036854775807:=by
      by_cases h:d = -9223372036854775808
      · subst h;rw[←hzz];decide
      · rw[←hzz,IntWalk.i64_in _ (by have:=HDD.out;omega)];have:=HDD.out;omega
    have HZZ:Hid (0≤d→zz=d - 1):=Lib.hid (fun h=>by rw[←hzz];exact IntWalk.i64_in _ (by have:=HDD.out;omega))
    rw[hqo] at x5
    have hcell:wr.cell? ⟨ga,oa+j * 3+2,none⟩=some (.string Xq):=(cells3 hca).2.2
    clear hXq hca hu0 hqo
    go_wp2_with fail
    obtain ⟨D,hD⟩:∃ D,wr.drew=D:=⟨_,rfl⟩
    have HBD:Hid (Below wr.heap.size wr D):=Lib.hid (by rw[←hD];exact (Below.refl _ _).drew)
    have hS:Sq2 D bx (.slice (some ⟨ga,oa,none⟩) qs.length qc) ga (oa+j * 3+2) Xq:=⟨(HBD.out.cell (p:=⟨bx,5,none⟩) (row_lt HRW.out)).trans x5,(HBD.out.cell (p:=⟨ga,oa+j * 3+2,none⟩) hga).trans hcell⟩
    have hne:Nonempty {w':World // Sq2 w' bx (.slice (some ⟨ga,oa,none⟩) qs.length qc) ga (oa+j * 3+2) Xq}:=⟨⟨_,hS⟩⟩
    have hbxl:=row_lt HRW.out
    refine wp_region_seq (S:=fun w'=>Sq2 w' bx (.slice (some ⟨ga,oa,none⟩) qs.length qc) ga (oa+j * 3+2) Xq) [(0,true),(1,true),(2,true),(3,true),(4,true),(5,true),(6,true),(7,true),(8,false),(9,false),(10,true)] (by kernel_rfl) (by kernel_rfl) (by kernel_rfl) (by kernel_rfl) (by rw[hD];exact hS) ?_
    rw[hD]
    clear hD
    (refine seq_take _ rfl (fun K2 hK=>?_);go_simp;(first|refine hK _ ?_|refine ⟨_,fun _ _=>rfl,hK _ ?_⟩);clear hK K2)
    refine seq_take _ rfl (fun K2 hK=>?_);go_simp
    refine ⟨.slice (some ⟨ga,oa,none⟩) qs.length qc,fun a ha=>by rw[ha.1];rfl,hK _ ?_⟩;clear hK K2
    (refine seq_take _ rfl (fun K2 hK=>?_);go_simp;(first|refine hK _ ?_|refine ⟨_,fun _ _=>rfl,hK _ ?_⟩);clear hK K2)
    refine seq_take _ rfl (fun K2 hK=>?_);go_simp
    (first|refine hK _ ?_|refine ⟨.pointer (some ⟨ga,oa+j * 3,none⟩),fun _ _=>if_pos (by omega),hK _ ?_⟩);clear hK K2
    (refine seq_take _ rfl (fun K2 hK=>?_);go_simp;(first|refine hK _ ?_|refine ⟨_,fun _ _=>rfl,hK _ ?_⟩);clear hK K2)
    refine seq_take _ rfl (fun K2 hK=>?_);go_simp
    refine ⟨.string Xq,fun a ha=>by rw[ha.2];rfl,hK _ ?_⟩;clear hK K2
    iterate 2 (refine seq_take _ rfl (fun K2 hK=>?_);go_simp;(first|refine hK _ ?_|refine ⟨_,fun _ _=>rfl,hK _ ?_⟩);clear hK K2)
    refine seq_come _ rfl (fun K2 hK=>?_);go_simp
    refine (qu_tab D).mono ?_;rintro e w4 ⟨to,rfl,HNT,hb4⟩
    have hS4:Sq2 w4 bx (.slice (some ⟨ga,oa,none⟩) qs.length qc) ga (oa+j * 3+2) Xq:=And.intro ((hb4.cell (p:=⟨bx,5,none⟩) (by have:=HBD.out.size;show bx<_;omega)).trans hS.1) ((hb4.cell (p:=⟨ga,oa+j * 3+2,none⟩) (by have:=HBD.out.size;show ga<_;omega)).trans hS.2)
    have HB4:=Lib.hid (below_step HBD.out hb4)
    go_simp;refine hK.out _ _ hS4 ?_;clear hK K2
    refine seq_come _ rfl (fun K2 hK=>?_);go_simp
    try rw[hzz]
    refine (unknown8_any Xq zz [9,17] to 2 w4 HNT (by decide) (Lib.hid (by decide)) (by omega) hz1.2).mono ?_;rintro e w5 ⟨rfl,hb5⟩
    rw[HXD.out,←munkOk_rtk qu_rtk]
    have hS5:Sq2 w5 bx (.slice (some ⟨ga,oa,none⟩) qs.length qc) ga (oa+j * 3+2) Xq:=And.intro ((hb5.cell (p:=⟨bx,5,none⟩) (by have:=HB4.out.size;show bx<_;omega)).trans hS4.1) ((hb5.cell (p:=⟨ga,oa+j * 3+2,none⟩) (by have:=HB4.out.size;show ga<_;omega)).trans hS4.2)
    have HB5:=Lib.hid (below_step HB4.out hb5)
    obtain ⟨bb,hbb⟩:∃ bb,(decide (0≤zz)&&munkOk quF.tk u0 zz)=bb:=⟨_,rfl⟩
    have HBB:Hid (0≤d→(decide (1≤d)&&qu_may (d - 1) ((q0,v0),u0))=bb):=Lib.hid (fun h=>by
      rw[←hbb,HZZ.out h]
      show (decide (1≤d)&&(decide (0≤d - 1)&&(true&&munkOk quF.tk u0 (d - 1))))=_
      rw[Bool.true_and,←Bool.and_assoc]
      congr 1
      by_cases h1:1≤d
      · rw[decide_eq_true h1,decide_eq_true (by omega:0≤d - 1)];rfl
      · rw[decide_eq_false h1,decide_eq_false (by omega:¬0≤d - 1)];rfl)
    rw[hbb]
    go_simp;refine hK.out _ _ hS5 ?_;clear hK K2
    (refine seq_take _ rfl (fun K2 hK=>?_);go_simp;(first|refine hK _ ?_|refine ⟨_,fun _ _=>rfl,hK _ ?_⟩);clear hK K2)
    refine seq_done ?_
    clear hne hS hS4 hS5 hb4 hb5 hbb hzz x5 hcell
    have HBW:=Lib.hid (below_step HBR.out HB5.out)
    have HRW5:=Lib.hid ((HB5.out.block _ (row_lt HRW.out)).trans HRW.out)
    cases bb with
    | false =>
      have hmf:mx=false:=by
        rw[←HMX.out]
        by_cases h:0≤d
        · rw[HNO.out (HBB.out h)];simp
        · rw[decide_eq_false h];rfl
      subst hmf
      go_wp2_with fail
      go_ret
      exact ⟨rfl,HBW.out⟩
    | true =>
      go_wp2_with fail
      have hj:=HJ.out
      go_roundg (gk - 1)
      case measure=>omega
      case rel=>exact ⟨j+1,by simp,by omega,HBW.out,HRW5,Lib.hid (by
        by_cases h:0≤d
        · refine .inr ?_
          rw[HTK.out,HBB.out h]
          rcases HAL.out with h2|h2
          · omega
          · rw[h2];rfl
        · exact .inl (by omega))⟩
  · have hjn:j=qs.length:=by have:=HJ.out;omega
    have HAL2:Hid (d<0∨lmays quSb qs d=true):=Lib.hid (by have h:=HAL.out;rwa [hjn,List.take_length] at h)
    clear hjn
    have harms:(decide (d ≥ 0)=false∧mx=false)∨(decide (d ≥ 0)=true∧kmays l d=false∧mx=false)∨(decide (d ≥ 0)=true∧kmays l d=true∧munkOk suF.tk u d=false∧mx=false)∨(decide (d ≥ 0)=true∧kmays l d=true∧munkOk suF.tk u d=true∧mx=true):=by
      have h:=HMX.out
      rcases HAL2.out with h1|h1
      · left
        rw[decide_eq_false (by omega:¬0≤d)] at h
        exact ⟨decide_eq_false (by omega),h.symm⟩
      · rw[h1,Bool.true_and] at h
        by_cases h0:0≤d
        · right
          rw[decide_eq_true h0,Bool.true_and] at h
          rw[decide_eq_true (show d ≥ 0 from h0)]
          subst h
          cases kmays l d<;>cases munkOk suF.tk u d<;>simp
        · left
          rw[decide_eq_false h0] at h
          exact ⟨decide_eq_false (by omega),h.symm⟩
    have q1:0≤d→IntKind.i64.wrap (d - 1)=d - 1:=fun h=>IntWalk.i64_in _ (by have:=HDD.out;omega)
    have Q1:=Lib.hid q1
    clear q1
    go_wp2_with fail
    clear x5
    obtain ⟨D,hD⟩:∃ D,wr.drew=D:=⟨_,rfl⟩
    have hbd:Below wr.heap.size wr D:=by rw[←hD];exact (Below.refl _ _).drew
    have HBD:=Lib.hid (below_step HBR.out hbd)
    have HROD:=Lib.hid ((hbd.block _ (row_lt HRW.out)).trans HRW.out)
    have HKl:Hid (KRels D Q l lo 0):=Lib.hid (HKl0.out.below HBD.out)
    have HDN:=Lib.hid hD
    clear hD hbd
    rcases harms with ⟨d1,rfl⟩|⟨d1,cl,rfl⟩|⟨d1,cl,cu,rfl⟩|⟨d1,cl,cu,rfl⟩
    all_goals
     try have q1:=Q1.out (of_decide_eq_true d1)
     have HB:Hid (Below D.heap.size D D):=Lib.hid (Below.refl _ _)
     have hne:Nonempty {w':World // (fun w'=>w'.heap[bx]? = some (.cells #[.slice lo l.length lc,.int .u64 (a:Int),.int .u64 (t:Int),.int .u64 (k:Int),.int .u64 (n:Int),.slice qo qs.length qc,.int .u32 (f:Int),.string Xu] 64 (0,0))) w'}:=⟨⟨_,HROD.out⟩⟩
     refine wp_region_seq (S:=fun w'=>w'.heap[bx]? = some (.cells #[.slice lo l.length lc,.int .u64 (a:Int),.int .u64 (t:Int),.int .u64 (k:Int),.int .u64 (n:Int),.slice qo qs.length qc,.int .u32 (f:Int),.string Xu] 64 (0,0))) [(0,true),(1,true),(2,true),(3,true),(4,true),(5,true),(6,true),(7,false),(8,true),(9,true),(10,true),(11,true),(12,true),(13,false),(14,false),(15,true),(16,true)] (by kernel_rfl) (by kernel_rfl) (by kernel_rfl) (by kernel_rfl) (by rw[HDN.out];exact HROD.out) ?_
     rw[HDN.out]
     iterate 4 (refine seq_take _ rfl (fun KC hK=>?_);go_simp;(first|refine hK _ ?_|refine ⟨_,fun _ _=>rfl,hK _ ?_⟩|(refine ⟨undef,by rw[if_neg (by simp[undef])],?_⟩;refine hK _ ?_));clear hK KC)
     first|(refine seq_take _ rfl (fun KC hK=>?_);go_simp;refine ⟨.slice lo l.length lc,fun wA ha=>by (have e0:wA.cell? ⟨bx,0,none⟩=some (.slice lo l.length lc):=row_cell ha (j:=0) rfl);simp only[e0,Result.andThen],hK _ ?_⟩;clear hK KC)|(refine seq_take _ rfl (fun KC hK=>?_);go_simp;(first|refine hK _ ?_|refine ⟨_,fun _ _=>rfl,hK _ ?_⟩|(refine ⟨undef,by rw[if_neg (by simp[undef])],?_⟩;refine hK _ ?_));clear hK KC)
     iterate 2 (refine seq_take _ rfl (fun KC hK=>?_);go_simp;(first|refine hK _ ?_|refine ⟨_,fun _ _=>rfl,hK _ ?_⟩|(refine ⟨undef,by rw[if_neg (by simp[undef])],?_⟩;refine hK _ ?_));clear hK KC)
     first
     | (refine seq_come _ rfl (fun KC hK=>?_);go_simp
        refine (mayks_any8 l lo lc Q _ (d - 1) HFl.out (HKl.out.below HB.out) (by have:=HDD.out;have:=of_decide_eq_true d1;omega) (by have:=HWTl.out;omega)).mono ?_;rintro e wz ⟨hb,gg,rfl,rfl⟩
        rw[kmays_ref d (of_decide_eq_true d1),cl]
        replace HB:=Lib.hid (below_step HB.out hb)
        clear hb
        go_simp;refine hK.out _ _ ((HB.out.block _ (row_lt HROD.out)).trans HROD.out) ?_;clear hK KC)
     | (refine seq_come _ rfl (fun KC hK=>?_);go_simp;(first|refine hK.out _ _ ((HB.out.block _ (row_lt HROD.out)).trans HROD.out) ?_|(rw[if_neg (by simp[undef])];refine hK.out _ _ ((HB.out.block _ (row_lt HROD.out)).trans HROD.out) ?_));clear hK KC)
     iterate 3 (refine seq_take _ rfl (fun KC hK=>?_);go_simp;(first|refine hK _ ?_|refine ⟨_,fun _ _=>rfl,hK _ ?_⟩|(refine ⟨undef,by rw[if_neg (by simp[undef])],?_⟩;refine hK _ ?_));clear hK KC)
     first|(refine seq_take _ rfl (fun KC hK=>?_);go_simp;refine ⟨.string Xu,fun wA ha=>by (have e0:wA.cell? ⟨bx,7,none⟩=some (.string Xu):=row_cell ha (j:=7) rfl);simp only[e0,Result.andThen],hK _ ?_⟩;clear hK KC)|(refine seq_take _ rfl (fun KC hK=>?_);go_simp;(first|refine hK _ ?_|refine ⟨_,fun _ _=>rfl,hK _ ?_⟩|(refine ⟨undef,by rw[if_neg (by simp[undef])],?_⟩;refine hK _ ?_));clear hK KC)
     (refine seq_take _ rfl (fun KC hK=>?_);go_simp;(first|refine hK _ ?_|refine ⟨_,fun _ _=>rfl,hK _ ?_⟩|(refine ⟨undef,by rw[if_neg (by simp[undef])],?_⟩;refine hK _ ?_));clear hK KC)
     first
     | (refine seq_come _ rfl (fun KC hK=>?_);go_simp
        refine (su_tab _).mono ?_;rintro e wz ⟨to,rfl,HNT,hb⟩
        replace HB:=Lib.hid (below_step HB.out hb)
        clear hb
        go_simp;refine hK.out _ _ ((HB.out.block _ (row_lt HROD.out)).trans HROD.out) ?_;clear hK KC)
     | (refine seq_come _ rfl (fun KC hK=>?_);go_simp;(first|refine hK.out _ _ ((HB.out.block _ (row_lt HROD.out)).trans HROD.out) ?_|(rw[if_neg (by simp[undef])];refine hK.out _ _ ((HB.out.block _ (row_lt HROD.out)).trans HROD.out) ?_));clear hK KC)
     first
     | (refine seq_come _ rfl (fun KC hK=>?_);go_simp
        refine (unknown8_any Xu d [17,25,33,41,50,58,64] to 7 _ HNT (by decide) (Lib.hid (by decide)) (by have:=HZu.out;omega) HDD.out.2).mono ?_;rintro e wz ⟨rfl,hb⟩
        rw[HDu.out,←munkOk_rtk su_rtk,cu,show decide (0≤d)=true from d1]
        replace HB:=Lib.hid (below_step HB.out hb)
        clear hb
        go_simp;refine hK.out _ _ ((HB.out.block _ (row_lt HROD.out)).trans HROD.out) ?_;clear hK KC)
     | (refine seq_come _ rfl (fun KC hK=>?_);go_simp;(first|refine hK.out _ _ ((HB.out.block _ (row_lt HROD.out)).trans HROD.out) ?_|(rw[if_neg (by simp[undef])];refine hK.out _ _ ((HB.out.block _ (row_lt HROD.out)).trans HROD.out) ?_));clear hK KC)
     iterate 2 (refine seq_take _ rfl (fun KC hK=>?_);go_simp;(first|refine hK _ ?_|refine ⟨_,fun _ _=>rfl,hK _ ?_⟩|(refine ⟨undef,by rw[if_neg (by simp[undef])],?_⟩;refine hK _ ?_));clear hK KC)
     refine seq_done ?_
     clear hne
     go_wp2_with fail
     go_ret
     exact ⟨rfl,below_step HBD.out HB.out⟩
end Go.Proofs.YtjbingoliffjiaaGreatDoor
