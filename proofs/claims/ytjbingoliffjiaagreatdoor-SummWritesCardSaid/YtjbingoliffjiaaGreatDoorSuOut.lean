/-
  hygref13.Summary; Size.
-/
import Derived.Test.YtjbingoliffjiaaGreatDoorSuMay
import Derived.Test.YtjbingoliffjiaaGreatDoorRefOut
import Derived.Test.YtjbingoliffjiaaGreatDoorQuRead
set_option maxRecDepth 1000000
set_option maxHeartbeats 16000000
namespace Go.Proofs.YtjbingoliffjiaaGreatDoor
open Go.RowKit
theorem su_rout (x:Su) (cs:List Value) (Q:Nat→Prop) (d:Int) (w:World) (ha:su_arg x) (hw:su_wt x≤12000) (hr:suCel.R w Q x cs) (hm:su_may d x=true) :
 Calls Tryz.prog 41 #[.agg cs.toArray] w fun e w'=>e = .returned (.string ⟨(su_out x).toArray⟩)∧Below w.heap.size w w':=by
 have hft:=su_fit_ofx ha hw
 obtain ⟨⟨a,⟨t,⟨k,⟨n,⟨qs,⟨l,f⟩⟩⟩⟩⟩⟩,u⟩:=x
 obtain ⟨lo,lc,qo,qc,rfl,hrl,hrqs⟩:=hr
 have hwt:20+(lwt quSb qs+ksw l+u.length)≤12000:=hw
 clear hw
 obtain ⟨hna,hnt,hnk,hnn,hfqs,hfl,hnf,hw⟩:=hft
 dsimp only[strV]
 obtain ⟨Xu,hXu⟩:∃ X:ByteArray,(⟨u.toArray⟩:ByteArray)=X:=⟨_,rfl⟩
 have HDu:Hid (Xu.data.toList=u):=Lib.hid (by rw[←hXu])
 have HZu:Hid (Xu.size≤12000):=Lib.hid (by rw[←hXu];simp[ByteArray.size];omega)
 rw[hXu]
 clear hXu
 have hm2:(decide (0≤d)&&((lmays quSb qs d&&kmays l d)&&munkOk suF.tk u d))=true:=hm
 simp only[Bool.and_eq_true,decide_eq_true_eq] at hm2
 have HMl:=Lib.hid hm2.2.1.2
 obtain ⟨ox,hox⟩:∃ q0,su_out ((a,(t,(k,(n,(qs,(l,f)))))),u)=q0:=⟨_,rfl⟩
 rw[hox]
 have HOX:=Lib.hid hox
 have HKqs:Hid (CRels quCel w Q qs qo):=Lib.hid hrqs
 have HKl0:Hid (KRels w Q l lo 0):=Lib.hid hrl
 have HFl:=Lib.hid hfl
 have HFqs:=Lib.hid hfqs
 have HWTl:Hid (ksw l≤12000):=Lib.hid (by omega)
 have HWTq:Hid (lwt quSb qs≤12000):=Lib.hid (by omega)
 have hql:qs.length≤12000:=by have:=qus_len qs;omega
 have HNa:=Lib.hid hna
 have HNt:=Lib.hid hnt
 have HNk:=Lib.hid hnk
 have HNn:=Lib.hid hnn
 have HNf:=Lib.hid hnf
 have qwf:=u64_wrap32 HNf.out
 obtain ⟨bx,hbx⟩:∃ b,w.heap.size=b:=⟨_,rfl⟩
 obtain ⟨W,hW⟩:∃ W,w.alloc (.cells #[.slice lo l.length lc,.int .u64 (a:Int),.int .u64 (t:Int),.int .u64 (k:Int),.int .u64 (n:Int),.slice qo qs.length qc,.int .u32 (f:Int),.string Xu] 64)=W:=⟨_,rfl⟩
 have HB0:Hid (Below w.heap.size w W):=Lib.hid (by rw[←hW];exact below_new _ _)
 have HROW:Hid (W.heap[bx]? = some (.cells #[.slice lo l.length lc,.int .u64 (a:Int),.int .u64 (t:Int),.int .u64 (k:Int),.int .u64 (n:Int),.slice qo qs.length qc,.int .u32 (f:Int),.string Xu] 64 (0,0))):=Lib.hid (by rw[←hW,←hbx];exact new_row _ _ _)
 have HW:=Lib.hid hW
 have HBX:=Lib.hid hbx
 clear hW hbx hm hm2 hox hna hnt hnk hnn hfqs hfl hnf hw hwt ha hrl hrqs
 go_enter Tryz.func41,Tryz.ntmps41
 go_wp2_with fail
 rw[HW.out,HBX.out]
 go_loopg [3,4] qs.length (fun gz s i wr=>∃ (j:Nat) (T6:ByteArray),s = .string T6∧i = .int .i64 (j:Int)∧j+gz=qs.length∧Below w.heap.size w wr∧Hid (wr.heap[bx]? = some (.cells #[.slice lo l.length lc,.int .u64 (a:Int),.int .u64 (t:Int),.int .u64 (k:Int),.int .u64 (n:Int),.slice qo qs.length qc,.int .u32 (f:Int),.string Xu] 64 (0,0)))∧Hid (T6.data.toList=louts quSb 6 (qs.take j)))
 case atStart=>exact ⟨0,_,rfl,rfl,by omega,HB0.out,HROW,Lib.hid rfl⟩
 case round =>
  obtain ⟨j,T6,rfl,rfl,hj,hbr,HRW,HSQ⟩:=hrel
  have HBR:=Lib.hid hbr
  have HJ:=Lib.hid hj
  have HZ6:Hid (T6.size≤13500):=Lib.hid (by
    have h1:T6.size=T6.data.toList.length:=by simp
    have h3:lwt quSb (qs.take j)≤lwt quSb qs:=lwt_take qs j
    have h2:=qus_olen (num:=6) (by omega) (qs.take j) (by have:=HWTq.out;omega)
    rw[HSQ.out] at h1
    have:=HWTq.out
    omega)
  clear hbr hj
  have x5:wr.cell? ⟨bx,5,none⟩=some (.slice qo qs.length qc):=row_cell HRW.out (j:=5) rfl
  by_cases hlt:j<qs.length
  · obtain ⟨ga,oa,ca,hqo,_,hga,hca,hra⟩:=(HKqs.out.below HBR.out) j hlt
    have hca:Cells wr ga (oa+3 * j) ca:=hca
    have hmem:=List.getElem_mem hlt
    have HFX:=HFqs.out _ hmem
    obtain ⟨x,hx⟩:∃ x,qs[j]=x:=⟨_,rfl⟩
    have HXW:Hid (qu_wt x≤12000):=Lib.hid (by rw[←hx];have:=lwt_mem (S:=quSb) hmem;have h2:quSb.wt qs[j]=qu_wt qs[j]:=rfl;have:=HWTq.out;omega)
    have HTK:Hid (louts quSb 6 (qs.take (j+1))=louts quSb 6 (qs.take j)++(rB 6 (qu_out x)).raw):=Lib.hid (by rw[List.take_succ_eq_append_getElem hlt,louts_app,louts_one,hx];rfl)
    rw[hx] at hra HFX
    clear hx hmem
    obtain ⟨⟨q0,v0⟩,u0⟩:=x
    obtain ⟨hnq,hnv,_⟩:=HFX
    have hra:ca=[.int .u64 (q0:Int),.int .u64 (v0:Int),strV u0]:=hra
    subst hra
    unfold strV at hca
    have hu0:u0.length≤12000:=by have h:20+u0.length≤12000:=HXW.out;omega
    obtain ⟨Xq,hXq⟩:∃ X:ByteArray,(⟨u0.toArray⟩:ByteArray)=X:=⟨_,rfl⟩
    have HXD:Hid (Xq.data.toList=u0):=Lib.hid (by rw[←hXq])
    have HZQ:Hid (Xq.size≤12000):=Lib.hid (by rw[←hXq];simpa [ByteArray.size] using hu0)
    have HNQ:=Lib.hid hnq
    have HNV:=Lib.hid hnv
    rw[hXq] at hca
    rw[hqo] at x5
    obtain ⟨ea0,ea1,ea2⟩:=cells3 hca
    clear hXq hca hu0 hnq hnv hqo
    go_upto_region 6 with fail
    obtain ⟨by0,hby⟩:∃ b,wr.heap.size=b:=⟨_,rfl⟩
    obtain ⟨W2,hW2⟩:∃ W,wr.alloc (.cells #[.int .u64 (q0:Int),.int .u64 (v0:Int),.string Xq] 141)=W:=⟨_,rfl⟩
    have hb2:Below wr.heap.size wr W2:=by rw[←hW2];exact below_new _ _
    have hr2:W2.heap[by0]? = some (.cells #[.int .u64 (q0:Int),.int .u64 (v0:Int),.string Xq] 141 (0,0)):=by rw[←hW2,←hby];exact new_row _ _ _
    rw[hW2,hby]
    clear hW2 hby ea0 ea1 ea2 x5
    obtain ⟨D,hD⟩:∃ D,W2.drew=D:=⟨_,rfl⟩
    have hbd:Below W2.heap.size W2 D:=by rw[←hD];exact (Below.refl _ _).drew
    have HBD:Hid (Below wr.heap.size wr D):=Lib.hid (below_step hb2 hbd)
    have hS:D.heap[by0]? = some (.cells #[.int .u64 (q0:Int),.int .u64 (v0:Int),.string Xq] 141 (0,0)):=(hbd.block _ (row_lt hr2)).trans hr2
    have hne:Nonempty {w':World // w'.heap[by0]? = some (.cells #[.int .u64 (q0:Int),.int .u64 (v0:Int),.string Xq] 141 (0,0))}:=⟨⟨_,hS⟩⟩
    refine wp_region_seq (S:=fun w'=>w'.heap[by0]? = some (.cells #[.int .u64 (q0:Int),.int .u64 (v0:Int),.string Xq] 141 (0,0))) [(0,true),(1,true),(2,true),(4,true),(5,true),(8,true),(9,true),(3,false),(6,false),(7,true),(10,true),(11,false),(12,true),(13,true)] (by kernel_rfl) (by kernel_rfl) (by kernel_rfl) (by kernel_rfl) (by rw[hD];exact hS) ?_
    rw[hD]
    clear hD hbd hb2 hr2
    iterate 2 (refine seq_take _ rfl (fun K2 hK=>?_);go_simp;(first|refine hK _ ?_|refine ⟨_,fun _ _=>rfl,hK _ ?_⟩);clear hK K2)
    refine seq_take _ rfl (fun K2 hK=>?_);go_simp
    refine ⟨.int .u64 (q0:Int),fun a ha=>by (have e0:a.cell? ⟨by0,0,none⟩=some (.int .u64 (q0:Int)):=row_cell ha (j:=0) rfl);rw[e0];rfl,hK _ ?_⟩;clear hK K2
    (refine seq_take _ rfl (fun K2 hK=>?_);go_simp;(first|refine hK _ ?_|refine ⟨_,fun _ _=>rfl,hK _ ?_⟩);clear hK K2)
    refine seq_take _ rfl (fun K2 hK=>?_);go_simp
    refine ⟨.int .u64 (v0:Int),fun a ha=>by (have e0:a.cell? ⟨by0,1,none⟩=some (.int .u64 (v0:Int)):=row_cell ha (j:=1) rfl);rw[e0];rfl,hK _ ?_⟩;clear hK K2
    (refine seq_take _ rfl (fun K2 hK=>?_);go_simp;(first|refine hK _ ?_|refine ⟨_,fun _ _=>rfl,hK _ ?_⟩);clear hK K2)
    refine seq_take _ rfl (fun K2 hK=>?_);go_simp
    refine ⟨.string Xq,fun a ha=>by (have e0:a.cell? ⟨by0,2,none⟩=some (.string Xq):=row_cell ha (j:=2) rfl);rw[e0];rfl,hK _ ?_⟩;clear hK K2
    refine seq_come _ rfl (fun K2 hK=>?_);go_simp
    refine (putnum8_any 1 q0 _ (by omega) (by omega) HNQ.out).mono ?_;rintro e w4 ⟨hb4,A1,rfl,HA1⟩
    have hS4:=(hb4.block _ (row_lt hS)).trans hS
    have HB4:=Lib.hid (below_step HBD.out hb4)
    go_simp;refine hK.out _ _ hS4 ?_;clear hK K2 hb4
    refine seq_come _ rfl (fun K2 hK=>?_);go_simp
    refine (putnum8_any 2 v0 _ (by omega) (by omega) HNV.out).mono ?_;rintro e w5 ⟨hb5,A2,rfl,HA2⟩
    have hS5:=(hb5.block _ (row_lt hS4)).trans hS4
    have HB5:=Lib.hid (below_step HB4.out hb5)
    go_simp;refine hK.out _ _ hS5 ?_;clear hK K2 hb5
    have hz1:A1.size≤20:=by have h1:A1.size=A1.data.toList.length:=(by simp);rw[HA1.out] at h1;have:=num_seg 1 q0;omega
    have hz2:A2.size≤20:=by have h1:A2.size=A2.data.toList.length:=(by simp);rw[HA2.out] at h1;have:=num_seg 2 v0;omega
    have hov:¬9223372036854775807<A1.size+A2.size:=by omega
    refine seq_take _ rfl (fun K2 hK=>?_);go_simp
    (first|refine hK _ ?_|(rw[if_neg hov];refine hK _ ?_)|refine ⟨_,fun _ _=>rfl,hK _ ?_⟩|(refine ⟨_,fun _ _=>by rw[if_neg hov],?_⟩;refine hK _ ?_));clear hK K2 hov
    have hov:¬9223372036854775807<A1.size+A2.size+Xq.size:=by have:=HZQ.out;omega
    refine seq_take _ rfl (fun K2 hK=>?_);go_simp
    (first|refine hK _ ?_|(rw[if_neg hov];refine hK _ ?_)|refine ⟨_,fun _ _=>rfl,hK _ ?_⟩|(refine ⟨_,fun _ _=>by rw[if_neg hov],?_⟩;refine hK _ ?_));clear hK K2 hov
    have HQO:Hid ((A1++A2++Xq).data.toList=qu_out ((q0,v0),u0)):=Lib.hid (by
      rw[ByteArray.data_append,Array.toList_append,ByteArray.data_append,Array.toList_append,HA1.out,HA2.out,HXD.out];rfl)
    have HQL:Hid ((qu_out ((q0,v0),u0)).length≤12100):=Lib.hid (by rw[←HQO.out];simp only[ByteArray.data_append,Array.toList_append,List.length_append,HA1.out,HA2.out,HXD.out];have:=num_seg 1 q0;have:=num_seg 2 v0;have h:20+u0.length≤12000:=HXW.out;omega)
    refine seq_come _ rfl (fun K2 hK=>?_);go_simp
    refine (rbytes_raw 6 (A1++A2++Xq) (qu_out ((q0,v0),u0)) w5 (by omega) (by omega) HQO.out (by have:=HQL.out;omega)).mono ?_;rintro e w6 ⟨hb6,A3,rfl,HA3⟩
    have hS6:=(hb6.block _ (row_lt hS5)).trans hS5
    have HB6:=Lib.hid (below_step HB5.out hb6)
    go_simp;refine hK.out _ _ hS6 ?_;clear hK K2 hb6
    have hov:¬9223372036854775807<T6.size+A3.size:=by
      have h1:A3.size=A3.data.toList.length:=(by simp)
      rw[HA3.out] at h1
      have h2:=rB_len20 6 (qu_out ((q0,v0),u0))
      have:=HQL.out
      have:=HZ6.out
      omega
    refine seq_take _ rfl (fun K2 hK=>?_);go_simp
    (first|refine hK _ ?_|(rw[if_neg hov];refine hK _ ?_)|refine ⟨_,fun _ _=>rfl,hK _ ?_⟩|(refine ⟨_,fun _ _=>by rw[if_neg hov],?_⟩;refine hK _ ?_));clear hK K2 hov
    (refine seq_take _ rfl (fun K2 hK=>?_);go_simp;(first|refine hK _ ?_|refine ⟨_,fun _ _=>rfl,hK _ ?_⟩);clear hK K2)
    refine seq_done ?_
    clear hne hS hS4 hS5 hS6 hz1 hz2
    have HBW:=Lib.hid (below_step HBR.out HB6.out)
    have HRW6:=Lib.hid ((HB6.out.block _ (row_lt HRW.out)).trans HRW.out)
    go_wp2_with fail
    have hj:=HJ.out
    go_roundg (gk - 1)
    case measure=>omega
    case rel=>exact ⟨j+1,T6++A3,rfl,by simp,by omega,HBW.out,HRW6,Lib.hid (by rw[ByteArray.data_append,Array.toList_append,HSQ.out,HA3.out,HTK.out])⟩
  · have hjn:j=qs.length:=by have:=HJ.out;omega
    have HDT6:Hid (T6.data.toList=louts quSb 6 qs):=Lib.hid (by have h:=HSQ.out;rwa [hjn,List.take_length] at h)
    have HZT6:=HZ6
    clear hjn
    go_wp2_with fail
    clear x5
    obtain ⟨D,hD⟩:∃ D,wr.drew=D:=⟨_,rfl⟩
    have hbd:Below wr.heap.size wr D:=by rw[←hD];exact (Below.refl _ _).drew
    have HBD:=Lib.hid (below_step HBR.out hbd)
    have HROD:=Lib.hid ((hbd.block _ (row_lt HRW.out)).trans HRW.out)
    have HKl:Hid (KRels D Q l lo 0):=Lib.hid (HKl0.out.below HBD.out)
    have HDN:=Lib.hid hD
    clear hD hbd
    have HB:Hid (Below D.heap.size D D):=Lib.hid (Below.refl _ _)
    have hne:Nonempty {w':World // (fun w'=>w'.heap[bx]? = some (.cells #[.slice lo l.length lc,.int .u64 (a:Int),.int .u64 (t:Int),.int .u64 (k:Int),.int .u64 (n:Int),.slice qo qs.length qc,.int .u32 (f:Int),.string Xu] 64 (0,0))) w'}:=⟨⟨_,HROD.out⟩⟩
    refine wp_region_seq (S:=fun w'=>w'.heap[bx]? = some (.cells #[.slice lo l.length lc,.int .u64 (a:Int),.int .u64 (t:Int),.int .u64 (k:Int),.int .u64 (n:Int),.slice qo qs.length qc,.int .u32 (f:Int),.string Xu] 64 (0,0))) [(0,true),(1,true),(3,true),(4,true),(7,true),(8,true),(11,true),(12,true),(15,true),(17,true),(18,true),(21,true),(22,true),(23,true),(26,true),(27,true),(2,false),(5,false),(6,true),(9,false),(10,true),(13,false),(14,true),(16,true),(19,false),(20,true),(24,false),(25,true),(28,true),(29,true)] (by kernel_rfl) (by kernel_rfl) (by kernel_rfl) (by kernel_rfl) (by rw[HDN.out];exact HROD.out) ?_
    rw[HDN.out]
    (refine seq_take _ rfl (fun KC hK=>?_);go_simp;(first|refine hK _ ?_|refine ⟨_,fun _ _=>rfl,hK _ ?_⟩|(refine ⟨undef,by rw[if_neg (by simp[undef])],?_⟩;refine hK _ ?_));clear hK KC)
    (refine seq_take _ rfl (fun KC hK=>?_);go_simp;refine ⟨.int .u64 (a:Int),fun wA ha=>by (have e0:wA.cell? ⟨bx,1,none⟩=some (.int .u64 (a:Int)):=row_cell ha (j:=1) rfl);simp only[e0,Result.andThen],hK _ ?_⟩;clear hK KC)
    (refine seq_take _ rfl (fun KC hK=>?_);go_simp;(first|refine hK _ ?_|refine ⟨_,fun _ _=>rfl,hK _ ?_⟩|(refine ⟨undef,by rw[if_neg (by simp[undef])],?_⟩;refine hK _ ?_));clear hK KC)
    (refine seq_take _ rfl (fun KC hK=>?_);go_simp;refine ⟨.int .u64 (t:Int),fun wA ha=>by (have e0:wA.cell? ⟨bx,2,none⟩=some (.int .u64 (t:Int)):=row_cell ha (j:=2) rfl);simp only[e0,Result.andThen],hK _ ?_⟩;clear hK KC)
    (refine seq_take _ rfl (fun KC hK=>?_);go_simp;(first|refine hK _ ?_|refine ⟨_,fun _ _=>rfl,hK _ ?_⟩|(refine ⟨undef,by rw[if_neg (by simp[undef])],?_⟩;refine hK _ ?_));clear hK KC)
    (refine seq_take _ rfl (fun KC hK=>?_);go_simp;refine ⟨.int .u64 (k:Int),fun wA ha=>by (have e0:wA.cell? ⟨bx,3,none⟩=some (.int .u64 (k:Int)):=row_cell ha (j:=3) rfl);simp only[e0,Result.andThen],hK _ ?_⟩;clear hK KC)
    (refine seq_take _ rfl (fun KC hK=>?_);go_simp;(first|refine hK _ ?_|refine ⟨_,fun _ _=>rfl,hK _ ?_⟩|(refine ⟨undef,by rw[if_neg (by simp[undef])],?_⟩;refine hK _ ?_));clear hK KC)
    (refine seq_take _ rfl (fun KC hK=>?_);go_simp;refine ⟨.int .u64 (n:Int),fun wA ha=>by (have e0:wA.cell? ⟨bx,4,none⟩=some (.int .u64 (n:Int)):=row_cell ha (j:=4) rfl);simp only[e0,Result.andThen],hK _ ?_⟩;clear hK KC)
    iterate 2 (refine seq_take _ rfl (fun KC hK=>?_);go_simp;(first|refine hK _ ?_|refine ⟨_,fun _ _=>rfl,hK _ ?_⟩|(refine ⟨undef,by rw[if_neg (by simp[undef])],?_⟩;refine hK _ ?_));clear hK KC)
    (refine seq_take _ rfl (fun KC hK=>?_);go_simp;refine ⟨.slice lo l.length lc,fun wA ha=>by (have e0:wA.cell? ⟨bx,0,none⟩=some (.slice lo l.length lc):=row_cell ha (j:=0) rfl);simp only[e0,Result.andThen],hK _ ?_⟩;clear hK KC)
    (refine seq_take _ rfl (fun KC hK=>?_);go_simp;(first|refine hK _ ?_|refine ⟨_,fun _ _=>rfl,hK _ ?_⟩|(refine ⟨undef,by rw[if_neg (by simp[undef])],?_⟩;refine hK _ ?_));clear hK KC)
    (refine seq_take _ rfl (fun KC hK=>?_);go_simp;refine ⟨.int .u32 (f:Int),fun wA ha=>by (have e0:wA.cell? ⟨bx,6,none⟩=some (.int .u32 (f:Int)):=row_cell ha (j:=6) rfl);simp only[e0,Result.andThen],hK _ ?_⟩;clear hK KC)
    iterate 2 (refine seq_take _ rfl (fun KC hK=>?_);go_simp;(first|refine hK _ ?_|refine ⟨_,fun _ _=>rfl,hK _ ?_⟩|(refine ⟨undef,by rw[if_neg (by simp[undef])],?_⟩;refine hK _ ?_));clear hK KC)
    (refine seq_take _ rfl (fun KC hK=>?_);go_simp;refine ⟨.string Xu,fun wA ha=>by (have e0:wA.cell? ⟨bx,7,none⟩=some (.string Xu):=row_cell ha (j:=7) rfl);simp only[e0,Result.andThen],hK _ ?_⟩;clear hK KC)
    refine seq_come _ rfl (fun KC hK=>?_);go_simp
    refine (putnum8_any 2 a _ (by omega) (by omega) HNa.out).mono ?_;rintro e wz ⟨hb,T2,rfl,HDT2⟩
    have HZT2:Hid (T2.size≤13000):=Lib.hid (by have h1:T2.size=(T2.data.toList).length:=(by simp);rw[HDT2.out] at h1;have:=num_seg 2 a;omega)
    replace HB:=Lib.hid (below_step HB.out hb)
    clear hb
    go_simp;refine hK.out _ _ ((HB.out.block _ (row_lt HROD.out)).trans HROD.out) ?_;clear hK KC
    refine seq_come _ rfl (fun KC hK=>?_);go_simp
    refine (putnum8_any 3 t _ (by omega) (by omega) HNt.out).mono ?_;rintro e wz ⟨hb,T3,rfl,HDT3⟩
    have HZT3:Hid (T3.size≤13000):=Lib.hid (by have h1:T3.size=(T3.data.toList).length:=(by simp);rw[HDT3.out] at h1;have:=num_seg 3 t;omega)
    replace HB:=Lib.hid (below_step HB.out hb)
    clear hb
    go_simp;refine hK.out _ _ ((HB.out.block _ (row_lt HROD.out)).trans HROD.out) ?_;clear hK KC
    have hov:¬9223372036854775807<T2.size+T3.size:=by have:=HZT2.out;have:=HZT3.out;omega
    refine seq_take _ rfl (fun KC hK=>?_);go_simp
    (first|refine hK _ ?_|(rw[if_neg hov];refine hK _ ?_)|refine ⟨_,fun _ _=>rfl,hK _ ?_⟩|(refine ⟨_,fun _ _=>by rw[if_neg hov],?_⟩;refine hK _ ?_));clear hK KC hov
    refine seq_come _ rfl (fun KC hK=>?_);go_simp
    refine (putnum8_any 4 k _ (by omega) (by omega) HNk.out).mono ?_;rintro e wz ⟨hb,T4,rfl,HDT4⟩
    have HZT4:Hid (T4.size≤13000):=Lib.hid (by have h1:T4.size=(T4.data.toList).length:=(by simp);rw[HDT4.out] at h1;have:=num_seg 4 k;omega)
    replace HB:=Lib.hid (below_step HB.out hb)
    clear hb
    go_simp;refine hK.out _ _ ((HB.out.block _ (row_lt HROD.out)).trans HROD.out) ?_;clear hK KC
    have hov:¬9223372036854775807<T2.size+T3.size+T4.size:=by have:=HZT2.out;have:=HZT3.out;have:=HZT4.out;omega
    refine seq_take _ rfl (fun KC hK=>?_);go_simp
    (first|refine hK _ ?_|(rw[if_neg hov];refine hK _ ?_)|refine ⟨_,fun _ _=>rfl,hK _ ?_⟩|(refine ⟨_,fun _ _=>by rw[if_neg hov],?_⟩;refine hK _ ?_));clear hK KC hov
    refine seq_come _ rfl (fun KC hK=>?_);go_simp
    refine (putnum8_any 5 n _ (by omega) (by omega) HNn.out).mono ?_;rintro e wz ⟨hb,T5,rfl,HDT5⟩
    have HZT5:Hid (T5.size≤13000):=Lib.hid (by have h1:T5.size=(T5.data.toList).length:=(by simp);rw[HDT5.out] at h1;have:=num_seg 5 n;omega)
    replace HB:=Lib.hid (below_step HB.out hb)
    clear hb
    go_simp;refine hK.out _ _ ((HB.out.block _ (row_lt HROD.out)).trans HROD.out) ?_;clear hK KC
    have hov:¬9223372036854775807<T2.size+T3.size+T4.size+T5.size:=by have:=HZT2.out;have:=HZT3.out;have:=HZT4.out;have:=HZT5.out;omega
    refine seq_take _ rfl (fun KC hK=>?_);go_simp
    (first|refine hK _ ?_|(rw[if_neg hov];refine hK _ ?_)|refine ⟨_,fun _ _=>rfl,hK _ ?_⟩|(refine ⟨_,fun _ _=>by rw[if_neg hov],?_⟩;refine hK _ ?_));clear hK KC hov
    have hov:¬9223372036854775807<T2.size+T3.size+T4.size+T5.size+T6.size:=by have:=HZT2.out;have:=HZT3.out;have:=HZT4.out;have:=HZT5.out;have:=HZT6.out;omega
    refine seq_take _ rfl (fun KC hK=>?_);go_simp
    (first|refine hK _ ?_|(rw[if_neg hov];refine hK _ ?_)|refine ⟨_,fun _ _=>rfl,hK _ ?_⟩|(refine ⟨_,fun _ _=>by rw[if_neg hov],?_⟩;refine hK _ ?_));clear hK KC hov
    refine seq_come _ rfl (fun KC hK=>?_);go_simp
    refine (roks_any l 7 lo lc Q _ d (by omega) HFl.out (HKl.out.below HB.out) (by have:=HWTl.out;omega) HMl.out).mono ?_;rintro e wz ⟨hb,T7,rfl,HDT7⟩
    have HZT7:Hid (T7.size≤13000):=Lib.hid (by have h1:T7.size=(T7.data.toList).length:=(by simp);rw[HDT7.out] at h1;have:=kouts_le 7 (by omega) l;have:=HWTl.out;omega)
    replace HB:=Lib.hid (below_step HB.out hb)
    clear hb
    go_simp;refine hK.out _ _ ((HB.out.block _ (row_lt HROD.out)).trans HROD.out) ?_;clear hK KC
    have hov:¬9223372036854775807<T2.size+T3.size+T4.size+T5.size+T6.size+T7.size:=by have:=HZT2.out;have:=HZT3.out;have:=HZT4.out;have:=HZT5.out;have:=HZT6.out;have:=HZT7.out;omega
    refine seq_take _ rfl (fun KC hK=>?_);go_simp
    (first|refine hK _ ?_|(rw[if_neg hov];refine hK _ ?_)|refine ⟨_,fun _ _=>rfl,hK _ ?_⟩|(refine ⟨_,fun _ _=>by rw[if_neg hov],?_⟩;refine hK _ ?_));clear hK KC hov
    refine seq_come _ rfl (fun KC hK=>?_);go_simp
    refine (putvar8r_any 8 f _ (by omega) (by omega) (by have:=HNf.out;omega)).mono ?_;rintro e wz ⟨hb,T8,rfl,HDT8⟩
    have HZT8:Hid (T8.size≤13000):=Lib.hid (by have h1:T8.size=(T8.data.toList).length:=(by simp);rw[HDT8.out] at h1;have:=var_seg 8 f;omega)
    replace HB:=Lib.hid (below_step HB.out hb)
    clear hb
    go_simp;refine hK.out _ _ ((HB.out.block _ (row_lt HROD.out)).trans HROD.out) ?_;clear hK KC
    have hov:¬9223372036854775807<T2.size+T3.size+T4.size+T5.size+T6.size+T7.size+T8.size:=by have:=HZT2.out;have:=HZT3.out;have:=HZT4.out;have:=HZT5.out;have:=HZT6.out;have:=HZT7.out;have:=HZT8.out;omega
    refine seq_take _ rfl (fun KC hK=>?_);go_simp
    (first|refine hK _ ?_|(rw[if_neg hov];refine hK _ ?_)|refine ⟨_,fun _ _=>rfl,hK _ ?_⟩|(refine ⟨_,fun _ _=>by rw[if_neg hov],?_⟩;refine hK _ ?_));clear hK KC hov
    have hov:¬9223372036854775807<T2.size+T3.size+T4.size+T5.size+T6.size+T7.size+T8.size+Xu.size:=by have:=HZT2.out;have:=HZT3.out;have:=HZT4.out;have:=HZT5.out;have:=HZT6.out;have:=HZT7.out;have:=HZT8.out;have:=HZu.out;omega
    refine seq_take _ rfl (fun KC hK=>?_);go_simp
    (first|refine hK _ ?_|(rw[if_neg hov];refine hK _ ?_)|refine ⟨_,fun _ _=>rfl,hK _ ?_⟩|(refine ⟨_,fun _ _=>by rw[if_neg hov],?_⟩;refine hK _ ?_));clear hK KC hov
    (refine seq_take _ rfl (fun KC hK=>?_);go_simp;(first|refine hK _ ?_|refine ⟨_,fun _ _=>rfl,hK _ ?_⟩|(refine ⟨undef,by rw[if_neg (by simp[undef])],?_⟩;refine hK _ ?_));clear hK KC)
    refine seq_done ?_
    clear hne
    have hfin:(((((((T2++T3)++T4)++T5)++T6)++T7)++T8)++Xu)=(⟨ox.toArray⟩:ByteArray):=by
     refine ByteArray.ext (Array.ext' ?_)
     simp only[ByteArray.data_append,Array.toList_append]
     rw[HDT2.out,HDT3.out,HDT4.out,HDT5.out,HDT6.out,HDT7.out,HDT8.out,HDu.out]
     rw[←HOX.out]
     rfl
    have HFIN:=Lib.hid hfin
    clear hfin
    go_wp2_with fail
    rw[HFIN.out]
    go_ret
    exact ⟨rfl,below_step HBD.out HB.out⟩
theorem kmays_enm {l:List KV} {d e:Int} (he:190000≤e) (hw:ksw l≤100000) (h:kmays l d=true):kmays l e=true:=by
  induction l with
  | nil=>rw[kmays]
  | cons x l ih =>
    rw[kmays] at h ⊢
    rw[ksw] at hw
    simp only[Bool.and_eq_true,decide_eq_true_eq] at h ⊢
    exact ⟨⟨by omega,kmay_enough x _ _ h.1.2 (by omega)⟩,ih (by omega) h.2⟩
theorem qu_enm {x:Qu} {d e:Int} (he:200000≤e) (hw:qu_wt x≤12000) (hm:qu_may d x=true):qu_may e x=true:=by
  obtain ⟨⟨q,v⟩,u⟩:=x
  have hw:20+(u.length)≤12000:=hw
  have h:(decide (0≤d)&&(true&&munkOk quF.tk u d))=true:=hm
  show (decide (0≤e)&&(true&&munkOk quF.tk u e))=true
  simp only[Bool.and_eq_true,decide_eq_true_eq,Bool.true_and] at h ⊢
  exact ⟨by omega,munkOk_enough (by omega) h.2⟩
theorem qus_enm {l:List Qu} {d e:Int} (he:200001≤e) (hw:lwt quSb l≤12000) (h:lmays quSb l d=true):lmays quSb l e=true:=by
  unfold lmays at h ⊢
  rw[List.all_eq_true] at h ⊢
  intro x hx
  have h1:=h x hx
  rw[Bool.and_eq_true,decide_eq_true_eq] at h1 ⊢
  exact ⟨by omega,qu_enm (by omega) (qus_wt_le hx hw) h1.2⟩
theorem su_enm {x:Su} {d e:Int} (he:200001≤e) (hw:su_wt x≤12000) (hm:su_may d x=true):su_may e x=true:=by
  obtain ⟨⟨a,⟨t,⟨k,⟨n,⟨qs,⟨l,f⟩⟩⟩⟩⟩⟩,u⟩:=x
  have hw:20+(lwt quSb qs+ksw l+u.length)≤12000:=hw
  have h:(decide (0≤d)&&((lmays quSb qs d&&kmays l d)&&munkOk suF.tk u d))=true:=hm
  show (decide (0≤e)&&((lmays quSb qs e&&kmays l e)&&munkOk suF.tk u e))=true
  simp only[Bool.and_eq_true,decide_eq_true_eq] at h ⊢
  exact ⟨by omega,⟨qus_enm (by omega) (by omega) h.2.1.1,kmays_enm (by omega) (by omega) h.2.1.2⟩,munkOk_enough (by omega) h.2.2⟩
theorem su_enough {x:Su} {d:Int} (hw:su_wt x≤12000) (hm:su_may d x=true):su_may 262144 x=true:=su_enm (by omega) hw hm
end Go.Proofs.YtjbingoliffjiaaGreatDoor
