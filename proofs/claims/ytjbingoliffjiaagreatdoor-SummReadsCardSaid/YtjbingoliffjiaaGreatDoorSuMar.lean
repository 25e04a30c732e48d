/-
  summ.Marshal of any point.
-/
import Derived.Test.YtjbingoliffjiaaGreatDoorSuTakes
import Derived.Test.YtjbingoliffjiaaGreatDoorQuPut
import Derived.Test.YtjbingoliffjiaaGreatDoorPartK
set_option maxRecDepth 1000000
set_option maxHeartbeats 16000000
namespace Go.Proofs.YtjbingoliffjiaaGreatDoor
open Go.RowKit
theorem su_marshal_if (x:Su) (hMl:Hid (x.1.2.2.2.2.2.1≠[]→KMar)) (cs:List Value) (Q:Nat→Prop) (d:Int) (w:World) (hf:su_fit x) (hr:suCel.R w Q x cs) (hd : -9223372036854775808≤d∧d≤9223372036854775807) :
  Calls Tryz.prog 39 #[.agg cs.toArray,.int .i64 d] w (MarPost (su_may d x) (su_out x) w):=by
 obtain ⟨⟨a,⟨t,⟨k,⟨n,⟨qs,⟨l,f⟩⟩⟩⟩⟩⟩,u⟩:=x
 obtain ⟨lo,lc,qo,qc,rfl,hrl,hrqs⟩:=hr
 have HRl:=Lib.hid (KRels.lt _ _ _ hrl)
 have HRqs:=Lib.hid (CRels.lt hrqs)
 have HD:=Lib.hid hd
 obtain ⟨hna,hnt,hnk,hnn,hfqs,hfl,hnf,hw⟩:=hf
 have HFK:=Lib.hid hw
 have HNA:=Lib.hid hna
 have HNT:=Lib.hid hnt
 have HNK:=Lib.hid hnk
 have HNN:=Lib.hid hnn
 have HFQS:=Lib.hid hfqs
 have HFL:=Lib.hid hfl
 have HNF:=Lib.hid hnf
 obtain ⟨Xu,hXu⟩:∃ U:ByteArray,(⟨u.toArray⟩:ByteArray)=U:=⟨_,rfl⟩
 have HU:=Lib.hid hXu
 dsimp only[strV]
 rw[hXu]
 obtain ⟨mx,hmx⟩:∃ m,su_may d ((a,(t,(k,(n,(qs,(l,f)))))),u)=m:=⟨_,rfl⟩
 obtain ⟨ox,hox⟩:∃ m,su_out ((a,(t,(k,(n,(qs,(l,f)))))),u)=m:=⟨_,rfl⟩
 rw[hmx,hox]
 have HMX:=Lib.hid hmx
 have HOX:=Lib.hid hox
 obtain ⟨W0,hW0⟩:∃ W,w.alloc (.cells #[.slice lo l.length lc,.int .u64 (a:Int),.int .u64 (t:Int),.int .u64 (k:Int),.int .u64 (n:Int),.slice qo qs.length qc,.int .u32 (f:Int),.string Xu] 64)=W:=⟨_,rfl⟩
 obtain ⟨bx,hbx⟩:∃ bx,w.heap.size=bx:=⟨_,rfl⟩
 have HB0:Hid (Below w.heap.size w W0):=Lib.hid (by rw[←hW0];exact below_new _ _)
 have HX0:Hid (W0.heap[bx]? = some (.cells #[.slice lo l.length lc,.int .u64 (a:Int),.int .u64 (t:Int),.int .u64 (k:Int),.int .u64 (n:Int),.slice qo qs.length qc,.int .u32 (f:Int),.string Xu] 64 (0,0))):=Lib.hid (by rw[←hW0,←hbx];exact heap_alloc_new _ _)
 have HW0:=Lib.hid hW0
 have HBX:=Lib.hid hbx
 have HET:=Lib.hid (enters_of Tryz.func94 (by kernel_rfl) rfl)
 clear hW0 hbx hrl hrqs hd hmx hox hXu hna hnt hnk hnn hfqs hfl hnf hw
 go_enter Tryz.func39,Tryz.ntmps39
 go_wp2_with fail
 rw[HW0.out,HBX.out]
 refine (wmnew_any d W0).mono ?_;rintro e wz ⟨rfl,hb1,P1,hw1,hp1⟩
 obtain ⟨p,hp⟩:∃ p,W0.heap.size=p:=⟨_,rfl⟩
 have hpp:bx<p:=by rw[←hp];exact row_lt HX0.out
 rw[hp] at hw1 hb1 hp1 ⊢
 have HB1:Hid (Below p W0 wz):=Lib.hid hb1
 have HP1:Hid (∀ k,P1 k→p≤k):=Lib.hid hp1
 have HPE:=Lib.hid hp
 have HS:=Lib.hid (WSx.start (wh_new hw1) (Below.refl _ _) ((hb1.block _ hpp).trans HX0.out) (fun h=>by have:=hp1 bx h;omega))
 have HR1l:Hid (KRels wz (fun k=>Q k∧k<w.heap.size) l lo 0):=Lib.hid (KRels.upd (Upd.of_new (S:=fun _=>False) (HB0.out.trans (hb1.mono (by have:=HB0.out.size;omega)))) (fun _ _ h=>h) (fun _ h=>h) l lo 0 HRl.out)
 have HR1qs:Hid (CRels quCel wz (fun k=>Q k∧k<w.heap.size) qs qo):=Lib.hid (CRels.upd (Upd.of_new (S:=fun _=>False) (HB0.out.trans (hb1.mono (by have:=HB0.out.size;omega)))) (fun _ _ h=>h) (fun _ h=>h) HRqs.out)
 have HQ1:Hid (∀ k,Q k∧k<w.heap.size→k<p∧k<wz.heap.size):=Lib.hid (fun k hk=>by have:=HB0.out.size;have:=hb1.size;omega)
 clear hb1 hw1 hp1 hp
 have xc:wz.cell? ⟨bx,1,none⟩=some (.int .u64 (a:Int)):=HS.out.cell rfl
 go_wp2_with fail
 refine (wv_num 2 a HS.out.so.wr HNA.out (by omega) (by omega) (by have:=HS.out.so.len;have:=HFK.out;simp only[List.nil_append];omega) (by have:=HS.out.so.size;have:=HFK.out;simp only[List.nil_append];omega)).mono ?_;intro e wz hpost
 obtain ⟨qs2,P2,rfl,hs⟩:=HS.out.next hpost
 have HSN:=Lib.hid hs
 clear hpost hs HS xc
 have HS:=HSN
 clear HSN
 have xc:wz.cell? ⟨bx,2,none⟩=some (.int .u64 (t:Int)):=HS.out.cell rfl
 go_wp2_with fail
 refine (wv_num 3 t HS.out.so.wr HNT.out (by omega) (by omega) (by have:=HS.out.so.len;have:=HFK.out;simp only[List.nil_append];omega) (by have:=HS.out.so.size;have:=HFK.out;simp only[List.nil_append];omega)).mono ?_;intro e wz hpost
 obtain ⟨qs2,P2,rfl,hs⟩:=HS.out.next hpost
 have HSN:=Lib.hid hs
 clear hpost hs HS xc
 have HS:=HSN
 clear HSN
 have xc:wz.cell? ⟨bx,3,none⟩=some (.int .u64 (k:Int)):=HS.out.cell rfl
 go_wp2_with fail
 refine (wv_num 4 k HS.out.so.wr HNK.out (by omega) (by omega) (by have:=HS.out.so.len;have:=HFK.out;simp only[List.nil_append];omega) (by have:=HS.out.so.size;have:=HFK.out;simp only[List.nil_append];omega)).mono ?_;intro e wz hpost
 obtain ⟨qs2,P2,rfl,hs⟩:=HS.out.next hpost
 have HSN:=Lib.hid hs
 clear hpost hs HS xc
 have HS:=HSN
 clear HSN
 have xc:wz.cell? ⟨bx,4,none⟩=some (.int .u64 (n:Int)):=HS.out.cell rfl
 go_wp2_with fail
 refine (wv_num 5 n HS.out.so.wr HNN.out (by omega) (by omega) (by have:=HS.out.so.len;have:=HFK.out;simp only[List.nil_append];omega) (by have:=HS.out.so.size;have:=HFK.out;simp only[List.nil_append];omega)).mono ?_;intro e wz hpost
 obtain ⟨qs2,P2,rfl,hs⟩:=HS.out.next hpost
 have HSN:=Lib.hid hs
 clear hpost hs HS xc
 have HS:=HSN
 clear HSN
 have xc:wz.cell? ⟨bx,5,none⟩=some (.slice qo qs.length qc):=HS.out.cell rfl
 go_wp2_with fail
 refine (eachqu_any qs p d _ [] _ _ (fun k=>Q k∧k<w.heap.size) wz 6 qo qc HFQS.out (CRels.upd HS.out.so.upd (fun k hk h=>by have:=HP1.out k h;have:=HQ1.out k hk;omega) (fun _ h=>h) HR1qs.out) (fun k hk h=>by have:=HQ1.out k hk;rcases HS.out.so.new k h with h|h;(have:=HP1.out k h;omega);omega) HS.out.so.wr (by by_cases h:d<0;(left;simp[h]);(right;omega)) HD.out (by omega) ⟨by have:=HS.out.so.len;have:=HFK.out;simp only[List.nil_append];omega,by have:=HS.out.so.size;have:=HFK.out;simp only[List.nil_append];omega,by have:=HFK.out;show 0+_≤_;omega⟩).mono ?_;intro e wz hpost
 obtain ⟨qs2,P2,rfl,hs⟩:=HS.out.next hpost
 have HSN:=Lib.hid hs
 clear hpost hs HS xc
 have HS:=HSN
 clear HSN
 have xc:wz.cell? ⟨bx,0,none⟩=some (.slice lo l.length lc):=HS.out.cell rfl
 go_wp2_with fail
 refine (listk_if l hMl p d _ [] _ _ (fun k=>Q k∧k<w.heap.size) wz 7 lo lc HFL.out (KRels.upd HS.out.so.upd (fun k hk h=>by have:=HP1.out k h;have:=HQ1.out k hk;omega) (fun _ h=>h) l lo 0 HR1l.out) (fun k hk h=>by have:=HQ1.out k hk;rcases HS.out.so.new k h with h|h;(have:=HP1.out k h;omega);omega) HS.out.so.wr (by by_cases h:d<0;(left;simp[h]);(right;omega)) HD.out (by omega) ⟨by have:=HS.out.so.len;have:=HFK.out;simp only[List.nil_append];omega,by have:=HS.out.so.size;have:=HFK.out;simp only[List.nil_append];omega,by have:=HFK.out;omega⟩).mono ?_;intro e wz hpost
 obtain ⟨qs2,P2,rfl,hs⟩:=HS.out.next hpost
 have HSN:=Lib.hid hs
 clear hpost hs HS xc
 have HS:=HSN
 clear HSN
 have q1:=u64_wrap32 HNF.out
 have xc:wz.cell? ⟨bx,6,none⟩=some (.int .u32 (f:Int)):=HS.out.cell rfl
 go_wp2_with fail
 refine (wv_var 8 f HS.out.so.wr (by have:=HNF.out;omega) (by omega) (by omega) (by have:=HS.out.so.len;have:=HFK.out;simp only[List.nil_append];omega) (by have:=HS.out.so.size;have:=HFK.out;simp only[List.nil_append];omega)).mono ?_;intro e wz hpost
 obtain ⟨qs2,P2,rfl,hs⟩:=HS.out.next hpost
 have HSN:=Lib.hid hs
 clear hpost hs HS xc
 have HS:=HSN
 clear HSN
 have xc:wz.cell? ⟨bx,7,none⟩=some (.string Xu):=HS.out.cell rfl
 go_wp2_with fail
 refine (wv_rest Xu u suF.tk 94 HS.out.so.wr HU.out.symm (by have:=HFK.out;omega) (by have:=HS.out.so.len;have:=HFK.out;simp only[List.nil_append];omega) (by have:=HS.out.so.size;have:=HFK.out;simp only[List.nil_append];omega) HET.out (fun r w=>sutakes_any r w)).mono ?_;intro e wz hpost
 obtain ⟨qs2,P2,rfl,hs⟩:=HS.out.next hpost
 have HSN:=Lib.hid hs
 clear hpost hs HS xc
 have HS:=HSN
 clear HSN
 go_wp2_with fail
 obtain ⟨vo,P0,hwa,_⟩:=HS.out.so.wr
 have HWA:=Lib.hid hwa
 have HLB:=Lib.hid (And.intro HS.out.so.len HS.out.so.size)
 clear hwa
 refine (wend_any p d vo _ _ P0 _ HWA (by have:=HLB.out.1;simp only[List.nil_append];(have:=HFK.out;omega)) (by have:=HLB.out.2;simp only[List.nil_append];(have:=HFK.out;omega))).mono ?_;rintro e w9 ⟨hb9,hcase⟩
 have HB9:=Lib.hid (mar_below HB0.out HPE.out HB1.out HS.out.so.upd HP1.out hb9)
 have HBY:=Lib.hid HS.out.so.bytes
 obtain ⟨bb,hbb⟩:∃ bb,(decide (d<0)||!((((((((true&&true)&&true)&&true)&&true)&&lmays quSb qs d)&&kmays l d)&&true)&&munkOk suF.tk u d))=bb:=⟨_,rfl⟩
 rw[hbb] at hcase HBY
 have HBB:Hid (mx=!bb):=Lib.hid (by
   rw[←HMX.out,←hbb]
   show (decide (0≤d)&&((lmays quSb qs d&&kmays l d)&&munkOk suF.tk u d))=_
   by_cases h:d<0
   · rw[decide_eq_true h,decide_eq_false (by omega:¬0≤d)];rfl
   · rw[decide_eq_false h,decide_eq_true (by omega:0≤d)]
     simp only[Bool.true_and,Bool.and_true,Bool.false_or,Bool.not_not,Bool.and_assoc])
 clear hb9 hbb
 cases bb with
 | true =>
   rw[if_pos rfl] at hcase
   obtain ⟨v,rfl,hec⟩:=hcase
   obtain ⟨T',y,rfl⟩:=hec.iface
   have HEC:=Lib.hid hec
   clear hec
   go_wp2_with fail
   go_ret2
   refine ⟨HB9.out,?_⟩
   rw[HBB.out,if_neg (by simp)]
   exact ⟨_,rfl,HEC.out⟩
 | false =>
   rw[if_neg (by simp)] at hcase
   subst hcase
   have hq9:=HBY.out rfl
   rw[List.nil_append,hq9]
   have hoe:([]++(if a=0 then [] else (rF 2 a).raw)++(if t=0 then [] else (rF 3 t).raw)++(if k=0 then [] else (rF 4 k).raw)++(if n=0 then [] else (rF 5 n).raw)++louts quSb 6 qs++kouts 7 l++(if f=0 then [] else (rN 8 f).raw)++u:List UInt8)=ox:=by
     rw[←HOX.out]
     show _=(if a=0 then [] else (rF 2 a).raw)++(if t=0 then [] else (rF 3 t).raw)++(if k=0 then [] else (rF 4 k).raw)++(if n=0 then [] else (rF 5 n).raw)++louts quSb 6 qs++kouts 7 l++(if f=0 then [] else (rN 8 f).raw)++u
     simp only[List.nil_append]
   rw[hoe]
   clear hoe hq9
   go_wp2_with fail
   go_ret2
   refine ⟨HB9.out,?_⟩
   rw[HBB.out,if_pos (show (!false)=true from rfl)]
   rfl
end Go.Proofs.YtjbingoliffjiaaGreatDoor
