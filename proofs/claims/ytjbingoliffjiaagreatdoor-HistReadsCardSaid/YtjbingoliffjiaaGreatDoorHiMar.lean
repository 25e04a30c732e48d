/-
  hist.Marshal, Size of any point.
-/
import Derived.Test.YtjbingoliffjiaaGreatDoorHiRead
import Derived.Test.YtjbingoliffjiaaGreatDoorNumsW
import Derived.Test.YtjbingoliffjiaaGreatDoorExPart
set_option maxRecDepth 1000000
set_option maxHeartbeats 16000000
namespace Go.Proofs.YtjbingoliffjiaaGreatDoor
open Go.RowKit
open Lib (hid)
theorem hi_marshal_if (x:Hi)(hMl:Hid (x.1.2.2.2.2.2.2.2.1≠[]→KMar))(hMes:Hid (x.1.2.2.2.2.2.2.1≠[]→ExMar))(cs:List Value)(Q:Nat→Prop)(d:Int)(w:World)(hf:hi_fit x)(hr:hiCel.R w Q x cs)(hd:-9223372036854775808≤d∧d≤9223372036854775807) :
  Calls Tryz.prog 28 #[.agg cs.toArray,.int .i64 d] w (MarPost (hi_may d x) (hi_out x) w):=by
 obtain ⟨⟨a,⟨t,⟨k,⟨⟨ph,pn⟩,⟨nc,⟨nb,⟨es,⟨l,⟨f,⟨⟨mh,mn⟩,⟨gh,gn⟩⟩⟩⟩⟩⟩⟩⟩⟩⟩⟩,u⟩:=x
 obtain ⟨lo,lc,nco,ncc,nbo,nbc,eo,ec,rfl,hrl,hrnc,hrnb,hres⟩:=hr
 have HRl:=hid (KRels.lt _ _ _ hrl)
 have HRnc:=hid (CRels.lt hrnc)
 have HRnb:=hid (CRels.lt hrnb)
 have HRes:=hid (CRels.lt hres)
 have HD:=hid hd
 obtain ⟨hna,hnt,hnk,hnpn,hfnc,hfnb,hfes,hfl,hnf,hnmn,hngn,hw⟩:=hf
 have HFK:=hid hw
 have HNA:=hid hna
 have HNT:=hid hnt
 have HNK:=hid hnk
 have HNPN:=hid hnpn
 have HFNC:=hid hfnc
 have HFNB:=hid hfnb
 have HFES:=hid hfes
 have HFL:=hid hfl
 have HNF:=hid hnf
 have HhiN:=hid hnmn
 have HNGN:=hid hngn
 obtain ⟨Xu,hXu⟩:∃ U:ByteArray,(⟨u.toArray⟩:ByteArray)=U:=⟨_,rfl⟩
 have HU:=hid hXu
 dsimp only[strV]
 rw[hXu]
 obtain ⟨mx,hmx⟩:∃ m,hi_may d ((a,(t,(k,((ph,pn),(nc,(nb,(es,(l,(f,((mh,mn),(gh,gn))))))))))),u)=m:=⟨_,rfl⟩
 obtain ⟨ox,hox⟩:∃ m,hi_out ((a,(t,(k,((ph,pn),(nc,(nb,(es,(l,(f,((mh,mn),(gh,gn))))))))))),u)=m:=⟨_,rfl⟩
 rw[hmx,hox]
 have HMX:=hid hmx
 have HOX:=hid hox
 obtain ⟨W0,hW0⟩:∃ W,w.alloc (.cells #[.slice lo l.length lc,.int .u64 (a:Int),.int .u64 (t:Int),.int .u64 (k:Int),.bool ph,.int .u64 (pn:Int),.bool mh,.int .u64 (mn:Int),.bool gh,.int .u64 (gn:Int),.slice nco nc.length ncc,.slice nbo nb.length nbc,.slice eo es.length ec,.int .u32 (f:Int),.string Xu] 50)=W:=⟨_,rfl⟩
 obtain ⟨bx,hbx⟩:∃ bx,w.heap.size=bx:=⟨_,rfl⟩
 have HB0:Hid (Below w.heap.size w W0):=hid (by rw[←hW0];exact below_new _ _)
 have HX0:Hid (W0.heap[bx]? = some (.cells #[.slice lo l.length lc,.int .u64 (a:Int),.int .u64 (t:Int),.int .u64 (k:Int),.bool ph,.int .u64 (pn:Int),.bool mh,.int .u64 (mn:Int),.bool gh,.int .u64 (gn:Int),.slice nco nc.length ncc,.slice nbo nb.length nbc,.slice eo es.length ec,.int .u32 (f:Int),.string Xu] 50 (0,0))):=hid (by rw[←hW0,←hbx];exact heap_alloc_new _ _)
 have HW0:=hid hW0
 have HBX:=hid hbx
 have HET:=hid (enters_of Tryz.func81 (by kernel_rfl) rfl)
 clear hW0 hbx hrl hrnc hrnb hres hd hmx hox hXu hna hnt hnk hnpn hfnc hfnb hfes hfl hnf hnmn hngn hw
 go_enter Tryz.func28,Tryz.ntmps28
 go_wp2_with fail
 rw[HW0.out,HBX.out]
 refine (wmnew_any d W0).mono ?_;rintro e wz ⟨rfl,hb1,P1,hw1,hp1⟩
 obtain ⟨p,hp⟩:∃ p,W0.heap.size=p:=⟨_,rfl⟩
 have hpp:bx<p:=by rw[←hp];exact row_lt HX0.out
 rw[hp] at hw1 hb1 hp1 ⊢
 have HB1:Hid (Below p W0 wz):=hid hb1
 have HP1:Hid (∀ k,P1 k→p≤k):=hid hp1
 have HPE:=hid hp
 have HS:=hid (WSx.start (wh_new hw1) (Below.refl _ _) ((hb1.block _ hpp).trans HX0.out) (fun h=>by have:=hp1 bx h;omega))
 have HR1l:Hid (KRels wz (fun k=>Q k∧k<w.heap.size) l lo 0):=hid (KRels.upd (Upd.of_new (S:=fun _=>False) (HB0.out.trans (hb1.mono (by have:=HB0.out.size;omega)))) (fun _ _ h=>h) (fun _ h=>h) l lo 0 HRl.out)
 have HR1nc:Hid (CRels natCel wz (fun k=>Q k∧k<w.heap.size) nc nco):=hid (CRels.upd (Upd.of_new (S:=fun _=>False) (HB0.out.trans (hb1.mono (by have:=HB0.out.size;omega)))) (fun _ _ h=>h) (fun _ h=>h) HRnc.out)
 have HR1nb:Hid (CRels natCel wz (fun k=>Q k∧k<w.heap.size) nb nbo):=hid (CRels.upd (Upd.of_new (S:=fun _=>False) (HB0.out.trans (hb1.mono (by have:=HB0.out.size;omega)))) (fun _ _ h=>h) (fun _ h=>h) HRnb.out)
 have HR1es:Hid (CRels exCel wz (fun k=>Q k∧k<w.heap.size) es eo):=hid (CRels.upd (Upd.of_new (S:=fun _=>False) (HB0.out.trans (hb1.mono (by have:=HB0.out.size;omega)))) (fun _ _ h=>h) (fun _ h=>h) HRes.out)
 have HQ1:Hid (∀ k,Q k∧k<w.heap.size→k<p∧k<wz.heap.size):=hid (fun k hk=>by have:=HB0.out.size;have:=hb1.size;omega)
 clear hb1 hw1 hp1 hp
 have xc:wz.cell? ⟨bx,1,none⟩=some (.int .u64 (a:Int)):=HS.out.cell rfl
 go_wp2_with fail
 refine (wv_num 2 a HS.out.so.wr HNA.out (by omega) (by omega) (by have:=HS.out.so.len;have:=HFK.out;simp only[List.nil_append];omega) (by have:=HS.out.so.size;have:=HFK.out;simp only[List.nil_append];omega)).mono ?_;intro e wz hpost
 obtain ⟨qs2,P2,rfl,hs⟩:=HS.out.next hpost
 have HSN:=hid hs
 clear hpost hs HS xc
 have HS:=HSN
 clear HSN
 have xc:wz.cell? ⟨bx,2,none⟩=some (.int .u64 (t:Int)):=HS.out.cell rfl
 go_wp2_with fail
 refine (wv_num 3 t HS.out.so.wr HNT.out (by omega) (by omega) (by have:=HS.out.so.len;have:=HFK.out;simp only[List.nil_append];omega) (by have:=HS.out.so.size;have:=HFK.out;simp only[List.nil_append];omega)).mono ?_;intro e wz hpost
 obtain ⟨qs2,P2,rfl,hs⟩:=HS.out.next hpost
 have HSN:=hid hs
 clear hpost hs HS xc
 have HS:=HSN
 clear HSN
 have xc:wz.cell? ⟨bx,3,none⟩=some (.int .u64 (k:Int)):=HS.out.cell rfl
 go_wp2_with fail
 refine (wv_num 4 k HS.out.so.wr HNK.out (by omega) (by omega) (by have:=HS.out.so.len;have:=HFK.out;simp only[List.nil_append];omega) (by have:=HS.out.so.size;have:=HFK.out;simp only[List.nil_append];omega)).mono ?_;intro e wz hpost
 obtain ⟨qs2,P2,rfl,hs⟩:=HS.out.next hpost
 have HSN:=hid hs
 clear hpost hs HS xc
 have HS:=HSN
 clear HSN
 have xc:wz.cell? ⟨bx,4,none⟩=some (.bool ph):=HS.out.cell rfl
 have xn:wz.cell? ⟨bx,5,none⟩=some (.int .u64 (pn:Int)):=HS.out.cell rfl
 go_wp2_with fail
 refine (wv_opt 5 ph pn HS.out.so.wr HNPN.out (by omega) (by omega) (by have:=HS.out.so.len;have:=HFK.out;simp only[List.nil_append];omega) (by have:=HS.out.so.size;have:=HFK.out;simp only[List.nil_append];omega)).mono ?_;intro e wz hpost
 obtain ⟨qs2,P2,rfl,hs⟩:=HS.out.next hpost
 have HSN:=hid hs
 clear hpost hs HS xc xn
 have HS:=HSN
 clear HSN
 have xc:wz.cell? ⟨bx,10,none⟩=some (.slice nco nc.length ncc):=HS.out.cell rfl
 go_wp2_with fail
 refine (wv_nums 6 nco ncc nc HS.out.so.wr (hid (nats_of_rels (CRels.upd HS.out.so.upd (fun k hk h=>by have:=HP1.out k h;have:=HQ1.out k hk;omega) (fun _ h=>h) HR1nc.out))) HFNC (by omega) (by omega) (by have:=HFK.out;omega) (by have:=HS.out.so.len;have:=HFK.out;simp only[List.nil_append];omega) (by have:=HS.out.so.size;have:=HFK.out;simp only[List.nil_append];omega)).mono ?_;intro e wz hpost
 obtain ⟨qs2,P2,rfl,hs⟩:=HS.out.next hpost
 have HSN:=hid hs
 clear hpost hs HS xc
 have HS:=HSN
 clear HSN
 have xc:wz.cell? ⟨bx,11,none⟩=some (.slice nbo nb.length nbc):=HS.out.cell rfl
 go_wp2_with fail
 refine (wv_nums 7 nbo nbc nb HS.out.so.wr (hid (nats_of_rels (CRels.upd HS.out.so.upd (fun k hk h=>by have:=HP1.out k h;have:=HQ1.out k hk;omega) (fun _ h=>h) HR1nb.out))) HFNB (by omega) (by omega) (by have:=HFK.out;omega) (by have:=HS.out.so.len;have:=HFK.out;simp only[List.nil_append];omega) (by have:=HS.out.so.size;have:=HFK.out;simp only[List.nil_append];omega)).mono ?_;intro e wz hpost
 obtain ⟨qs2,P2,rfl,hs⟩:=HS.out.next hpost
 have HSN:=hid hs
 clear hpost hs HS xc
 have HS:=HSN
 clear HSN
 have xc:wz.cell? ⟨bx,12,none⟩=some (.slice eo es.length ec):=HS.out.cell rfl
 go_wp2_with fail
 refine (listex_if es hMes p d _ [] _ _ (fun k=>Q k∧k<w.heap.size) wz 8 eo ec HFES.out (CRels.upd HS.out.so.upd (fun k hk h=>by have:=HP1.out k h;have:=HQ1.out k hk;omega) (fun _ h=>h) HR1es.out) (fun k hk h=>by have:=HQ1.out k hk;rcases HS.out.so.new k h with h|h;(have:=HP1.out k h;omega);omega) HS.out.so.wr (by by_cases h:d<0;(left;simp[h]);(right;omega)) HD.out (by omega) ⟨by have:=HS.out.so.len;have:=HFK.out;simp only[List.nil_append];omega,by have:=HS.out.so.size;have:=HFK.out;simp only[List.nil_append];omega,by have:=HFK.out;omega⟩).mono ?_;intro e wz hpost
 obtain ⟨qs2,P2,rfl,hs⟩:=HS.out.next hpost
 have HSN:=hid hs
 clear hpost hs HS xc
 have HS:=HSN
 clear HSN
 have xc:wz.cell? ⟨bx,0,none⟩=some (.slice lo l.length lc):=HS.out.cell rfl
 go_wp2_with fail
 refine (listk_if l hMl p d _ [] _ _ (fun k=>Q k∧k<w.heap.size) wz 9 lo lc HFL.out (KRels.upd HS.out.so.upd (fun k hk h=>by have:=HP1.out k h;have:=HQ1.out k hk;omega) (fun _ h=>h) l lo 0 HR1l.out) (fun k hk h=>by have:=HQ1.out k hk;rcases HS.out.so.new k h with h|h;(have:=HP1.out k h;omega);omega) HS.out.so.wr (by by_cases h:d<0;(left;simp[h]);(right;omega)) HD.out (by omega) ⟨by have:=HS.out.so.len;have:=HFK.out;simp only[List.nil_append];omega,by have:=HS.out.so.size;have:=HFK.out;simp only[List.nil_append];omega,by have:=HFK.out;omega⟩).mono ?_;intro e wz hpost
 obtain ⟨qs2,P2,rfl,hs⟩:=HS.out.next hpost
 have HSN:=hid hs
 clear hpost hs HS xc
 have HS:=HSN
 clear HSN
 have q1:=u64_wrap32 HNF.out
 have xc:wz.cell? ⟨bx,13,none⟩=some (.int .u32 (f:Int)):=HS.out.cell rfl
 go_wp2_with fail
 refine (wv_var 10 f HS.out.so.wr (by have:=HNF.out;omega) (by omega) (by omega) (by have:=HS.out.so.len;have:=HFK.out;simp only[List.nil_append];omega) (by have:=HS.out.so.size;have:=HFK.out;simp only[List.nil_append];omega)).mono ?_;intro e wz hpost
 obtain ⟨qs2,P2,rfl,hs⟩:=HS.out.next hpost
 have HSN:=hid hs
 clear hpost hs HS xc
 have HS:=HSN
 clear HSN
 have xc:wz.cell? ⟨bx,6,none⟩=some (.bool mh):=HS.out.cell rfl
 have xn:wz.cell? ⟨bx,7,none⟩=some (.int .u64 (mn:Int)):=HS.out.cell rfl
 go_wp2_with fail
 refine (wv_opt 11 mh mn HS.out.so.wr HhiN.out (by omega) (by omega) (by have:=HS.out.so.len;have:=HFK.out;simp only[List.nil_append];omega) (by have:=HS.out.so.size;have:=HFK.out;simp only[List.nil_append];omega)).mono ?_;intro e wz hpost
 obtain ⟨qs2,P2,rfl,hs⟩:=HS.out.next hpost
 have HSN:=hid hs
 clear hpost hs HS xc xn
 have HS:=HSN
 clear HSN
 have xc:wz.cell? ⟨bx,8,none⟩=some (.bool gh):=HS.out.cell rfl
 have xn:wz.cell? ⟨bx,9,none⟩=some (.int .u64 (gn:Int)):=HS.out.cell rfl
 go_wp2_with fail
 refine (wv_opt 12 gh gn HS.out.so.wr HNGN.out (by omega) (by omega) (by have:=HS.out.so.len;have:=HFK.out;simp only[List.nil_append];omega) (by have:=HS.out.so.size;have:=HFK.out;simp only[List.nil_append];omega)).mono ?_;intro e wz hpost
 obtain ⟨qs2,P2,rfl,hs⟩:=HS.out.next hpost
 have HSN:=hid hs
 clear hpost hs HS xc xn
 have HS:=HSN
 clear HSN
 have xc:wz.cell? ⟨bx,14,none⟩=some (.string Xu):=HS.out.cell rfl
 go_wp2_with fail
 refine (wv_rest Xu u hiF.tk 81 HS.out.so.wr HU.out.symm (by have:=HFK.out;omega) (by have:=HS.out.so.len;have:=HFK.out;simp only[List.nil_append];omega) (by have:=HS.out.so.size;have:=HFK.out;simp only[List.nil_append];omega) HET.out (fun r w=>hitakes_any r w)).mono ?_;intro e wz hpost
 obtain ⟨qs2,P2,rfl,hs⟩:=HS.out.next hpost
 have HSN:=hid hs
 clear hpost hs HS xc
 have HS:=HSN
 clear HSN
 go_wp2_with fail
 obtain ⟨vo,P0,hwa,_⟩:=HS.out.so.wr
 have HWA:=hid hwa
 have HLB:=hid (And.intro HS.out.so.len HS.out.so.size)
 clear hwa
 refine (wend_any p d vo _ _ P0 _ HWA (by have:=HLB.out.1;simp only[List.nil_append];(have:=HFK.out;omega)) (by have:=HLB.out.2;simp only[List.nil_append];(have:=HFK.out;omega))).mono ?_;rintro e w9 ⟨hb9,hcase⟩
 have HB9:=hid (mar_below HB0.out HPE.out HB1.out HS.out.so.upd HP1.out hb9)
 have HBY:=hid HS.out.so.bytes
 obtain ⟨bb,hbb⟩:∃ bb,(decide (d<0)||!((((((((((((true&&true)&&true)&&true)&&(ph||decide (pn=0)))&&true)&&true)&&lmays exSb es d)&&kmays l d)&&true)&&(mh||decide (mn=0)))&&(gh||decide (gn=0)))&&munkOk hiF.tk u d))=bb:=⟨_,rfl⟩
 rw[hbb] at hcase HBY
 have HBB:Hid (mx=!bb):=hid (by
   rw[←HMX.out,←hbb]
   show (decide (0≤d)&&(((ph||decide (pn=0))&&(lmays exSb es d&&(kmays l d&&((mh||decide (mn=0))&&(gh||decide (gn=0))))))&&munkOk hiF.tk u d))=_
   by_cases h:d<0
   · rw[decide_eq_true h,decide_eq_false (by omega:¬0≤d)];rfl
   · rw[decide_eq_false h,decide_eq_true (by omega:0≤d)]
     simp only[Bool.true_and,Bool.and_true,Bool.false_or,Bool.not_not,Bool.and_assoc])
 clear hb9 hbb
 cases bb with
 | true =>
   rw[if_pos rfl] at hcase
   obtain ⟨v,rfl,hec⟩:=hcase
   obtain ⟨T',y,rfl⟩:=hec.iface
   have HEC:=hid hec
   clear hec
   go_wp2_with fail
   go_ret2
   refine ⟨HB9.out,?_⟩
   rw[HBB.out,if_neg (by simp)]
   exact ⟨_,rfl,HEC.out⟩
 | false =>
   rw[if_neg (by simp)] at hcase
   subst hcase
   have hq9:=HBY.out rfl
   rw[List.nil_append,hq9]
   have hoe:([]++(if a=0 then [] else (rF 2 a).raw)++(if t=0 then [] else (rF 3 t).raw)++(if k=0 then [] else (rF 4 k).raw)++(if ph=true then (rF 5 pn).raw else [])++(if nc=[] then [] else (rB 6 (eights nc)).raw)++(if nb=[] then [] else (rB 7 (eights nb)).raw)++louts exSb 8 es++kouts 9 l++(if f=0 then [] else (rN 10 f).raw)++(if mh=true then (rF 11 mn).raw else [])++(if gh=true then (rF 12 gn).raw else [])++u:List UInt8)=ox:=by
     rw[←HOX.out]
     show _=(if a=0 then [] else (rF 2 a).raw)++(if t=0 then [] else (rF 3 t).raw)++(if k=0 then [] else (rF 4 k).raw)++(if ph=true then (rF 5 pn).raw else [])++(if nc=[] then [] else (rB 6 (eights nc)).raw)++(if nb=[] then [] else (rB 7 (eights nb)).raw)++louts exSb 8 es++kouts 9 l++(if f=0 then [] else (rN 10 f).raw)++(if mh=true then (rF 11 mn).raw else [])++(if gh=true then (rF 12 gn).raw else [])++u
     simp only[List.nil_append]
   rw[hoe]
   clear hoe hq9
   go_wp2_with fail
   go_ret2
   refine ⟨HB9.out,?_⟩
   rw[HBB.out,if_pos (show (!false)=true from rfl)]
   rfl
end Go.Proofs.YtjbingoliffjiaaGreatDoor
