/-
  HiMar, RefTab
-/
import Derived.Test.YtjbingoliffjiaaGreatDoorHiRead
import Derived.Test.YtjbingoliffjiaaGreatDoorNumsW
import Derived.Test.YtjbingoliffjiaaGreatDoorExPart
import Derived.Test.YtjbingoliffjiaaGreatDoorRefMsg
import Derived.Test.YtjbingoliffjiaaGreatDoorExBack
import Derived.Test.YtjbingoliffjiaaGreatDoorValMar
import Derived.Test.YtjbingoliffjiaaGreatDoorFld
import Derived.Test.YtjbingoliffjiaaGreatDoorVal
import Derived.Test.YtjbingoliffjiaaGreatDoorUtfRefW
set_option maxRecDepth 1000000
set_option maxHeartbeats 16000000
namespace Go.Proofs.YtjbingoliffjiaaGreatDoor
open Go.RowKit
theorem hi_marshal_if (x:Hi) (hMl:Hid (x.1.2.2.2.2.2.2.2.1≠[]→KMar)) (hMes:Hid (x.1.2.2.2.2.2.2.1≠[]→ExMar)) (cs:List Value) (Q:Nat→Prop) (d:Int) (w:World) (hf:hi_fit x) (hr:hiCel.R w Q x cs) (hd : -9223372036854775808≤d∧d≤9223372036854775807) :
  Calls Tryz.prog 28 #[.agg cs.toArray,.int .i64 d] w (MarPost (hi_may d x) (hi_out x) w):=by
 obtain ⟨⟨a,⟨t,⟨k,⟨⟨ph,pn⟩,⟨nc,⟨nb,⟨es,⟨l,⟨f,⟨⟨mh,mn⟩,⟨gh,gn⟩⟩⟩⟩⟩⟩⟩⟩⟩⟩⟩,u⟩:=x
 obtain ⟨lo,lc,nco,ncc,nbo,nbc,eo,ec,rfl,hrl,hrnc,hrnb,hres⟩:=hr
 have HRl:=Lib.hid (KRels.lt _ _ _ hrl)
 have HRnc:=Lib.hid (CRels.lt hrnc)
 have HRnb:=Lib.hid (CRels.lt hrnb)
 have HRes:=Lib.hid (CRels.lt hres)
 have HD:=Lib.hid hd
 obtain ⟨hna,hnt,hnk,hnpn,hfnc,hfnb,hfes,hfl,hnf,hnmn,hngn,hw⟩:=hf
 have HFK:=Lib.hid hw
 have HNA:=Lib.hid hna
 have HNT:=Lib.hid hnt
 have HNK:=Lib.hid hnk
 have HNPN:=Lib.hid hnpn
 have HFNC:=Lib.hid hfnc
 have HFNB:=Lib.hid hfnb
 have HFES:=Lib.hid hfes
 have HFL:=Lib.hid hfl
 have HNF:=Lib.hid hnf
 have HhiN:=Lib.hid hnmn
 have HNGN:=Lib.hid hngn
 obtain ⟨Xu,hXu⟩:∃ U:ByteArray,(⟨u.toArray⟩:ByteArray)=U:=⟨_,rfl⟩
 have HU:=Lib.hid hXu
 dsimp only[strV]
 rw[hXu]
 obtain ⟨mx,hmx⟩:∃ m,hi_may d ((a,(t,(k,((ph,pn),(nc,(nb,(es,(l,(f,((mh,mn),(gh,gn))))))))))),u)=m:=⟨_,rfl⟩
 obtain ⟨ox,hox⟩:∃ m,hi_out ((a,(t,(k,((ph,pn),(nc,(nb,(es,(l,(f,((mh,mn),(gh,gn))))))))))),u)=m:=⟨_,rfl⟩
 rw[hmx,hox]
 have HMX:=Lib.hid hmx
 have HOX:=Lib.hid hox
 obtain ⟨W0,hW0⟩:∃ W,w.alloc (.cells #[.slice lo l.length lc,.int .u64 (a:Int),.int .u64 (t:Int),.int .u64 (k:Int),.bool ph,.int .u64 (pn:Int),.bool mh,.int .u64 (mn:Int),.bool gh,.int .u64 (gn:Int),.slice nco nc.length ncc,.slice nbo nb.length nbc,.slice eo es.length ec,.int .u32 (f:Int),.string Xu] 50)=W:=⟨_,rfl⟩
 obtain ⟨bx,hbx⟩:∃ bx,w.heap.size=bx:=⟨_,rfl⟩
 have HB0:Hid (Below w.heap.size w W0):=Lib.hid (by rw[←hW0];exact below_new _ _)
 have HX0:Hid (W0.heap[bx]? = some (.cells #[.slice lo l.length lc,.int .u64 (a:Int),.int .u64 (t:Int),.int .u64 (k:Int),.bool ph,.int .u64 (pn:Int),.bool mh,.int .u64 (mn:Int),.bool gh,.int .u64 (gn:Int),.slice nco nc.length ncc,.slice nbo nb.length nbc,.slice eo es.length ec,.int .u32 (f:Int),.string Xu] 50 (0,0))):=Lib.hid (by rw[←hW0,←hbx];exact heap_alloc_new _ _)
 have HW0:=Lib.hid hW0
 have HBX:=Lib.hid hbx
 have HET:=Lib.hid (enters_of Tryz.func81 (by kernel_rfl) rfl)
 clear hW0 hbx hrl hrnc hrnb hres hd hmx hox hXu hna hnt hnk hnpn hfnc hfnb hfes hfl hnf hnmn hngn hw
 go_enter Tryz.func28,Tryz.ntmps28
 go_wp2_with fail
 rw[HW0.out,HBX.out]
 refine (wmnew_any d W0).mono ?_;rintro e wz ⟨rfl,hb1,P1,hw1,hp1⟩
 obtain ⟨p,hp⟩:∃ p,W0.heap.size=p:=⟨_,rfl⟩
 have hpp:bx<p:=by rw[←hp];exact row_lt HX0.out
 rw[hp] at hw1 hb1 hp1 ⊢
 have HB1:Hid (Below p W0 wz):=Lib.hid hb1
 have HP1:Hid (∀ k,P1 k→p≤k):=Lib.hid hp1
 have HPE:=Lib.hid hp
 have HS:=Lib.hid (WSx.start (wh_new hw1) (Below.refl _ _) ((hb1.block _ hpp).trans HX0.out) (fun h=>by have:=hp1 bx h;omega))
 have HR1l:Hid (KRels wz (fun k=>Q k∧k<w.heap.size) l lo 0):=Lib.hid (KRels.upd (Upd.of_new (S:=fun _=>False) (HB0.out.trans (hb1.mono (by have:=HB0.out.size;omega)))) (fun _ _ h=>h) (fun _ h=>h) l lo 0 HRl.out)
 have HR1nc:Hid (CRels natCel wz (fun k=>Q k∧k<w.heap.size) nc nco):=Lib.hid (CRels.upd (Upd.of_new (S:=fun _=>False) (HB0.out.trans (hb1.mono (by have:=HB0.out.size;omega)))) (fun _ _ h=>h) (fun _ h=>h) HRnc.out)
 have HR1nb:Hid (CRels natCel wz (fun k=>Q k∧k<w.heap.size) nb nbo):=Lib.hid (CRels.upd (Upd.of_new (S:=fun _=>False) (HB0.out.trans (hb1.mono (by have:=HB0.out.size;omega)))) (fun _ _ h=>h) (fun _ h=>h) HRnb.out)
 have HR1es:Hid (CRels exCel wz (fun k=>Q k∧k<w.heap.size) es eo):=Lib.hid (CRels.upd (Upd.of_new (S:=fun _=>False) (HB0.out.trans (hb1.mono (by have:=HB0.out.size;omega)))) (fun _ _ h=>h) (fun _ h=>h) HRes.out)
 have HQ1:Hid (∀ k,Q k∧k<w.heap.size→k<p∧k<wz.heap.size):=Lib.hid (fun k hk=>by have:=HB0.out.size;have:=hb1.size;omega)
 clear hb1 hw1 hp1 hp
 have xc:wz.cell? ⟨bx,1,none⟩=some (.int .u64 (a:Int)):=HS.out.cell rfl
 go_wp2_with fail
 refine (wv_num 2 a HS.out.so.wr HNA.out (by omega) (by omega) (by have:=HS.out.so.len;have:=HFK.out;simp only[List.nil_append];omega) (by have:=HS.out.so.size;have:=HFK.out;simp only[List.nil_append];omega)).mono ?_;intro e wz hpost
 obtain ⟨qs2,P2,rfl,hs⟩:=HS.out.next hpost
 have HSN:=Lib.hid hs
 clear hpost hs HS xc
 have HS:=HSN
 clear HSN
 have xc:wz.cell? ⟨bx,2,none⟩=some (.int .u64 (t:Int)):=HS.out.cell rfl
 go_wp2_with fail
 refine (wv_num 3 t HS.out.so.wr HNT.out (by omega) (by omega) (by have:=HS.out.so.len;have:=HFK.out;simp only[List.nil_append];omega) (by have:=HS.out.so.size;have:=HFK.out;simp only[List.nil_append];omega)).mono ?_;intro e wz hpost
 obtain ⟨qs2,P2,rfl,hs⟩:=HS.out.next hpost
 have HSN:=Lib.hid hs
 clear hpost hs HS xc
 have HS:=HSN
 clear HSN
 have xc:wz.cell? ⟨bx,3,none⟩=some (.int .u64 (k:Int)):=HS.out.cell rfl
 go_wp2_with fail
 refine (wv_num 4 k HS.out.so.wr HNK.out (by omega) (by omega) (by have:=HS.out.so.len;have:=HFK.out;simp only[List.nil_append];omega) (by have:=HS.out.so.size;have:=HFK.out;simp only[List.nil_append];omega)).mono ?_;intro e wz hpost
 obtain ⟨qs2,P2,rfl,hs⟩:=HS.out.next hpost
 have HSN:=Lib.hid hs
 clear hpost hs HS xc
 have HS:=HSN
 clear HSN
 have xc:wz.cell? ⟨bx,4,none⟩=some (.bool ph):=HS.out.cell rfl
 have xn:wz.cell? ⟨bx,5,none⟩=some (.int .u64 (pn:Int)):=HS.out.cell rfl
 go_wp2_with fail
 refine (wv_opt 5 ph pn HS.out.so.wr HNPN.out (by omega) (by omega) (by have:=HS.out.so.len;have:=HFK.out;simp only[List.nil_append];omega) (by have:=HS.out.so.size;have:=HFK.out;simp only[List.nil_append];omega)).mono ?_;intro e wz hpost
 obtain ⟨qs2,P2,rfl,hs⟩:=HS.out.next hpost
 have HSN:=Lib.hid hs
 clear hpost hs HS xc xn
 have HS:=HSN
 clear HSN
 have xc:wz.cell? ⟨bx,10,none⟩=some (.slice nco nc.length ncc):=HS.out.cell rfl
 go_wp2_with fail
 refine (wv_nums 6 nco ncc nc HS.out.so.wr (Lib.hid (nats_of_rels (CRels.upd HS.out.so.upd (fun k hk h=>by have:=HP1.out k h;have:=HQ1.out k hk;omega) (fun _ h=>h) HR1nc.out))) HFNC (by omega) (by omega) (by have:=HFK.out;omega) (by have:=HS.out.so.len;have:=HFK.out;simp only[List.nil_append];omega) (by have:=HS.out.so.size;have:=HFK.out;simp only[List.nil_append];omega)).mono ?_;intro e wz hpost
 obtain ⟨qs2,P2,rfl,hs⟩:=HS.out.next hpost
 have HSN:=Lib.hid hs
 clear hpost hs HS xc
 have HS:=HSN
 clear HSN
 have xc:wz.cell? ⟨bx,11,none⟩=some (.slice nbo nb.length nbc):=HS.out.cell rfl
 go_wp2_with fail
 refine (wv_nums 7 nbo nbc nb HS.out.so.wr (Lib.hid (nats_of_rels (CRels.upd HS.out.so.upd (fun k hk h=>by have:=HP1.out k h;have:=HQ1.out k hk;omega) (fun _ h=>h) HR1nb.out))) HFNB (by omega) (by omega) (by have:=HFK.out;omega) (by have:=HS.out.so.len;have:=HFK.out;simp only[List.nil_append];omega) (by have:=HS.out.so.size;have:=HFK.out;simp only[List.nil_append];omega)).mono ?_;intro e wz hpost
 obtain ⟨qs2,P2,rfl,hs⟩:=HS.out.next hpost
 have HSN:=Lib.hid hs
 clear hpost hs HS xc
 have HS:=HSN
 clear HSN
 have xc:wz.cell? ⟨bx,12,none⟩=some (.slice eo es.length ec):=HS.out.cell rfl
 go_wp2_with fail
 refine (listex_if es hMes p d _ [] _ _ (fun k=>Q k∧k<w.heap.size) wz 8 eo ec HFES.out (CRels.upd HS.out.so.upd (fun k hk h=>by have:=HP1.out k h;have:=HQ1.out k hk;omega) (fun _ h=>h) HR1es.out) (fun k hk h=>by have:=HQ1.out k hk;rcases HS.out.so.new k h with h|h;(have:=HP1.out k h;omega);omega) HS.out.so.wr (by by_cases h:d<0;(left;simp[h]);(right;omega)) HD.out (by omega) ⟨by have:=HS.out.so.len;have:=HFK.out;simp only[List.nil_append];omega,by have:=HS.out.so.size;have:=HFK.out;simp only[List.nil_append];omega,by have:=HFK.out;omega⟩).mono ?_;intro e wz hpost
 obtain ⟨qs2,P2,rfl,hs⟩:=HS.out.next hpost
 have HSN:=Lib.hid hs
 clear hpost hs HS xc
 have HS:=HSN
 clear HSN
 have xc:wz.cell? ⟨bx,0,none⟩=some (.slice lo l.length lc):=HS.out.cell rfl
 go_wp2_with fail
 refine (listk_if l hMl p d _ [] _ _ (fun k=>Q k∧k<w.heap.size) wz 9 lo lc HFL.out (KRels.upd HS.out.so.upd (fun k hk h=>by have:=HP1.out k h;have:=HQ1.out k hk;omega) (fun _ h=>h) l lo 0 HR1l.out) (fun k hk h=>by have:=HQ1.out k hk;rcases HS.out.so.new k h with h|h;(have:=HP1.out k h;omega);omega) HS.out.so.wr (by by_cases h:d<0;(left;simp[h]);(right;omega)) HD.out (by omega) ⟨by have:=HS.out.so.len;have:=HFK.out;simp only[List.nil_append];omega,by have:=HS.out.so.size;have:=HFK.out;simp only[List.nil_append];omega,by have:=HFK.out;omega⟩).mono ?_;intro e wz hpost
 obtain ⟨qs2,P2,rfl,hs⟩:=HS.out.next hpost
 have HSN:=Lib.hid hs
 clear hpost hs HS xc
 have HS:=HSN
 clear HSN
 have q1:=u64_wrap32 HNF.out
 have xc:wz.cell? ⟨bx,13,none⟩=some (.int .u32 (f:Int)):=HS.out.cell rfl
 go_wp2_with fail
 refine (wv_var 10 f HS.out.so.wr (by have:=HNF.out;omega) (by omega) (by omega) (by have:=HS.out.so.len;have:=HFK.out;simp only[List.nil_append];omega) (by have:=HS.out.so.size;have:=HFK.out;simp only[List.nil_append];omega)).mono ?_;intro e wz hpost
 obtain ⟨qs2,P2,rfl,hs⟩:=HS.out.next hpost
 have HSN:=Lib.hid hs
 clear hpost hs HS xc
 have HS:=HSN
 clear HSN
 have xc:wz.cell? ⟨bx,6,none⟩=some (.bool mh):=HS.out.cell rfl
 have xn:wz.cell? ⟨bx,7,none⟩=some (.int .u64 (mn:Int)):=HS.out.cell rfl
 go_wp2_with fail
 refine (wv_opt 11 mh mn HS.out.so.wr HhiN.out (by omega) (by omega) (by have:=HS.out.so.len;have:=HFK.out;simp only[List.nil_append];omega) (by have:=HS.out.so.size;have:=HFK.out;simp only[List.nil_append];omega)).mono ?_;intro e wz hpost
 obtain ⟨qs2,P2,rfl,hs⟩:=HS.out.next hpost
 have HSN:=Lib.hid hs
 clear hpost hs HS xc xn
 have HS:=HSN
 clear HSN
 have xc:wz.cell? ⟨bx,8,none⟩=some (.bool gh):=HS.out.cell rfl
 have xn:wz.cell? ⟨bx,9,none⟩=some (.int .u64 (gn:Int)):=HS.out.cell rfl
 go_wp2_with fail
 refine (wv_opt 12 gh gn HS.out.so.wr HNGN.out (by omega) (by omega) (by have:=HS.out.so.len;have:=HFK.out;simp only[List.nil_append];omega) (by have:=HS.out.so.size;have:=HFK.out;simp only[List.nil_append];omega)).mono ?_;intro e wz hpost
 obtain ⟨qs2,P2,rfl,hs⟩:=HS.out.next hpost
 have HSN:=Lib.hid hs
 clear hpost hs HS xc xn
 have HS:=HSN
 clear HSN
 have xc:wz.cell? ⟨bx,14,none⟩=some (.string Xu):=HS.out.cell rfl
 go_wp2_with fail
 refine (wv_rest Xu u hiF.tk 81 HS.out.so.wr HU.out.symm (by have:=HFK.out;omega) (by have:=HS.out.so.len;have:=HFK.out;simp only[List.nil_append];omega) (by have:=HS.out.so.size;have:=HFK.out;simp only[List.nil_append];omega) HET.out (fun r w=>hitakes_any r w)).mono ?_;intro e wz hpost
 obtain ⟨qs2,P2,rfl,hs⟩:=HS.out.next hpost
 have HSN:=Lib.hid hs
 clear hpost hs HS xc
 have HS:=HSN
 clear HSN
 go_wp2_with fail
 obtain ⟨vo,P0,hwa,_⟩:=HS.out.so.wr
 have HWA:=Lib.hid hwa
 have HLB:=Lib.hid (And.intro HS.out.so.len HS.out.so.size)
 clear hwa
 refine (wend_any p d vo _ _ P0 _ HWA (by have:=HLB.out.1;simp only[List.nil_append];(have:=HFK.out;omega)) (by have:=HLB.out.2;simp only[List.nil_append];(have:=HFK.out;omega))).mono ?_;rintro e w9 ⟨hb9,hcase⟩
 have HB9:=Lib.hid (mar_below HB0.out HPE.out HB1.out HS.out.so.upd HP1.out hb9)
 have HBY:=Lib.hid HS.out.so.bytes
 obtain ⟨bb,hbb⟩:∃ bb,(decide (d<0)||!((((((((((((true&&true)&&true)&&true)&&(ph||decide (pn=0)))&&true)&&true)&&lmays exSb es d)&&kmays l d)&&true)&&(mh||decide (mn=0)))&&(gh||decide (gn=0)))&&munkOk hiF.tk u d))=bb:=⟨_,rfl⟩
 rw[hbb] at hcase HBY
 have HBB:Hid (mx=!bb):=Lib.hid (by
   rw[←HMX.out,←hbb]
   show (decide (0≤d)&&(((ph||decide (pn=0))&&(lmays exSb es d&&(kmays l d&&((mh||decide (mn=0))&&(gh||decide (gn=0))))))&&munkOk hiF.tk u d))=_
   by_cases h:d<0
   · rw[decide_eq_true h,decide_eq_false (by omega:¬0≤d)];rfl
   · rw[decide_eq_false h,decide_eq_true (by omega:0≤d)]
     simp only[Bool.true_and,Bool.and_true,Bool.false_or,Bool.not_not,Bool.and_assoc])
 clear hb9 hbb
 cases bb with
 | true =>
   rw[if_pos rfl] at hcase
   obtain ⟨v,rfl,hec⟩:=hcase
   obtain ⟨T',y,rfl⟩:=hec.iface
   have HEC:=Lib.hid hec
   clear hec
   go_wp2_with fail
   go_ret2
   refine ⟨HB9.out,?_⟩
   rw[HBB.out,if_neg (by simp)]
   exact ⟨_,rfl,HEC.out⟩
 | false =>
   rw[if_neg (by simp)] at hcase
   subst hcase
   have hq9:=HBY.out rfl
   rw[List.nil_append,hq9]
   have hoe:([]++(if a=0 then [] else (rF 2 a).raw)++(if t=0 then [] else (rF 3 t).raw)++(if k=0 then [] else (rF 4 k).raw)++(if ph=true then (rF 5 pn).raw else [])++(if nc=[] then [] else (rB 6 (eights nc)).raw)++(if nb=[] then [] else (rB 7 (eights nb)).raw)++louts exSb 8 es++kouts 9 l++(if f=0 then [] else (rN 10 f).raw)++(if mh=true then (rF 11 mn).raw else [])++(if gh=true then (rF 12 gn).raw else [])++u:List UInt8)=ox:=by
     rw[←HOX.out]
     show _=(if a=0 then [] else (rF 2 a).raw)++(if t=0 then [] else (rF 3 t).raw)++(if k=0 then [] else (rF 4 k).raw)++(if ph=true then (rF 5 pn).raw else [])++(if nc=[] then [] else (rB 6 (eights nc)).raw)++(if nb=[] then [] else (rB 7 (eights nb)).raw)++louts exSb 8 es++kouts 9 l++(if f=0 then [] else (rN 10 f).raw)++(if mh=true then (rF 11 mn).raw else [])++(if gh=true then (rF 12 gn).raw else [])++u
     simp only[List.nil_append]
   rw[hoe]
   clear hoe hq9
   go_wp2_with fail
   go_ret2
   refine ⟨HB9.out,?_⟩
   rw[HBB.out,if_pos (show (!false)=true from rfl)]
   rfl
theorem hi_size_if (x:Hi) (hMl:Hid (x.1.2.2.2.2.2.2.2.1≠[]→KMar)) (hMes:Hid (x.1.2.2.2.2.2.2.1≠[]→ExMar)) (cs:List Value) (Q:Nat→Prop) (w:World) (hf:hi_fit x) (hr:hiCel.R w Q x cs) (hm:hi_may 262144 x=true) :
 Calls Tryz.prog 31 #[.agg cs.toArray] w fun e w'=>e = .returned (.int .i64 ((hi_out x).length:Int))∧Below w.heap.size w w':=by
 have HL:=Lib.hid (hi_olen hf)
 have HM:=Lib.hid (fun w' (hb:Below w.heap.size w w')=>hi_marshal_if x hMl hMes cs Q 262144 w' hf (hiCel.upd (Upd.of_new (S:=fun _=>False) hb) (fun _ _ h=>h) (fun _ h=>h) hr) (by omega))
 rw[hm] at HM
 obtain ⟨o,ho⟩:∃ o,hi_out x=o:=⟨_,rfl⟩
 rw[ho] at HM HL ⊢
 obtain ⟨⟨a,⟨t,⟨k,⟨⟨ph,pn⟩,⟨nc,⟨nb,⟨es,⟨l,⟨f,⟨⟨mh,mn⟩,⟨gh,gn⟩⟩⟩⟩⟩⟩⟩⟩⟩⟩⟩,u⟩:=x
 obtain ⟨lo,lc,nco,ncc,nbo,nbc,eo,ec,rfl,_,_,_,_⟩:=hr
 dsimp only[strV] at HM ⊢
 obtain ⟨Xu,hXu⟩:∃ U:ByteArray,(⟨u.toArray⟩:ByteArray)=U:=⟨_,rfl⟩
 rw[hXu] at HM ⊢
 clear hXu hf hm ho
 obtain ⟨W,hW⟩:∃ W,w.alloc (.cells #[.slice lo l.length lc,.int .u64 (a:Int),.int .u64 (t:Int),.int .u64 (k:Int),.bool ph,.int .u64 (pn:Int),.bool mh,.int .u64 (mn:Int),.bool gh,.int .u64 (gn:Int),.slice nco nc.length ncc,.slice nbo nb.length nbc,.slice eo es.length ec,.int .u32 (f:Int),.string Xu] 50)=W:=⟨_,rfl⟩
 have HB0:Hid (Below w.heap.size w W):=Lib.hid (by rw[←hW];exact below_new _ _)
 have HW:=Lib.hid hW
 clear hW
 go_enter Tryz.func31,Tryz.ntmps31
 go_wp2_with fail
 rw[HW.out]
 refine (HM.out W HB0.out).mono ?_;rintro e w1 ⟨hb,hcase⟩
 have HB1:=Lib.hid (below_step HB0.out hb)
 clear hb
 rw[if_pos rfl] at hcase
 subst hcase
 obtain ⟨P,hP⟩:∃ P:ByteArray,(⟨o.toArray⟩:ByteArray)=P:=⟨_,rfl⟩
 have hz:P.size=o.length:=by rw[←hP];simp[ByteArray.size]
 rw[hP]
 have HZ:=Lib.hid hz
 clear hP hz
 go_wp2_with fail
 go_ret
 exact ⟨by rw[HZ.out];rfl,HB1.out⟩
open Go.RowKit
theorem first_hi1 (w:World):Calls Tryz.prog 28 #[.agg #[.slice none 0 0,.int .u64 0,.int .u64 0,.int .u64 0,.bool true,.int .u64 0,.bool false,.int .u64 0,.bool false,.int .u64 0,.slice none 0 0,.slice none 0 0,.slice none 0 0,.int .u32 0,.string ⟨#[]⟩],.int .i64 0] w fun e w'=>e = .returned (.tuple #[.string ⟨#[41,0,0,0,0,0,0,0,0]⟩,.nilIface])∧Below w.heap.size w w':=by
  refine (hi_marshal_if ((0,(0,(0,((true,0),([],([],([],([],(0,((false,0),(false,0))))))))))),[]) (Lib.hid fun h=>absurd rfl h) (Lib.hid fun h=>absurd rfl h) [.slice none 0 0,.int .u64 0,.int .u64 0,.int .u64 0,.bool true,.int .u64 0,.bool false,.int .u64 0,.bool false,.int .u64 0,.slice none 0 0,.slice none 0 0,.slice none 0 0,.int .u32 0,.string ⟨#[]⟩] (fun _=>False) 0 w ⟨by omega,by omega,by omega,by omega,fun x hx=>(by cases hx),fun x hx=>(by cases hx),fun x hx=>(by cases hx),by rw[ksfit];trivial,by omega,by omega,by omega,by simp[lwt,lsum,ksw]⟩ ⟨none,0,none,0,none,0,none,0,rfl,by rw[KRels];trivial,CRels.nil _ _ _ _,CRels.nil _ _ _ _,CRels.nil _ _ _ _⟩ (by omega)).mono ?_
  rintro e w' ⟨hb,h⟩
  rw[show hi_may 0 ((0,(0,(0,((true,0),([],([],([],([],(0,((false,0),(false,0))))))))))),[])=true by kernel_rfl,if_pos rfl,show hi_out ((0,(0,(0,((true,0),([],([],([],([],(0,((false,0),(false,0))))))))))),[])=[41,0,0,0,0,0,0,0,0] by kernel_rfl] at h
  exact ⟨h,hb⟩
theorem first_hirec {r:Rec} (hr:∀ rs,wall (⟨#[49,7,0,0,0,0,0,0,0]⟩:ByteArray).data.toList 0 = .ok rs→r∈rs):r.num=6:=by
  have h:=hr [⟨6,1,7,[],[49,7,0,0,0,0,0,0,0]⟩] (by kernel_rfl)
  rw[List.mem_singleton.1 h]
theorem first_hird:hird [49,7,0,0,0,0,0,0,0] 0 = .ok ((0,(0,(0,((false,0),([7],([],([],([],(0,((false,0),(false,0))))))))))),[]):=by kernel_rfl
theorem first13 (w:World):Calls Tryz.prog 22 #[] w fun e w'=>e = .returned (.bool true)∧Below w.heap.size w w':=by
  have HUN:=Lib.hid (fun w'=>unhi_if ⟨#[49,7,0,0,0,0,0,0,0]⟩ 0 (Lib.hid fun r hr h3=>absurd ((first_hirec hr).symm.trans h3) (by decide)) (Lib.hid fun r hr h3=>absurd ((first_hirec hr).symm.trans h3) (by decide)) w' (by decide) (by omega))
  rw[show (⟨#[49,7,0,0,0,0,0,0,0]⟩:ByteArray).data.toList=[49,7,0,0,0,0,0,0,0] from rfl,first_hird] at HUN
  go_enter Tryz.func22,Tryz.ntmps22
  go_wp2_with fail
  refine (first_hi1 w).mono ?_;rintro e w1 ⟨rfl,hb1⟩
  have HB1:=Lib.hid hb1
  clear hb1
  go_wp2_with fail
  refine (HUN.out w1).mono ?_;rintro e w2 ⟨hb2,cs,rfl,lo,lc,nco,ncc,nbo,nbc,eo,ec,rfl,_,hrn,_,_⟩
  have HB2:=Lib.hid (below_step HB1.out hb2)
  obtain ⟨g,off,c7,rfl,_,hg,hc7,hr7⟩:=hrn 0 (by decide)
  have hr7:c7=[.int .u64 ((7:Nat):Int)]:=hr7
  subst hr7
  have hc8:w2.cell? ⟨g,off,none⟩=some (.int .u64 7):=by
    have:=hc7 0 (by simp)
    simpa using this
  clear hb2 hrn hc7
  dsimp only[strV,List.length_nil,List.length_cons]
  go_upto_region 3 with fail
  obtain ⟨bl,hbl⟩:∃ b,w2.heap.size=b:=⟨_,rfl⟩
  obtain ⟨W3,hW⟩:∃ W,w2.alloc (.cells #[.slice lo 0 lc,.int .u64 0,.int .u64 0,.int .u64 0,.bool false,.int .u64 0,.bool false,.int .u64 0,.bool false,.int .u64 0,.slice (some ⟨g,off,none⟩) 1 ncc,.slice nbo 0 nbc,.slice eo 0 ec,.int .u32 0,.string ⟨#[]⟩] 50)=W:=⟨_,rfl⟩
  have hb3:Below w2.heap.size w2 W3:=by rw[←hW];exact below_new _ _
  have hr:W3.heap[bl]? = some (.cells #[.slice lo 0 lc,.int .u64 0,.int .u64 0,.int .u64 0,.bool false,.int .u64 0,.bool false,.int .u64 0,.bool false,.int .u64 0,.slice (some ⟨g,off,none⟩) 1 ncc,.slice nbo 0 nbc,.slice eo 0 ec,.int .u32 0,.string ⟨#[]⟩] 50 (0,0)):=by rw[←hW,←hbl];exact new_row _ _ _
  have HB3:=Lib.hid (below_step HB2.out hb3)
  have hx10:W3.cell? ⟨bl,10,none⟩=some (.slice (some ⟨g,off,none⟩) 1 ncc):=row_cell hr (j:=10) rfl
  have hx7:W3.cell? ⟨g,off,none⟩=some (.int .u64 7):=(hb3.cell (p:=⟨g,off,none⟩) hg).trans hc8
  rw[hW,hbl]
  clear hW hbl hb3 hr hc8
  go_wp2_with fail
  go_ret
  exact ⟨rfl,HB3.out⟩
open Go.RowKit
theorem nats_tab6 (w:World) (a0 a1 a2 a3 a4 a5:Nat):Nats .i64 (w.alloc (.cells #[.int .i64 (a0:Int),.int .i64 (a1:Int),.int .i64 (a2:Int),.int .i64 (a3:Int),.int .i64 (a4:Int),.int .i64 (a5:Int)] 3)) (some ⟨w.heap.size,0,none⟩) [a0,a1,a2,a3,a4,a5]:=by
 intro _
 refine ⟨w.heap.size,0,rfl,by simp,fun j hj=>?_⟩
 have:j=0∨j=1∨j=2∨j=3∨j=4∨j=5:=by simp at hj;omega
 rcases this with rfl|rfl|rfl|rfl|rfl|rfl
 ·exact row_cell (heap_alloc_new w _) (j:=0) rfl
 ·exact row_cell (heap_alloc_new w _) (j:=1) rfl
 ·exact row_cell (heap_alloc_new w _) (j:=2) rfl
 ·exact row_cell (heap_alloc_new w _) (j:=3) rfl
 ·exact row_cell (heap_alloc_new w _) (j:=4) rfl
 ·exact row_cell (heap_alloc_new w _) (j:=5) rfl
theorem ex_tab (w:World):Calls Tryz.prog 111 #[] w fun e w'=>∃ ao,e = .returned (.slice ao 6 6)∧Hid (Nats .i64 w' ao [17,25,34,42,49,58])∧Below w.heap.size w w':=by
 have HN:=Lib.hid (nats_tab6 w 17 25 34 42 49 58)
 go_enter Tryz.func111,Tryz.ntmps111
 go_wp2_with fail
 go_ret
 exact ⟨_,rfl,HN,below_new _ _⟩
theorem ex_rtk (r:Rec):exF.tk r=rtk [17,25,34,42,49,58] r:=by
 rw[exF_tk]
 unfold rtk
 rw[Bool.eq_iff_iff]
 simp
 omega
open Go.RowKit
theorem kmays_ref (d:Int) (_:0≤d) (l:List KV):(l.all fun x=>kmayD x (d - 1))=kmays l d:=by
 have h:=kmays_all (d+1) l
 rw[show d+1 - 1=d by omega,show d+1 - 2=d - 1 by omega] at h
 exact h.symm
open Go.RowKit
theorem nats_new (w:World) (l:List Nat) (T:TypeId):Nats .i64 (w.alloc (.cells (l.map fun n:Nat=>Value.int .i64 (n:Int)).toArray T)) (some ⟨w.heap.size,0,none⟩) l:=fun _ =>
  ⟨w.heap.size,0,rfl,by simp,fun j hj=>row_cell (heap_alloc_new w _) (by rw[Nat.zero_add];simp[List.getElem?_eq_getElem hj])⟩
theorem tabV_any (w:World):Calls Tryz.prog 163 #[] w fun e w'=>∃ ao,e = .returned (.slice ao 7 7)∧Hid (Nats .i64 w' ao [10,16,24,33,42,50,58])∧Below w.heap.size w w':=by
  have HN:=Lib.hid (nats_new w [10,16,24,33,42,50,58] 3)
  go_enter Tryz.func163,Tryz.ntmps163
  go_wp2_with fail
  go_ret
  exact ⟨_,rfl,HN,below_new _ _⟩
theorem tabK_any (w:World):Calls Tryz.prog 112 #[] w fun e w'=>∃ ao,e = .returned (.slice ao 2 2)∧Hid (Nats .i64 w' ao [10,18])∧Below w.heap.size w w':=by
  have HN:=Lib.hid (nats_new w [10,18] 3)
  go_enter Tryz.func112,Tryz.ntmps112
  go_wp2_with fail
  go_ret
  exact ⟨_,rfl,HN,below_new _ _⟩
theorem tabI_any (w:World):Calls Tryz.prog 195 #[] w fun e w'=>∃ ao,e = .returned (.slice ao 1 1)∧Hid (Nats .i64 w' ao [10])∧Below w.heap.size w w':=by
  have HN:=Lib.hid (nats_new w [10] 3)
  go_enter Tryz.func195,Tryz.ntmps195
  go_wp2_with fail
  go_ret
  exact ⟨_,rfl,HN,below_new _ _⟩
theorem vtk_rtk (r:Rec):vtk r=rtk [10,16,24,33,42,50,58] r:=by
  unfold vtk rtk
  rw[Bool.eq_iff_iff]
  simp
  omega
theorem ktk_rtk (r:Rec):ktk r=rtk [10,18] r:=by
  unfold ktk rtk
  rw[Bool.eq_iff_iff]
  simp
  omega
theorem itk_rtk (r:Rec):itk r=rtk [10] r:=by
  unfold itk rtk
  rw[Bool.eq_iff_iff]
  simp
  omega
theorem text8_key (X:ByteArray) (w:World) (hX:X.size≤1000000):Calls Tryz.prog 113 #[.string X] w fun e w'=>e = .returned (.bool (uvalid X.data.toList))∧w=w':=by
  have HB:=Lib.hid (rbad_any X w hX)
  go_enter Tryz.func113,Tryz.ntmps113
  go_wp2_with fail
  refine HB.out.mono ?_;rintro e w' ⟨rfl,rfl⟩
  go_wp2_with fail
  go_ret
  exact ⟨rfl,rfl⟩
end Go.Proofs.YtjbingoliffjiaaGreatDoor
