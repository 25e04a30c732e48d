/-
  hygref13.MayExp.
-/
import Derived.Test.YtficgfemmijaaaaGreatDoorXpTab
set_option maxRecDepth 1000000
set_option maxHeartbeats 16000000
namespace Go.Proofs.YtficgfemmijaaaaGreatDoor
open Go.RowKit
open Lib (hid)
theorem xp_rmay (x:Xp)(cs:List Value)(Q:Nat→Prop)(d:Int)(w:World)(ha:xp_arg x)(hw:xp_rw x≤12000)(hr:xpCel.R w Q x cs)(hd:-9223372036854775808≤d∧d≤9223372036854775807) :
 Calls Tryz.prog 12 #[.agg cs.toArray,.int .i64 d] w fun e w'=>e = .returned (.bool (xp_may d x))∧Below w.heap.size w w':=by
 have hft:=xp_fit_rw ha hw;obtain ⟨⟨l,⟨a,⟨t,⟨k,⟨⟨bp,vp⟩,⟨sc,⟨zc,⟨⟨gp,pb,pu⟩,⟨⟨gn,nb,nu⟩,⟨f,⟨es,⟨⟨bm,vm⟩,⟨⟨bg,vg⟩,th⟩⟩⟩⟩⟩⟩⟩⟩⟩⟩⟩⟩⟩,u⟩:=x;obtain ⟨lo,lc,po,pc,no,nc,eo,ec,rfl,hrl,hrpb,hrnb,hres⟩:=hr;have hwt:100+(8 * min pb.cs.length 100000+pu.length+(8 * min nb.cs.length 100000+nu.length)+ksw l+lwt exSb es+u.length)≤12000:=hw;clear hw;obtain ⟨hfl,hna,hnt,hnk,hnvp,hnsc,hnzc,hfpu,hfnu,hnf,hfes,hnvm,hnvg,hnth,hw⟩:=hft;dsimp only[strV];obtain ⟨Xpu,hXpu⟩:∃ X:ByteArray,(⟨pu.toArray⟩:ByteArray)=X:=⟨_,rfl⟩
 have HDpu:Hid (Xpu.data.toList=pu):=hid (by rw[←hXpu]);have HZpu:Hid (Xpu.size≤12000):=hid (by rw[←hXpu];simp[ByteArray.size];omega);have HUpu:Hid (pu.length≤12000):=hid (by omega);obtain ⟨Xnu,hXnu⟩:∃ X:ByteArray,(⟨nu.toArray⟩:ByteArray)=X:=⟨_,rfl⟩
 have HDnu:Hid (Xnu.data.toList=nu):=hid (by rw[←hXnu]);have HZnu:Hid (Xnu.size≤12000):=hid (by rw[←hXnu];simp[ByteArray.size];omega);have HUnu:Hid (nu.length≤12000):=hid (by omega);obtain ⟨Xu,hXu⟩:∃ X:ByteArray,(⟨u.toArray⟩:ByteArray)=X:=⟨_,rfl⟩
 have HDu:Hid (Xu.data.toList=u):=hid (by rw[←hXu]);have HZu:Hid (Xu.size≤12000):=hid (by rw[←hXu];simp[ByteArray.size];omega);have HUu:Hid (u.length≤12000):=hid (by omega);rw[hXpu,hXnu,hXu];clear hXpu hXnu hXu;obtain ⟨mx,hmx⟩:∃ q0,xp_may d ((l,(a,(t,(k,((bp,vp),(sc,(zc,((gp,pb,pu),((gn,nb,nu),(f,(es,((bm,vm),((bg,vg),th))))))))))))),u)=q0:=⟨_,rfl⟩
 have hm2:(decide (0≤d)&&((kmays l d&&((bp||decide (vp=0))&&((if gp=true then decide (1≤d)&&bmay pu (d - 1) else bkz (pb,pu))&&((if gn=true then decide (1≤d)&&bmay nu (d - 1) else bkz (nb,nu))&&(lmays exSb es d&&((bm||decide (vm=0))&&(bg||decide (vg=0))))))))&&munkOk xrF.tk u d))=mx:=hmx;rw[hmx];clear hmx
 have hsp:(if gp=true then decide (1≤d)&&bmay pu (d - 1) else bkz (pb,pu))=(if gp=true then bmay pu (d - 1) else bkz (pb,pu)):=by
  cases gp with
  | false=>rfl
  | true =>
   rw[if_pos rfl,if_pos rfl];unfold bmay;rw[←Bool.and_assoc,decide_eq_decide.2 (show (1≤d)↔(0≤d - 1) by omega),Bool.and_self]
 have hsn:(if gn=true then decide (1≤d)&&bmay nu (d - 1) else bkz (nb,nu))=(if gn=true then bmay nu (d - 1) else bkz (nb,nu)):=by
  cases gn with
  | false=>rfl
  | true =>
   rw[if_pos rfl,if_pos rfl];unfold bmay;rw[←Bool.and_assoc,decide_eq_decide.2 (show (1≤d)↔(0≤d - 1) by omega),Bool.and_self]
 rw[hsp,hsn,show decide (0≤d)=!decide (d<0) by rw[←decide_not];exact decide_eq_decide.2 (by omega)] at hm2;clear hsp hsn
 have harms:(decide (d<0)=true∧mx=false)∨(decide (d<0)=false∧((bp||decide (vp=0))&&((bm||decide (vm=0))&&(bg||decide (vg=0))))=false∧mx=false)∨(decide (d<0)=false∧((bp||decide (vp=0))&&((bm||decide (vm=0))&&(bg||decide (vg=0))))=true∧(if gp=true then bmay pu (d - 1) else bkz (pb,pu))=false∧mx=false)∨(decide (d<0)=false∧((bp||decide (vp=0))&&((bm||decide (vm=0))&&(bg||decide (vg=0))))=true∧(if gp=true then bmay pu (d - 1) else bkz (pb,pu))=true∧(if gn=true then bmay nu (d - 1) else bkz (nb,nu))=false∧mx=false)∨(decide (d<0)=false∧((bp||decide (vp=0))&&((bm||decide (vm=0))&&(bg||decide (vg=0))))=true∧(if gp=true then bmay pu (d - 1) else bkz (pb,pu))=true∧(if gn=true then bmay nu (d - 1) else bkz (nb,nu))=true∧((lmays exSb es d=false∧mx=false)∨(lmays exSb es d=true∧kmays l d=false∧mx=false)∨(lmays exSb es d=true∧kmays l d=true∧munkOk xrF.tk u d=false∧mx=false)∨(lmays exSb es d=true∧kmays l d=true∧munkOk xrF.tk u d=true∧mx=true))):=by
  revert hm2
  generalize decide (d<0)=b0
  generalize (if gp=true then bmay pu (d - 1) else bkz (pb,pu))=b1
  generalize (if gn=true then bmay nu (d - 1) else bkz (nb,nu))=b2
  generalize lmays exSb es d=b3
  generalize kmays l d=b4
  generalize munkOk xrF.tk u d=b5
  generalize (bp||decide (vp=0))=b6
  generalize (bm||decide (vm=0))=b7
  generalize (bg||decide (vg=0))=b8
  intro hm2;subst hm2
  revert b0 b1 b2 b3 b4 b5 b6 b7 b8
  decide
 clear hm2;have HDD:=hid hd;obtain ⟨bx,hbx⟩:∃ b,w.heap.size=b:=⟨_,rfl⟩
 obtain ⟨W,hW⟩:∃ W,w.alloc (.cells #[.slice lo l.length lc,.int .u64 a,.int .u64 t,.int .u64 k,.bool bp,.int .u64 vp,.bool bm,.int .u64 vm,.bool bg,.int .u64 vg,.int .i32 sc,.int .u64 zc,.bool gp,.int .i32 pb.off,.slice po pb.cs.length pc,.string Xpu,.bool gn,.int .i32 nb.off,.slice no nb.cs.length nc,.string Xnu,.slice eo es.length ec,.int .u32 f,.int .u64 th,.string Xu] 33)=W:=⟨_,rfl⟩
 have hb0:Below w.heap.size w W:=by rw[←hW];exact below_new _ _
 have hrow:W.heap[bx]? = some (.cells #[.slice lo l.length lc,.int .u64 a,.int .u64 t,.int .u64 k,.bool bp,.int .u64 vp,.bool bm,.int .u64 vm,.bool bg,.int .u64 vg,.int .i32 sc,.int .u64 zc,.bool gp,.int .i32 pb.off,.slice po pb.cs.length pc,.string Xpu,.bool gn,.int .i32 nb.off,.slice no nb.cs.length nc,.string Xnu,.slice eo es.length ec,.int .u32 f,.int .u64 th,.string Xu] 33 (0,0)):=by rw[←hW,←hbx];exact new_row _ _ _
 obtain ⟨D,hD⟩:∃ D,W.drew=D:=⟨_,rfl⟩
 have hbd:Below W.heap.size W D:=by rw[←hD];exact (Below.refl _ _).drew
 have HBD:=hid (below_step hb0 hbd);have HB0:=hid hb0;have HROWW:=hid hrow;have HROW:=hid ((hbd.block _ (row_lt hrow)).trans hrow);have HKl:Hid (KRels W Q l lo 0):=hid (hrl.below HB0.out);have HFl:=hid hfl;have HWTl:Hid (ksw l≤12000):=hid (by omega);have HKp:Hid (CRels natCel W Q pb.cs po):=hid (hrpb.below HB0.out);have HKn:Hid (CRels natCel W Q nb.cs no):=hid (hrnb.below HB0.out);have HFp:Hid (BkOk pb):=hid hfpu;have HFn:Hid (BkOk nb):=hid hfnu;have HLp:Hid (pb.cs.length≤10000):=hid (by omega);have HLn:Hid (nb.cs.length≤10000):=hid (by omega);have HKes:Hid (CRels exCel W Q es eo):=hid (hres.below HB0.out);have HFes:=hid hfes;have HWTes:Hid (lwt exSb es≤12000):=hid (by omega);have HW:=hid hW;have HBX:=hid hbx;have HDN:=hid hD;clear hW hbx hrow hD hb0 hbd hfl hna hnt hnk hnvp hnsc hnzc hfpu hfnu hnf hfes hnvm hnvg hnth hw hwt ha hrl hrpb hrnb hres hd;obtain ⟨g1,hg1⟩:∃ g,gp=g:=⟨_,rfl⟩
 obtain ⟨g2,hg2⟩:∃ g,gn=g:=⟨_,rfl⟩
 have HRG:Hid (W.heap[bx]? = some (.cells #[.slice lo l.length lc,.int .u64 a,.int .u64 t,.int .u64 k,.bool bp,.int .u64 vp,.bool bm,.int .u64 vm,.bool bg,.int .u64 vg,.int .i32 sc,.int .u64 zc,.bool g1,.int .i32 pb.off,.slice po pb.cs.length pc,.string Xpu,.bool g2,.int .i32 nb.off,.slice no nb.cs.length nc,.string Xnu,.slice eo es.length ec,.int .u32 f,.int .u64 th,.string Xu] 33 (0,0))):=hid (by rw[←hg1,←hg2];exact HROWW.out);clear hg1 hg2
 rcases harms with ⟨d1,rfl⟩|⟨d1,co,rfl⟩|⟨d1,co,cp,rfl⟩|⟨d1,co,cp,cn,rfl⟩|⟨d1,co,cp,cn,hE⟩
 all_goals try (revert cp;cases gp<;>intro cp<;>simp only[reduceIte,Bool.false_eq_true] at cp)
 all_goals try (revert cn;cases gn<;>intro cn<;>simp only[reduceIte,Bool.false_eq_true] at cn)
 all_goals
  try have H0:Hid (0≤d):=hid (by have:=of_decide_eq_false d1;omega)
  try have q1:IntKind.i64.wrap (d - 1)=d - 1:=IntWalk.i64_in _ (by have:=HDD.out;have:=H0.out;omega)
  go_enter Tryz.func12,Tryz.ntmps12;go_wp2_with fail;rw[HW.out,HBX.out]
  first
  | (go_ret
     exact ⟨rfl,by have h:=HB0.out;rwa [HBX.out] at h⟩)
  | skip
 all_goals have HB:Hid (Below W.heap.size W W):=hid (Below.refl _ _)
 all_goals
  refine (opts8_any bp vp bm vm bg vg _).mono ?_;rintro e wz ⟨rfl,hb⟩;rw[co];replace HB:=hid (below_step HB.out hb);clear hb;have z12:=row_cell (((HB.out.block _ (row_lt HROWW.out)).trans HROWW.out)) (j:=12) rfl;have z13:=row_cell (((HB.out.block _ (row_lt HROWW.out)).trans HROWW.out)) (j:=13) rfl;have z14:=row_cell (((HB.out.block _ (row_lt HROWW.out)).trans HROWW.out)) (j:=14) rfl;have z15:=row_cell (((HB.out.block _ (row_lt HROWW.out)).trans HROWW.out)) (j:=15) rfl;have z16:=row_cell (((HB.out.block _ (row_lt HROWW.out)).trans HROWW.out)) (j:=16) rfl;have z17:=row_cell (((HB.out.block _ (row_lt HROWW.out)).trans HROWW.out)) (j:=17) rfl;have z18:=row_cell (((HB.out.block _ (row_lt HROWW.out)).trans HROWW.out)) (j:=18) rfl;have z19:=row_cell (((HB.out.block _ (row_lt HROWW.out)).trans HROWW.out)) (j:=19) rfl;go_wp2_with fail;clear z12 z13 z14 z15 z16 z17 z18 z19
  first
  | (go_ret
     first|exact ⟨rfl,below_step HB0.out HB.out⟩|exact ⟨rfl,by have h:=below_step HB0.out HB.out;rwa [HBX.out] at h⟩)
  | skip
 all_goals
  first
  | (refine (may13_any pb pu po pc Xpu (d - 1) _ HDpu (by have:=HUpu.out;omega) (by have:=HDD.out;omega)).mono ?_;rintro e wz ⟨rfl,hb⟩
     rw[cp];replace HB:=hid (below_step HB.out hb);clear hb)
  | (refine (bare_any pb pu po pc Xpu _ HDpu).mono ?_;rintro e wz ⟨rfl,hb⟩
     rw[cp];replace HB:=hid (below_step HB.out hb);clear hb)
  have z12:=row_cell (((HB.out.block _ (row_lt HROWW.out)).trans HROWW.out)) (j:=12) rfl;have z13:=row_cell (((HB.out.block _ (row_lt HROWW.out)).trans HROWW.out)) (j:=13) rfl;have z14:=row_cell (((HB.out.block _ (row_lt HROWW.out)).trans HROWW.out)) (j:=14) rfl;have z15:=row_cell (((HB.out.block _ (row_lt HROWW.out)).trans HROWW.out)) (j:=15) rfl;have z16:=row_cell (((HB.out.block _ (row_lt HROWW.out)).trans HROWW.out)) (j:=16) rfl;have z17:=row_cell (((HB.out.block _ (row_lt HROWW.out)).trans HROWW.out)) (j:=17) rfl;have z18:=row_cell (((HB.out.block _ (row_lt HROWW.out)).trans HROWW.out)) (j:=18) rfl;have z19:=row_cell (((HB.out.block _ (row_lt HROWW.out)).trans HROWW.out)) (j:=19) rfl;go_wp2_with fail;clear z12 z13 z14 z15 z16 z17 z18 z19
  first
  | (go_ret
     first|exact ⟨rfl,below_step HB0.out HB.out⟩|exact ⟨rfl,by have h:=below_step HB0.out HB.out;rwa [HBX.out] at h⟩)
  | skip
 all_goals
  first
  | (refine (may13_any nb nu no nc Xnu (d - 1) _ HDnu (by have:=HUnu.out;omega) (by have:=HDD.out;omega)).mono ?_;rintro e wz ⟨rfl,hb⟩
     rw[cn];replace HB:=hid (below_step HB.out hb);clear hb)
  | (refine (bare_any nb nu no nc Xnu _ HDnu).mono ?_;rintro e wz ⟨rfl,hb⟩
     rw[cn];replace HB:=hid (below_step HB.out hb);clear hb)
  have z12:=row_cell (((HB.out.block _ (row_lt HROWW.out)).trans HROWW.out)) (j:=12) rfl;have z13:=row_cell (((HB.out.block _ (row_lt HROWW.out)).trans HROWW.out)) (j:=13) rfl;have z14:=row_cell (((HB.out.block _ (row_lt HROWW.out)).trans HROWW.out)) (j:=14) rfl;have z15:=row_cell (((HB.out.block _ (row_lt HROWW.out)).trans HROWW.out)) (j:=15) rfl;have z16:=row_cell (((HB.out.block _ (row_lt HROWW.out)).trans HROWW.out)) (j:=16) rfl;have z17:=row_cell (((HB.out.block _ (row_lt HROWW.out)).trans HROWW.out)) (j:=17) rfl;have z18:=row_cell (((HB.out.block _ (row_lt HROWW.out)).trans HROWW.out)) (j:=18) rfl;have z19:=row_cell (((HB.out.block _ (row_lt HROWW.out)).trans HROWW.out)) (j:=19) rfl;go_wp2_with fail;clear z12 z13 z14 z15 z16 z17 z18 z19
  first
  | (go_ret
     first|exact ⟨rfl,below_step HB0.out HB.out⟩|exact ⟨rfl,by have h:=below_step HB0.out HB.out;rwa [HBX.out] at h⟩)
  | skip
 all_goals
  obtain ⟨D2,hD2⟩:∃ D2,wz.drew=D2:=⟨_,rfl⟩
  replace HB:Hid (Below W.heap.size W D2):=hid (by rw[←hD2];exact below_step HB.out ((Below.refl _ _).drew));have HN2:=hid hD2;clear hD2;have hne:Nonempty {w':World // (fun w'=>w'.heap[bx]? = some (.cells #[.slice lo l.length lc,.int .u64 a,.int .u64 t,.int .u64 k,.bool bp,.int .u64 vp,.bool bm,.int .u64 vm,.bool bg,.int .u64 vg,.int .i32 sc,.int .u64 zc,.bool g1,.int .i32 pb.off,.slice po pb.cs.length pc,.string Xpu,.bool g2,.int .i32 nb.off,.slice no nb.cs.length nc,.string Xnu,.slice eo es.length ec,.int .u32 f,.int .u64 th,.string Xu] 33 (0,0))) w'}:=⟨⟨_,((HB.out.block _ (row_lt HRG.out)).trans HRG.out)⟩⟩
  refine wp_region_seq (S:=fun w'=>w'.heap[bx]? = some (.cells #[.slice lo l.length lc,.int .u64 a,.int .u64 t,.int .u64 k,.bool bp,.int .u64 vp,.bool bm,.int .u64 vm,.bool bg,.int .u64 vg,.int .i32 sc,.int .u64 zc,.bool g1,.int .i32 pb.off,.slice po pb.cs.length pc,.string Xpu,.bool g2,.int .i32 nb.off,.slice no nb.cs.length nc,.string Xnu,.slice eo es.length ec,.int .u32 f,.int .u64 th,.string Xu] 33 (0,0))) [(0,true),(1,true),(2,true),(3,true),(4,false),(5,true),(6,true),(7,true),(8,true),(9,true),(10,false),(11,true),(12,true),(13,true),(14,true),(15,true),(16,false),(17,false),(18,true),(19,true)] (by kernel_rfl) (by kernel_rfl) (by kernel_rfl) (by kernel_rfl) (by rw[HN2.out];exact ((HB.out.block _ (row_lt HRG.out)).trans HRG.out)) ?_;rw[HN2.out]
  rcases hE with ⟨ces,rfl⟩|⟨ces,cl,rfl⟩|⟨ces,cl,cu,rfl⟩|⟨ces,cl,cu,rfl⟩
  all_goals
    (refine seq_take _ rfl (fun KC hK=>?_);go_simp;(first|refine hK _ ?_|refine ⟨_,fun _ _=>rfl,hK _ ?_⟩|(refine ⟨undef,by rw[if_neg (by simp[undef])],?_⟩;refine hK _ ?_));clear hK KC)
    first|(refine seq_take _ rfl (fun KC hK=>?_);go_simp;refine ⟨.slice eo es.length ec,fun wA ha=>by (have e0:wA.cell? ⟨bx,20,none⟩=some (.slice eo es.length ec):=row_cell ha (j:=20) rfl);simp only[e0,Result.andThen],hK _ ?_⟩;clear hK KC)|(refine seq_take _ rfl (fun KC hK=>?_);go_simp;(first|refine hK _ ?_|refine ⟨_,fun _ _=>rfl,hK _ ?_⟩|(refine ⟨undef,by rw[if_neg (by simp[undef])],?_⟩;refine hK _ ?_));clear hK KC)
    iterate 2 (refine seq_take _ rfl (fun KC hK=>?_);go_simp;(first|refine hK _ ?_|refine ⟨_,fun _ _=>rfl,hK _ ?_⟩|(refine ⟨undef,by rw[if_neg (by simp[undef])],?_⟩;refine hK _ ?_));clear hK KC)
    first
    | (refine seq_come _ rfl (fun KC hK=>?_);go_simp
       refine (mayexs8_any es eo ec Q _ (d - 1) HFes.out HWTes.out (HKes.out.below HB.out) (by have:=HDD.out;have:=H0.out;omega)).mono ?_;rintro e wz ⟨rfl,hb⟩;rw[lmays_ex d H0.out,ces];replace HB:=hid (below_step HB.out hb);clear hb;go_simp;refine hK.out _ _ ((HB.out.block _ (row_lt HRG.out)).trans HRG.out) ?_;clear hK KC)
    | (refine seq_come _ rfl (fun KC hK=>?_);go_simp;(first|refine hK.out _ _ ((HB.out.block _ (row_lt HRG.out)).trans HRG.out) ?_|(rw[if_neg (by simp[undef])];refine hK.out _ _ ((HB.out.block _ (row_lt HRG.out)).trans HRG.out) ?_));clear hK KC)
    iterate 2 (refine seq_take _ rfl (fun KC hK=>?_);go_simp;(first|refine hK _ ?_|refine ⟨_,fun _ _=>rfl,hK _ ?_⟩|(refine ⟨undef,by rw[if_neg (by simp[undef])],?_⟩;refine hK _ ?_));clear hK KC)
    first|(refine seq_take _ rfl (fun KC hK=>?_);go_simp;refine ⟨.slice lo l.length lc,fun wA ha=>by (have e0:wA.cell? ⟨bx,0,none⟩=some (.slice lo l.length lc):=row_cell ha (j:=0) rfl);simp only[e0,Result.andThen],hK _ ?_⟩;clear hK KC)|(refine seq_take _ rfl (fun KC hK=>?_);go_simp;(first|refine hK _ ?_|refine ⟨_,fun _ _=>rfl,hK _ ?_⟩|(refine ⟨undef,by rw[if_neg (by simp[undef])],?_⟩;refine hK _ ?_));clear hK KC)
    iterate 2 (refine seq_take _ rfl (fun KC hK=>?_);go_simp;(first|refine hK _ ?_|refine ⟨_,fun _ _=>rfl,hK _ ?_⟩|(refine ⟨undef,by rw[if_neg (by simp[undef])],?_⟩;refine hK _ ?_));clear hK KC)
    first
    | (refine seq_come _ rfl (fun KC hK=>?_);go_simp
       refine (mayks_any8 l lo lc Q _ (d - 1) HFl.out (HKl.out.below HB.out) (by have:=HDD.out;have:=H0.out;omega) (by have:=HWTl.out;omega)).mono ?_;rintro e wz ⟨hb,gg,rfl,rfl⟩;rw[kmays_ref d H0.out,cl];replace HB:=hid (below_step HB.out hb);clear hb;go_simp;refine hK.out _ _ ((HB.out.block _ (row_lt HRG.out)).trans HRG.out) ?_;clear hK KC)
    | (refine seq_come _ rfl (fun KC hK=>?_);go_simp;(first|refine hK.out _ _ ((HB.out.block _ (row_lt HRG.out)).trans HRG.out) ?_|(rw[if_neg (by simp[undef])];refine hK.out _ _ ((HB.out.block _ (row_lt HRG.out)).trans HRG.out) ?_));clear hK KC)
    iterate 3 (refine seq_take _ rfl (fun KC hK=>?_);go_simp;(first|refine hK _ ?_|refine ⟨_,fun _ _=>rfl,hK _ ?_⟩|(refine ⟨undef,by rw[if_neg (by simp[undef])],?_⟩;refine hK _ ?_));clear hK KC)
    first|(refine seq_take _ rfl (fun KC hK=>?_);go_simp;refine ⟨.string Xu,fun wA ha=>by (have e0:wA.cell? ⟨bx,23,none⟩=some (.string Xu):=row_cell ha (j:=23) rfl);simp only[e0,Result.andThen],hK _ ?_⟩;clear hK KC)|(refine seq_take _ rfl (fun KC hK=>?_);go_simp;(first|refine hK _ ?_|refine ⟨_,fun _ _=>rfl,hK _ ?_⟩|(refine ⟨undef,by rw[if_neg (by simp[undef])],?_⟩;refine hK _ ?_));clear hK KC)
    (refine seq_take _ rfl (fun KC hK=>?_);go_simp;(first|refine hK _ ?_|refine ⟨_,fun _ _=>rfl,hK _ ?_⟩|(refine ⟨undef,by rw[if_neg (by simp[undef])],?_⟩;refine hK _ ?_));clear hK KC)
    first
    | (refine seq_come _ rfl (fun KC hK=>?_);go_simp
       refine (xp_tab _).mono ?_;rintro e wz ⟨to,rfl,HNT,hb⟩;replace HB:=hid (below_step HB.out hb);clear hb;go_simp;refine hK.out _ _ ((HB.out.block _ (row_lt HRG.out)).trans HRG.out) ?_;clear hK KC)
    | (refine seq_come _ rfl (fun KC hK=>?_);go_simp;(first|refine hK.out _ _ ((HB.out.block _ (row_lt HRG.out)).trans HRG.out) ?_|(rw[if_neg (by simp[undef])];refine hK.out _ _ ((HB.out.block _ (row_lt HRG.out)).trans HRG.out) ?_));clear hK KC)
    first
    | (refine seq_come _ rfl (fun KC hK=>?_);go_simp
       refine (unknown8_any Xu d [10,17,25,33,41,48,57,66,74,80,90,97,105,113] to 14 _ HNT (by decide) (hid (by decide)) (by have:=HZu.out;omega) HDD.out.2).mono ?_;rintro e wz ⟨rfl,hb⟩;rw[HDu.out,←munkOk_rtk xp_rtk,cu,show decide (0≤d)=true from decide_eq_true H0.out];replace HB:=hid (below_step HB.out hb);clear hb;go_simp;refine hK.out _ _ ((HB.out.block _ (row_lt HRG.out)).trans HRG.out) ?_;clear hK KC)
    | (refine seq_come _ rfl (fun KC hK=>?_);go_simp;(first|refine hK.out _ _ ((HB.out.block _ (row_lt HRG.out)).trans HRG.out) ?_|(rw[if_neg (by simp[undef])];refine hK.out _ _ ((HB.out.block _ (row_lt HRG.out)).trans HRG.out) ?_));clear hK KC)
    iterate 2 (refine seq_take _ rfl (fun KC hK=>?_);go_simp;(first|refine hK _ ?_|refine ⟨_,fun _ _=>rfl,hK _ ?_⟩|(refine ⟨undef,by rw[if_neg (by simp[undef])],?_⟩;refine hK _ ?_));clear hK KC)
    refine seq_done ?_;clear hne;go_wp2_with fail;go_ret
    first|exact ⟨rfl,below_step HB0.out HB.out⟩|exact ⟨rfl,by have h:=below_step HB0.out HB.out;rwa [HBX.out] at h⟩
end Go.Proofs.YtficgfemmijaaaaGreatDoor
