/-
 hygref8.ReadExemplar.
-/
import Derived.Test.YtmlghmjjlpioeaaGreatDoorRefValue
set_option maxRecDepth 1000000
set_option maxHeartbeats 16000000
namespace Go.Proofs.YtmlghmjjlpioeaaGreatDoor
open Go.RowKit
open Lib (hid)
theorem zb8 (X:ByteArray)(d:Int)(w:World)(hX:X.size<=500000)(hd:-9223372036854775808<=d/\d<=9223372036854775807) :
  Calls Tryz.prog 27 #[.string X,.int .i64 d] w (z71 qg Q3 (exrd X.data.toList d) w):=by
 obtain⟨g,hg⟩:=nmd (w.heap.size)
 obtain⟨W0,hW0⟩:=nmd (w.alloc (.cells #[.slice none 0 0,.int .u64 0,.int .i64 0,.int .u64 0,.string ⟨#[]⟩,.string ⟨#[]⟩,.string ⟨#[]⟩] 96))
 have HB0:Hid (Below w.heap.size w W0):=hid (by rw[<-hW0];exact zd _ _);have HG0:Hid (W0.heap[g]?=some (.cells #[.slice none 0 0,.int .u64 0,.int .i64 0,.int .u64 0,.string ⟨#[]⟩,.string ⟨#[]⟩,.string ⟨#[]⟩] 96 (0,0))):=hid (by rw[<-hW0,<-hg];exact heap_alloc_new w _);have hs0:W0.heap.size=g+1:=by rw[<-hW0,<-hg];simp
 have HF:=hid (kx X d W0 (by omega) hd.2);have HW0:=hid hW0;have HGG:=hid hg;have HS0:=hid hs0;have HDD:=hid hd;have HSS:=hid hX;clear hW0 hd hX hs0 hg
 cases hw:y8 X.data.toList d with
 | error c =>
  have HBR:Hid (exrd X.data.toList d=.error c):=hid ((z08 (σ:=exS)).trans (by rw[hw]));have HW:=hid hw;clear hw;go_enter Tryz.func27,Tryz.ntmps27;go_wp2_with fail;rw[HW0.out,HGG.out];refine HF.out.mono ?_;intro e w1 hpost;unfold xe at hpost
  rw[HW.out]at hpost;obtain⟨hb1,rfl⟩:=hpost;have HB1:=hid (zb HB0.out hb1);have HG1:=hid ((hb1.block _ (z8 HG0.out)).trans HG0.out);clear hb1;go_wp2_with fail;obtain⟨W2,hW2⟩:=nmd (w1.alloc (.cells #[.slice none 0 0,.int .u64 0,.int .i64 0,.int .u64 0,.string ⟨#[]⟩,.string ⟨#[]⟩,.string ⟨#[]⟩] 96))
  have HB2:Hid (Below w.heap.size w W2):=hid (by rw[<-hW2];exact zb HB1.out (zd _ _));have HG2:Hid (W2.heap[g]?=some (.cells #[.slice none 0 0,.int .u64 0,.int .i64 0,.int .u64 0,.string ⟨#[]⟩,.string ⟨#[]⟩,.string ⟨#[]⟩] 96 (0,0))):=hid (by rw[<-hW2];exact(Below.heap_alloc _ _ _ (z8 HG1.out)).trans HG1.out);rw[hW2];clear hW2
  go_loopg [7,9] 0 (fun k b i wr=>b=.bool false/\i=.int .i64 0/\wr=W2)
  case atStart=>exact⟨rfl,rfl,rfl⟩
  case round =>
   obtain⟨rfl,rfl,rfl⟩:=hrel;have hg0:wr.cell? ⟨g,0,none⟩=some (.slice none 0 0):=za HG2.out (j:=0) rfl;have fg0:wr.frozen? ⟨g,0,none⟩=false:=z7 HG2.out 0;have hg1:wr.cell? ⟨g,1,none⟩=some (.int .u64 0):=za HG2.out (j:=1) rfl;have fg1:wr.frozen? ⟨g,1,none⟩=false:=z7 HG2.out 1;have hg2:wr.cell? ⟨g,2,none⟩=some (.int .i64 0):=za HG2.out (j:=2) rfl;have fg2:wr.frozen? ⟨g,2,none⟩=false:=z7 HG2.out 2;have hg3:wr.cell? ⟨g,3,none⟩=some (.int .u64 0):=za HG2.out (j:=3) rfl;have fg3:wr.frozen? ⟨g,3,none⟩=false:=z7 HG2.out 3;have hg4:wr.cell? ⟨g,4,none⟩=some (.string ⟨#[]⟩):=za HG2.out (j:=4) rfl;have fg4:wr.frozen? ⟨g,4,none⟩=false:=z7 HG2.out 4;have hg5:wr.cell? ⟨g,5,none⟩=some (.string ⟨#[]⟩):=za HG2.out (j:=5) rfl;have fg5:wr.frozen? ⟨g,5,none⟩=false:=z7 HG2.out 5;have hg6:wr.cell? ⟨g,6,none⟩=some (.string ⟨#[]⟩):=za HG2.out (j:=6) rfl;have fg6:wr.frozen? ⟨g,6,none⟩=false:=z7 HG2.out 6;go_wp2_with fail;obtain⟨hr,hua⟩:=z06 HG2.out (.slice none 0 0) (.int .u64 0) (.int .i64 0) (.int .u64 0) (.string ⟨#[]⟩) (.string ⟨#[]⟩) (.string ⟨#[]⟩);refine zi rfl rfl (J9 hr rfl) rfl ?_;refine⟨HB2.out.trans (hua.below (by have:=HB2.out.size;omega) (fun k _ h=>by have h:k=g:=h;have:=HGG.out;omega)),?_⟩;rw[HBR.out];exact rfl
 | ok rs =>
  have HBR:=hid (Qw (σ:=exS) (tk:=exF.tk) (step:=exF.step d) (st:=exF.z) hw);have HD0:Hid (0<=d):=hid (by unfold y8 at hw;split at hw;cases hw;omega);have HWA:Hid (wall X.data.toList d=.ok rs):=hid (by unfold y8 at hw;split at hw;cases hw;exact hw);have HLL:Hid (rs.length<=X.size):=hid (by have:=kd HWA.out;simpa using this);have HRAW:Hid (rs.flatMap Rec.raw=X.data.toList):=hid (xh _ (Nat.le_refl _) HWA.out).1;have HREC:Hid (∀r∈rs,zt d r):=hid (xp _ (Nat.le_refl _) HWA.out);have HW:=hid hw;clear hw;go_enter Tryz.func27,Tryz.ntmps27;go_wp2_with fail;rw[HW0.out,HGG.out];refine HF.out.mono ?_;intro e w1 hpost;unfold xe at hpost
  rw[HW.out]at hpost;obtain⟨hb1,u,rfl,hown⟩:=hpost;obtain⟨lo,lcap,rfl⟩:=zh hown;have HB1:=hid (zb HB0.out hb1);have HO1:=hid hown;have HG1:=hid ((hb1.block _ (z8 HG0.out)).trans HG0.out);clear hb1 hown;go_wp2_with fail;obtain⟨bx,hbx⟩:=nmd (w1.heap.size)
  obtain⟨W2,hW2⟩:=nmd (w1.alloc (.cells #[.slice none 0 0,.int .u64 0,.int .i64 0,.int .u64 0,.string ⟨#[]⟩,.string ⟨#[]⟩,.string ⟨#[]⟩] 96))
  have HB2:Hid (Below bx w1 W2):=hid (by rw[<-hW2,<-hbx];exact zd _ _);have HX2:Hid (W2.heap[bx]?=some (.cells #[.slice none 0 0,.int .u64 0,.int .i64 0,.int .u64 0,.string ⟨#[]⟩,.string ⟨#[]⟩,.string ⟨#[]⟩] 96 (0,0))):=hid (by rw[<-hW2,<-hbx];exact heap_alloc_new w1 _);rw[hW2,hbx];have HBX:=hid hbx;clear hW2 hbx
  go_loopg [7,9] rs.length (fun k b i wr=>∃(j:Nat) (v:Value) (U:ByteArray) (l:List KV) (vt:Nat) (vk:Int) (vn:Nat) (A:ByteArray) (B:ByteArray),i=.int .i64 j/\j+k=rs.length/\Below bx w1 wr/\wr.heap[bx]?=some (.cells #[v,.int .u64 vt,.int .i64 vk,.int .u64 vn,.string A,.string B,.string U] 96 (0,0))/\CLB kcel 55 (bx+1) v l wr/\l.length<=j/\(b=.bool true/\Hid (zg (σ:=exS) exF.tk (exF.step d) exF.z (rs.take j)=.ok (vt,(((vk,vn),(A.data.toList,B.data.toList)),l))/\U.data.toList=munk exF.tk (rs.take j))∨b=.bool false/\∃c,zg (σ:=exS) exF.tk (exF.step d) exF.z rs=.error c))
  case atStart=>exact⟨0,.slice none 0 0,⟨#[]⟩,[],0,0,0,⟨#[]⟩,⟨#[]⟩,rfl,by omega,HB2.out,HX2.out,CLB.nil _ _ _ _,Nat.le_refl _,.inl ⟨rfl,hid ⟨rfl,rfl⟩⟩⟩
  case round =>
   obtain⟨j,v,U,l,vt,vk,vn,A,B,rfl,hj,hbr,hx,hlb,hxl,hcase⟩:=hrel;have HBR1:=hid hbr;have HX1:=hid hx;have HJ:=hid hj;have HLB:=hid hlb;have hjl:j<=1000000:=by have:=HLL.out;have:=HSS.out;omega
   have HGR:=hid ((hbr.block _ (by have:=z8 HG1.out;have:=HBX.out;omega)).trans HG1.out);have HWB:Hid (Below w.heap.size w wr):=hid (HB1.out.trans (hbr.mono (by have:=HB1.out.size;have:=HBX.out;omega)));have HGX:Hid (g<bx):=hid (by have:=z8 HG1.out;have:=HBX.out;omega);clear hbr hx hj hlb
   rcases hcase with ⟨rfl,hst⟩|⟨rfl,c,hm⟩
   case inr =>
    have HBE:Hid (exrd X.data.toList d=.error c):=hid (HBR.out.1 c hm);clear hm;have hg0:=rc0 HGR.out;have fg0:=z7 HGR.out 0;have hg1:=rc1 HGR.out;have fg1:=z7 HGR.out 1;have hg2:=rc2 HGR.out;have fg2:=z7 HGR.out 2;have hg3:=rc3 HGR.out;have fg3:=z7 HGR.out 3;have hg4:=rc4 HGR.out;have fg4:=z7 HGR.out 4;have hg5:=rc5 HGR.out;have fg5:=z7 HGR.out 5;have hg6:=rc6 HGR.out;have fg6:=z7 HGR.out 6
    by_cases hlt:j<rs.length
    all_goals
     go_wp2_with fail;obtain⟨hr,hua⟩:=z06 HGR.out (.slice none 0 0) (.int .u64 0) (.int .i64 0) (.int .u64 0) (.string ⟨#[]⟩) (.string ⟨#[]⟩) (.string ⟨#[]⟩);refine zi rfl rfl (J9 hr rfl) rfl ?_;refine⟨HWB.out.trans (hua.below (by have:=HWB.out.size;omega) (fun k _ h=>by have h:k=g:=h;have:=HGG.out;omega)),?_⟩;rw[HBE.out];exact rfl
   case inl =>
    have HM:=hid hst.out.1;have HU:=hid hst.out.2;clear hst
    by_cases hlt:j<rs.length
    case neg =>
     have hjn:j=rs.length:=by have:=HJ.out;omega
     have hm:=HM.out;have hu:=HU.out;rw[hjn,List.take_length]at hm hu;have HBE:Hid (exrd X.data.toList d=.ok ((vt,(((vk,vn),(A.data.toList,B.data.toList)),l)),U.data.toList)):=hid (by rw[hu];exact HBR.out.2 _ hm);obtain⟨ao,cap,rfl⟩:=HLB.out.slice;have hg0:=rc0 HGR.out;have fg0:=z7 HGR.out 0;have hg1:=rc1 HGR.out;have fg1:=z7 HGR.out 1;have hg2:=rc2 HGR.out;have fg2:=z7 HGR.out 2;have hg3:=rc3 HGR.out;have fg3:=z7 HGR.out 3;have hg4:=rc4 HGR.out;have fg4:=z7 HGR.out 4;have hg5:=rc5 HGR.out;have fg5:=z7 HGR.out 5;have hg6:=rc6 HGR.out;have fg6:=z7 HGR.out 6;have hx0:=rc0 HX1.out;have fx0:=z7 HX1.out 0;have hx1:=rc1 HX1.out;have fx1:=z7 HX1.out 1;have hx2:=rc2 HX1.out;have fx2:=z7 HX1.out 2;have hx3:=rc3 HX1.out;have fx3:=z7 HX1.out 3;have hx4:=rc4 HX1.out;have fx4:=z7 HX1.out 4;have hx5:=rc5 HX1.out;have fx5:=z7 HX1.out 5;have hx6:=rc6 HX1.out;have fx6:=z7 HX1.out 6;clear hm hu hjn;go_wp2_with fail;obtain⟨hr,hua⟩:=z06 HGR.out (.slice ao l.length cap) (.int .u64 vt) (.int .i64 vk) (.int .u64 vn) (.string A) (.string B) (.string U);refine zi rfl rfl (J9 hr rfl) rfl ?_;refine⟨HWB.out.trans (hua.below (by have:=HWB.out.size;omega) (fun k _ h=>by have h:k=g:=h;have:=HGG.out;omega)),?_⟩;rw[HBE.out];exact⟨_,rfl,ao,cap,rfl,y7.upd hua (fun k hk h=>by have h:k=g:=h;have:=HGX.out;omega) (fun k hk=>by have:=HB1.out.size;have:=HBX.out;omega) _ _ _ HLB.out.krels⟩
    have HO:=hid (y6 HO1.out (by rw[HBX.out];exact HBR1.out));obtain⟨gr,cg,hv,hg1,hg2,_,_⟩:=yj HO.out (by omega)
    simp only[Value.slice.injEq]at hv
    obtain⟨rfl,_,rfl⟩:=hv;obtain⟨r,HRJ⟩:∃r,Hid (rs[j]=r):=⟨_,hid rfl⟩
    have hr0:wr.cell? ⟨gr,j*5,none⟩=some (.int .i64 r.num):=by rw[HO.out.cellAt (j*5) (by omega),show j*5=5*j+0 by omega,y0 hlt (by omega),HRJ.out];rfl
    have hr1:wr.cell? ⟨gr,j*5+1,none⟩=some (.int .i64 r.ty):=by rw[HO.out.cellAt (j*5+1) (by omega),show j*5+1=5*j+1 by omega,y0 hlt (by omega),HRJ.out];rfl
    have hr2:wr.cell? ⟨gr,j*5+2,none⟩=some (.int .u64 r.n):=by rw[HO.out.cellAt (j*5+2) (by omega),show j*5+2=5*j+2 by omega,y0 hlt (by omega),HRJ.out];rfl
    have hr3:wr.cell? ⟨gr,j*5+3,none⟩=some (.string ⟨r.s.toArray⟩):=by rw[HO.out.cellAt (j*5+3) (by omega),show j*5+3=5*j+3 by omega,y0 hlt (by omega),HRJ.out];rfl
    have hr4:wr.cell? ⟨gr,j*5+4,none⟩=some (.string ⟨r.raw.toArray⟩):=by rw[HO.out.cellAt (j*5+4) (by omega),show j*5+4=5*j+4 by omega,y0 hlt (by omega),HRJ.out];rfl
    have HTK:Hid (rs.take (j+1)=rs.take j++[r]):=hid (by rw[List.take_succ_eq_append_getElem hlt,HRJ.out]);have HRR:Hid (zt d r):=hid (HREC.out r (HRJ.out ▸ List.getElem_mem hlt))
    have HSUM:Hid (U.size+r.raw.length<=X.size/\r.raw.length<=X.size/\r.s.length+1<=r.raw.length):=hid (by
     have h1:=jr HRAW.out (j+1);rw[HTK.out,List.flatMap_append,List.length_append]at h1;have h2:=Xy exF.tk (rs.take j);have h3:U.size=(munk exF.tk (rs.take j)).length:=by rw[<-HU.out];simp
     have h4:([r].flatMap Rec.raw).length=r.raw.length:=by simp
     have h5:X.data.toList.length=X.size:=by simp
     have h6:=q5 HRR.out;omega)
    go_wp2_with fail;obtain⟨rb,hrb⟩:=nmd (wr.heap.size)
    obtain⟨W3,hW3⟩:=nmd (wr.alloc (.cells #[.int .i64 r.num,.int .i64 r.ty,.int .u64 r.n,.string ⟨r.s.toArray⟩,.string ⟨r.raw.toArray⟩] 88))
    have HB3:Hid (Below wr.heap.size wr W3):=hid (by rw[<-hW3];exact zd _ _);have HR3:Hid (W3.heap[rb]?=some (.cells #[.int .i64 r.num,.int .i64 r.ty,.int .u64 r.n,.string ⟨r.s.toArray⟩,.string ⟨r.raw.toArray⟩] 88 (0,0))):=hid (by rw[<-hW3,<-hrb];exact heap_alloc_new wr _);rw[hW3,hrb];clear hW3;obtain⟨D,hD⟩:=nmd (W3.drew)
    have HBD:Hid (Below wr.heap.size wr D):=hid (by rw[<-hD];exact HB3.out.drew);have HRD:Hid (D.heap[rb]?=some (.cells #[.int .i64 r.num,.int .i64 r.ty,.int .u64 r.n,.string ⟨r.s.toArray⟩,.string ⟨r.raw.toArray⟩] 88 (0,0))):=hid (by rw[<-hD];exact HR3.out);have hne:Nonempty {w':World // w'.heap[rb]?=some (.cells #[.int .i64 r.num,.int .i64 r.ty,.int .u64 r.n,.string ⟨r.s.toArray⟩,.string ⟨r.raw.toArray⟩] 88 (0,0))}:=⟨⟨_,HRD.out⟩⟩
    refine zj (S:=fun w'=>w'.heap[rb]?=some (.cells #[.int .i64 r.num,.int .i64 r.ty,.int .u64 r.n,.string ⟨r.s.toArray⟩,.string ⟨r.raw.toArray⟩] 88 (0,0))) [(1,true),(0,false),(2,false),(3,true)] (by kernel_rfl) (by kernel_rfl) (by kernel_rfl) (by kernel_rfl) (by rw[hD];exact HRD.out) ?_;rw[hD];clear hD hr0 hr1 hr2 hr3 hr4;refine zf _ rfl (fun KK hK=>?_);go_simp;refine⟨.agg #[.int .i64 r.num,.int .i64 r.ty,.int .u64 r.n,.string ⟨r.s.toArray⟩,.string ⟨r.raw.toArray⟩],fun a ha=>by(obtain⟨e0,e1,e2,e3,e4⟩:=row5 ha);simp only[e0,e1,e2,e3,e4,Result.andThen],hK _ ?_⟩;clear hK KK;refine zo _ rfl (fun KK hK=>?_);go_simp;refine(ex_tab D).mono ?_;rintro e w4 ⟨to,rfl,HNT,hb4⟩;have HB4:=hid (zb HBD.out hb4);have HR4:=hid ((hb4.block _ (z8 HRD.out)).trans HRD.out);go_simp;refine hK.out _ _ HR4.out ?_;clear hK KK hb4;refine zo _ rfl (fun KK hK=>?_);go_simp;refine(kz [17,25,34,42,49,58] to 6 r w4 HNT (by decide) (by decide)).mono ?_;rintro e w5 ⟨rfl,hb5⟩;rw[<-ex_rtk];have HB5:=hid (zb HB4.out hb5);have HR5:=hid ((hb5.block _ (z8 HR4.out)).trans HR4.out);go_simp;refine hK.out _ _ HR5.out ?_;clear hK KK hb5
    iterate 1 (refine zf _ rfl (fun KK hK=>?_);go_simp;(first|refine hK _ ?_|refine⟨_,fun _ _=>rfl,hK _ ?_⟩);clear hK KK)
    refine zw ?_;have HX5:=hid ((HB5.out.block _ (z8 HX1.out)).trans HX1.out);have HL5:Hid (CLB kcel 55 (bx+1) v l w5):=hid (HLB.out.upd (Upd.of_new (S:=fun _=>False) HB5.out) (fun _ _ _ h=>h));have HBR5:Hid (Below bx w1 w5):=hid (HBR1.out.trans (HB5.out.mono (by have:=z8 HX1.out;omega)));have HRX:Hid (bx<rb):=hid (by have:=z8 HX1.out;omega);have hxb:=z8 HX5.out;obtain⟨S,hS⟩:∃S:ByteArray,(⟨r.s.toArray⟩:ByteArray)=S:=⟨_,rfl⟩
    obtain⟨R,hR⟩:∃S:ByteArray,(⟨r.raw.toArray⟩:ByteArray)=S:=⟨_,rfl⟩
    have HSD:Hid (S.data.toList=r.s):=hid (by rw[<-hS]);have HRD2:Hid (R.data.toList=r.raw):=hid (by rw[<-hR]);have HSZ:Hid (S.size=r.s.length):=hid (by rw[<-HSD.out];simp);rw[hS,hR]at HR5 ⊢;clear hS hR hne hrb
    cases htk:exF.tk r with
    | false =>
     have HTN:=hid htk
     have hsz:¬9223372036854775807<U.size+R.size:=by
      have h1:R.size=r.raw.length:=by rw[<-HRD2.out];simp
      have h2:=HSUM.out;have h3:=HSS.out;omega
     have hxu:=rc6 HX5.out;have hxf:=z7 HX5.out 6;have hr4:=rc4 HR5.out;clear htk;go_wp2_with fail;have hj:=HJ.out;have hu:=Upd.set w5 ⟨bx,6,none⟩ (.string (U++R))
     go_roundg (gk-1)
     case measure=>omega
     case rel =>
      refine⟨j+1,v,U++R,l,vt,vk,vn,A,B,by simp,by omega,HBR5.out.trans (hu.below (by omega) (fun k _ h=>by have h:k=bx:=h;omega)),ze HX5.out 6 _,HL5.out.upd hu (fun k hk _ h=>by have h:k=bx:=h;omega),by omega,.inl ⟨rfl,hid ⟨?_,?_⟩⟩⟩
      ·rw[HTK.out];exact Y8 HM.out HTN.out
      ·rw[HTK.out,Yx HTN.out,ByteArray.data_append,Array.toList_append,HU.out,HRD2.out]
    | true =>
     have HTN:=hid htk;have HMU:Hid (U.data.toList=munk exF.tk (rs.take (j+1))):=hid (by rw[HTK.out,Ya HTN.out,HU.out]);have HMY:Hid (zg (σ:=exS) exF.tk (exF.step d) exF.z (rs.take (j+1))=exF.step d (vt,(((vk,vn),(A.data.toList,B.data.toList)),l)) r):=hid (by rw[HTK.out];exact kq HM.out HTN.out);have hr0:=rc0 HR5.out;have hr2:=rc2 HR5.out;have hr3:=rc3 HR5.out;have hnum:=htk;rw[z3l]at hnum
     simp only[decide_eq_true_iff]at hnum
     clear htk
     by_cases hn2:r.num=2
     ·have d2:((r.num:Int) == 2)=true:=by rw[beq_iff_eq];omega
      have hty:r.num=2/\r.ty=1:=by omega
      have HSE:=hid (exF_2 hty d vt vk vn (A.data.toList) (B.data.toList) l);clear hty hnum hn2;have hxc:=rc1 HX5.out;have hxf:=z7 HX5.out 1;go_wp2_with fail;have hj:=HJ.out;have hu:=Upd.set w5 ⟨bx,1,none⟩ (.int .u64 r.n)
      go_roundg (gk-1)
      case measure=>omega
      case rel =>
       exact⟨j+1,v,U,l,r.n,vk,vn,A,B,by simp,by omega,HBR5.out.trans (hu.below (by omega) (fun k _ h=>by have h:k=bx:=h;omega)),ze HX5.out 1 _,HL5.out.upd hu (fun k hk _ h=>by have h:k=bx:=h;omega),by omega,.inl ⟨rfl,hid ⟨by rw[HMY.out,HSE.out]<;>rfl,HMU.out⟩⟩⟩
     by_cases hn3:r.num=3
     ·have d2:((r.num:Int) == 2)=false:=ibf (by omega)
      have d3:((r.num:Int) == 3)=true:=by rw[beq_iff_eq];omega
      have hty:r.num=3/\r.ty=1:=by omega
      have HSE:=hid (exF_3 hty d vt vk vn (A.data.toList) (B.data.toList) l);clear hty hnum hn2 hn3;obtain⟨D2,hD2⟩:∃D,w5.drew=D:=⟨_,rfl⟩
      have HBD2:Hid (Below w5.heap.size w5 D2):=hid (by rw[<-hD2];exact(Below.refl _ _).drew);have HX6:=hid ((HBD2.out.block _ hxb).trans HX5.out);have hrD:D2.heap[rb]?=some (.cells #[.int .i64 r.num,.int .i64 r.ty,.int .u64 r.n,.string S,.string R] 88 (0,0)):=(HBD2.out.block _ (z8 HR5.out)).trans HR5.out;have hne:Nonempty {w':World // w'.heap[rb]?=some (.cells #[.int .i64 r.num,.int .i64 r.ty,.int .u64 r.n,.string S,.string R] 88 (0,0))}:=⟨⟨_,hrD⟩⟩
      have hx1:=ze HX6.out 2 (.int .i64 1);have hrD1:(D2.setCell ⟨bx,2,none⟩ (.int .i64 1)).heap[rb]?=some (.cells #[.int .i64 r.num,.int .i64 r.ty,.int .u64 r.n,.string S,.string R] 88 (0,0)):=((Upd.set D2 ⟨bx,2,none⟩ (.int .i64 1)).block _ (z8 hrD) (fun h=>by have h:rb=bx:=h;have:=HRX.out;omega)).trans hrD;have hrD2:((D2.setCell ⟨bx,2,none⟩ (.int .i64 1)).setCell ⟨bx,3,none⟩ (.int .u64 r.n)).heap[rb]?=some (.cells #[.int .i64 r.num,.int .i64 r.ty,.int .u64 r.n,.string S,.string R] 88 (0,0)):=((Upd.set _ ⟨bx,3,none⟩ (.int .u64 r.n)).block _ (z8 hrD1) (fun h=>by have h:rb=bx:=h;have:=HRX.out;omega)).trans hrD1;go_wp2_with fail;have hfx1:=z7 HX6.out 2;have hcx1:=rc2 HX6.out;have hfx2:(D2.setCell ⟨bx,2,none⟩ (.int .i64 1)).frozen? ⟨bx,3,none⟩=false:=z7 hx1 3;have hcx2:(D2.setCell ⟨bx,2,none⟩ (.int .i64 1)).cell? ⟨bx,3,none⟩=some (.int .u64 vn):=za hx1 (j:=3) rfl;refine zj (S:=fun w'=>w'.heap[rb]?=some (.cells #[.int .i64 r.num,.int .i64 r.ty,.int .u64 r.n,.string S,.string R] 88 (0,0))) [(0,true),(1,true),(2,true),(3,false),(4,true),(5,false)] (by kernel_rfl) (by kernel_rfl) (by kernel_rfl) (by kernel_rfl) (by rw[hD2];exact hrD) ?_;rw[hD2];clear hD2
      iterate 1 (refine zf _ rfl (fun KC hK=>?_);go_simp;(first|refine hK _ ?_|refine⟨_,fun _ _=>rfl,hK _ ?_⟩);clear hK KC)
      refine zf _ rfl (fun KC hK=>?_);go_simp;refine⟨.int .u64 r.n,fun a ha=>by rw[za ha (j:=2) rfl];rfl,hK _ ?_⟩;clear hK KC
      iterate 1 (refine zf _ rfl (fun KC hK=>?_);go_simp;(first|refine hK _ ?_|refine⟨_,fun _ _=>rfl,hK _ ?_⟩);clear hK KC)
      refine zo _ rfl (fun KC hK=>?_);go_simp;refine hK.out _ _ hrD1 ?_;clear hK KC
      iterate 1 (refine zf _ rfl (fun KC hK=>?_);go_simp;(first|refine hK _ ?_|refine⟨_,fun _ _=>rfl,hK _ ?_⟩);clear hK KC)
      refine zo _ rfl (fun KC hK=>?_);go_simp;refine hK.out _ _ hrD2 ?_;clear hK KC;refine zw ?_;have hu:=(Upd.set D2 ⟨bx,2,none⟩ (.int .i64 1)).trans (Upd.set _ ⟨bx,3,none⟩ (.int .u64 r.n));have HL6:Hid (CLB kcel 55 (bx+1) v l ((D2.setCell ⟨bx,2,none⟩ (.int .i64 1)).setCell ⟨bx,3,none⟩ (.int .u64 r.n))):=hid ((HL5.out.upd (Upd.of_new (S:=fun _=>False) HBD2.out) (fun _ _ _ h=>h)).upd hu (fun k hk _ h=>by have h:k=bx:=h;omega));have HBR6:Hid (Below bx w1 ((D2.setCell ⟨bx,2,none⟩ (.int .i64 1)).setCell ⟨bx,3,none⟩ (.int .u64 r.n))):=hid ((HBR5.out.trans (HBD2.out.mono (by omega))).trans (hu.below (by have:=HBD2.out.size;omega) (fun k _ h=>by have h:k=bx:=h;omega)));have hrow:=ze hx1 3 (.int .u64 r.n);have HST6:=hid hrow;clear hu hrow hne hrD hrD1 hrD2 hx1 hfx1 hcx1 hfx2 hcx2;go_wp2_with fail;have hj:=HJ.out
      go_roundg (gk-1)
      case measure=>omega
      case rel =>
       exact⟨j+1,v,U,l,vt,1,r.n,A,B,by simp,by omega,HBR6.out,HST6.out,HL6.out,by omega,.inl ⟨rfl,hid ⟨by rw[HMY.out,HSE.out]<;>rfl,HMU.out⟩⟩⟩
     by_cases hn4:r.num=4
     ·have d2:((r.num:Int) == 2)=false:=ibf (by omega)
      have d3:((r.num:Int) == 3)=false:=ibf (by omega)
      have d4:((r.num:Int) == 4)=true:=by rw[beq_iff_eq];omega
      have hty:r.num=4/\r.ty=2:=by omega
      have HSE:=hid (exF_4 hty d vt vk vn (A.data.toList) (B.data.toList) l);clear hty hnum hn2 hn3 hn4;have hxc:=rc4 HX5.out;have hxf:=z7 HX5.out 4;go_wp2_with fail;have hj:=HJ.out;have hu:=Upd.set w5 ⟨bx,4,none⟩ (.string S)
      go_roundg (gk-1)
      case measure=>omega
      case rel =>
       exact⟨j+1,v,U,l,vt,vk,vn,S,B,by simp,by omega,HBR5.out.trans (hu.below (by omega) (fun k _ h=>by have h:k=bx:=h;omega)),ze HX5.out 4 _,HL5.out.upd hu (fun k hk _ h=>by have h:k=bx:=h;omega),by omega,.inl ⟨rfl,hid ⟨by rw[HSD.out,HMY.out,HSE.out]<;>rfl,HMU.out⟩⟩⟩
     by_cases hn5:r.num=5
     ·have d2:((r.num:Int) == 2)=false:=ibf (by omega)
      have d3:((r.num:Int) == 3)=false:=ibf (by omega)
      have d4:((r.num:Int) == 4)=false:=ibf (by omega)
      have d5:((r.num:Int) == 5)=true:=by rw[beq_iff_eq];omega
      have hty:r.num=5/\r.ty=2:=by omega
      have HSE:=hid (exF_5 hty d vt vk vn (A.data.toList) (B.data.toList) l);clear hty hnum hn2 hn3 hn4 hn5;have hxc:=rc5 HX5.out;have hxf:=z7 HX5.out 5;go_wp2_with fail;have hj:=HJ.out;have hu:=Upd.set w5 ⟨bx,5,none⟩ (.string S)
      go_roundg (gk-1)
      case measure=>omega
      case rel =>
       exact⟨j+1,v,U,l,vt,vk,vn,A,S,by simp,by omega,HBR5.out.trans (hu.below (by omega) (fun k _ h=>by have h:k=bx:=h;omega)),ze HX5.out 5 _,HL5.out.upd hu (fun k hk _ h=>by have h:k=bx:=h;omega),by omega,.inl ⟨rfl,hid ⟨by rw[HSD.out,HMY.out,HSE.out]<;>rfl,HMU.out⟩⟩⟩
     by_cases hn6:r.num=6
     ·have d2:((r.num:Int) == 2)=false:=ibf (by omega)
      have d3:((r.num:Int) == 3)=false:=ibf (by omega)
      have d4:((r.num:Int) == 4)=false:=ibf (by omega)
      have d5:((r.num:Int) == 5)=false:=ibf (by omega)
      have d6:((r.num:Int) == 6)=true:=by rw[beq_iff_eq];omega
      have hty:r.num=6/\r.ty=1:=by omega
      have HSE:=hid (exF_6 hty d vt vk vn (A.data.toList) (B.data.toList) l);clear hty hnum hn2 hn3 hn4 hn5 hn6;obtain⟨D2,hD2⟩:∃D,w5.drew=D:=⟨_,rfl⟩
      have HBD2:Hid (Below w5.heap.size w5 D2):=hid (by rw[<-hD2];exact(Below.refl _ _).drew);have HX6:=hid ((HBD2.out.block _ hxb).trans HX5.out);have hrD:D2.heap[rb]?=some (.cells #[.int .i64 r.num,.int .i64 r.ty,.int .u64 r.n,.string S,.string R] 88 (0,0)):=(HBD2.out.block _ (z8 HR5.out)).trans HR5.out;have hne:Nonempty {w':World // w'.heap[rb]?=some (.cells #[.int .i64 r.num,.int .i64 r.ty,.int .u64 r.n,.string S,.string R] 88 (0,0))}:=⟨⟨_,hrD⟩⟩
      have hx1:=ze HX6.out 2 (.int .i64 2);have hrD1:(D2.setCell ⟨bx,2,none⟩ (.int .i64 2)).heap[rb]?=some (.cells #[.int .i64 r.num,.int .i64 r.ty,.int .u64 r.n,.string S,.string R] 88 (0,0)):=((Upd.set D2 ⟨bx,2,none⟩ (.int .i64 2)).block _ (z8 hrD) (fun h=>by have h:rb=bx:=h;have:=HRX.out;omega)).trans hrD;have hrD2:((D2.setCell ⟨bx,2,none⟩ (.int .i64 2)).setCell ⟨bx,3,none⟩ (.int .u64 r.n)).heap[rb]?=some (.cells #[.int .i64 r.num,.int .i64 r.ty,.int .u64 r.n,.string S,.string R] 88 (0,0)):=((Upd.set _ ⟨bx,3,none⟩ (.int .u64 r.n)).block _ (z8 hrD1) (fun h=>by have h:rb=bx:=h;have:=HRX.out;omega)).trans hrD1;go_wp2_with fail;have hfx1:=z7 HX6.out 2;have hcx1:=rc2 HX6.out;have hfx2:(D2.setCell ⟨bx,2,none⟩ (.int .i64 2)).frozen? ⟨bx,3,none⟩=false:=z7 hx1 3;have hcx2:(D2.setCell ⟨bx,2,none⟩ (.int .i64 2)).cell? ⟨bx,3,none⟩=some (.int .u64 vn):=za hx1 (j:=3) rfl;refine zj (S:=fun w'=>w'.heap[rb]?=some (.cells #[.int .i64 r.num,.int .i64 r.ty,.int .u64 r.n,.string S,.string R] 88 (0,0))) [(0,true),(1,true),(2,true),(3,false),(4,true),(5,false)] (by kernel_rfl) (by kernel_rfl) (by kernel_rfl) (by kernel_rfl) (by rw[hD2];exact hrD) ?_;rw[hD2];clear hD2
      iterate 1 (refine zf _ rfl (fun KC hK=>?_);go_simp;(first|refine hK _ ?_|refine⟨_,fun _ _=>rfl,hK _ ?_⟩);clear hK KC)
      refine zf _ rfl (fun KC hK=>?_);go_simp;refine⟨.int .u64 r.n,fun a ha=>by rw[za ha (j:=2) rfl];rfl,hK _ ?_⟩;clear hK KC
      iterate 1 (refine zf _ rfl (fun KC hK=>?_);go_simp;(first|refine hK _ ?_|refine⟨_,fun _ _=>rfl,hK _ ?_⟩);clear hK KC)
      refine zo _ rfl (fun KC hK=>?_);go_simp;refine hK.out _ _ hrD1 ?_;clear hK KC
      iterate 1 (refine zf _ rfl (fun KC hK=>?_);go_simp;(first|refine hK _ ?_|refine⟨_,fun _ _=>rfl,hK _ ?_⟩);clear hK KC)
      refine zo _ rfl (fun KC hK=>?_);go_simp;refine hK.out _ _ hrD2 ?_;clear hK KC;refine zw ?_;have hu:=(Upd.set D2 ⟨bx,2,none⟩ (.int .i64 2)).trans (Upd.set _ ⟨bx,3,none⟩ (.int .u64 r.n));have HL6:Hid (CLB kcel 55 (bx+1) v l ((D2.setCell ⟨bx,2,none⟩ (.int .i64 2)).setCell ⟨bx,3,none⟩ (.int .u64 r.n))):=hid ((HL5.out.upd (Upd.of_new (S:=fun _=>False) HBD2.out) (fun _ _ _ h=>h)).upd hu (fun k hk _ h=>by have h:k=bx:=h;omega));have HBR6:Hid (Below bx w1 ((D2.setCell ⟨bx,2,none⟩ (.int .i64 2)).setCell ⟨bx,3,none⟩ (.int .u64 r.n))):=hid ((HBR5.out.trans (HBD2.out.mono (by omega))).trans (hu.below (by have:=HBD2.out.size;omega) (fun k _ h=>by have h:k=bx:=h;omega)));have hrow:=ze hx1 3 (.int .u64 r.n);have HST6:=hid hrow;clear hu hrow hne hrD hrD1 hrD2 hx1 hfx1 hcx1 hfx2 hcx2;go_wp2_with fail;have hj:=HJ.out
      go_roundg (gk-1)
      case measure=>omega
      case rel =>
       exact⟨j+1,v,U,l,vt,2,r.n,A,B,by simp,by omega,HBR6.out,HST6.out,HL6.out,by omega,.inl ⟨rfl,hid ⟨by rw[HMY.out,HSE.out]<;>rfl,HMU.out⟩⟩⟩
     have d2:((r.num:Int) == 2)=false:=ibf (by omega)
     have d3:((r.num:Int) == 3)=false:=ibf (by omega)
     have d4:((r.num:Int) == 4)=false:=ibf (by omega)
     have d5:((r.num:Int) == 5)=false:=ibf (by omega)
     have d6:((r.num:Int) == 6)=false:=ibf (by omega)
     have d7:((r.num:Int) == 7)=true:=by rw[beq_iff_eq];omega
     have hty:r.num=7/\r.ty=2:=by omega
     have HSE:=hid (exF_7 hty d vt vk vn (A.data.toList) (B.data.toList) l);clear hty hnum hn2 hn3 hn4 hn5 hn6;have q1:IntKind.i64.wrap (d-1)=d-1:=IntWalk.i64_in _ (by have:=HDD.out;have:=HD0.out;omega);have HCV:=hid ((Qq 1000001 S (d-1) w5 (by have:=HSZ.out;have:=HSUM.out;have:=HSS.out;omega) (by have:=HSZ.out;have:=HSUM.out;have:=HSS.out;omega) (by have:=HDD.out;have:=HD0.out;omega)).2);go_wp2_with fail;refine HCV.out.mono ?_;intro e w6 hpost;obtain⟨hb6,hcase⟩:=hpost;obtain⟨gb,x,cs,rfl,hrel,hok,hno⟩:=kres hcase;rw[HSD.out]at hok hno;have HB6:=hid hb6;have HOK:=hid hok;have HNO:=hid hno;have HREL:=hid hrel;obtain⟨K0,h0,k,S1,b0,n,l1,ln,lc,mo,mn,mc,I0,U0,U1,hcs⟩:=hrel.form;have HCS:=hid hcs;rw[hcs];clear hcs hrel hok hno hb6 hr0 hr2 hr3;obtain⟨css,Q,h1,h2,h3,h4⟩:=HL5.out;obtain⟨ao,cap,rfl⟩:=zh h1;have HO5:=hid h1;have H2:=hid h2;have H3:=hid h3;have H4:=hid h4;clear h1 h2 h3 h4;have HO6:=hid (y6 HO5.out HB6.out);have HX6:=hid ((HB6.out.block _ (z8 HX5.out)).trans HX5.out);have hxlt:=z8 HX6.out;have hx4:(w6.alloc (.cells #[.string K0,.bool h0,.int .i64 k,.string S1,.bool b0,.int .u64 n,.slice l1 ln lc,.slice mo mn mc,.string I0,.string U0,.string U1] 55)).cell? ⟨bx,0,none⟩=some (.slice ao l.length cap):=za ((Below.heap_alloc _ _ _ hxlt).trans HX6.out) (j:=0) rfl;have hN7:bx+1<=(w6.alloc (.cells #[.string K0,.bool h0,.int .i64 k,.string S1,.bool b0,.int .u64 n,.slice l1 ln lc,.slice mo mn mc,.string I0,.string U0,.string U1] 55)).heap.size:=by simp;omega
     have hxm:l.length<=1000000:=by omega
     have hnb:¬(Value.slice ao l.length cap).ownBlock=some bx:=fun h=>by have:=(HO6.out.lt _ h).1;omega
     have HX8:Hid ((w6.alloc (.cells #[.string K0,.bool h0,.int .i64 k,.string S1,.bool b0,.int .u64 n,.slice l1 ln lc,.slice mo mn mc,.string I0,.string U0,.string U1] 55)).heap[bx]?=some (.cells #[.slice ao l.length cap,.int .u64 vt,.int .i64 vk,.int .u64 vn,.string A,.string B,.string U] 96 (0,0))):=hid ((Below.heap_alloc _ _ _ hxlt).trans HX6.out);go_wp2_with (at_builtin;(refine xw (c:=1) (cs:=[.string K0,.bool h0,.int .i64 k,.string S1,.bool b0,.int .u64 n,.slice l1 ln lc,.slice mo mn mc,.string I0,.string U0,.string U1]) rfl _ _ 23 rfl Tryz.elKL (by decide) (HO6.out.alloc _) rfl (by show Value.slice (some ⟨w6.heap.size+1,0,none⟩) 1 1=_;simp) rfl (by simp[Value.oneCell']) (by unfold maxLen;omega) (by omega) hN7 ?_);intro g2 cap2 w9 hown9 hgrow9 hg9;have HX9:=hid ((hgrow9.block _ (z8 HX8.out) (fun e=>hnb e.symm)).trans HX8.out);have hf9:=z7 HX9.out 0;have hc9:=rc0 HX9.out);have hgu:Upd (fun k=>(Value.slice ao l.length cap).ownBlock=some k) (w6.alloc (.cells #[.string K0,.bool h0,.int .i64 k,.string S1,.bool b0,.int .u64 n,.slice l1 ln lc,.slice mo mn mc,.string I0,.string U0,.string U1] 55)) w9:=Upd.of_grown hgrow9;have hu6:Upd (fun k=>(Value.slice ao l.length cap).ownBlock=some k) w6 w9:=(Upd.alloc _ _ _).trans hgu;have HL9:Hid (CLB kcel 55 (bx+1) (.slice (some ⟨g2,0,none⟩) (l.length+1) cap2) (l++[x]) w9):=hid (CLB.add HO5.out H2.out H3.out H4.out (by omega) HB6.out HREL.out hu6 (by rw[HCS.out];exact hown9) (hg9.imp id (fun h=>Nat.le_trans (Upd.alloc (fun _=>False) w6 _).size h)));have hu:=Upd.set w9 ⟨bx,0,none⟩ (.slice (some ⟨g2,0,none⟩) (l.length+1) cap2);have HL10:=hid (HL9.out.upd hu (fun k hk _ h=>by have h:k=bx:=h;omega));have HBR9:Hid (Below bx w1 (w9.setCell ⟨bx,0,none⟩ (.slice (some ⟨g2,0,none⟩) (l.length+1) cap2))):=hid (((HBR5.out.trans (HB6.out.mono (by omega))).trans (hu6.below (by omega) (fun k _ h=>by have:=(HO6.out.lt k h).1;omega))).trans (hu.below (by have:=hu6.size;omega) (fun k _ h=>by have h:k=bx:=h;omega)));have hj:=HJ.out
     go_roundg (gk-1)
     case measure=>omega
     case rel =>
      refine⟨j+1,.slice (some ⟨g2,0,none⟩) (l.length+1) cap2,U,l++[x],vt,vk,vn,A,B,by simp,by omega,HBR9.out,ze HX9.out 0 _,HL10.out,by simp;omega,?_⟩
      cases gb with
      | true=>exact .inl ⟨rfl,hid ⟨by rw[HMY.out,HSE.out,HOK.out rfl]<;>rfl,HMU.out⟩⟩
      | false =>
       obtain⟨c,hc⟩:=HNO.out rfl;exact .inr ⟨rfl,c,k8 (j:=j+1) (by rw[HMY.out,HSE.out,hc]<;>rfl)⟩
end Go.Proofs.YtmlghmjjlpioeaaGreatDoor
