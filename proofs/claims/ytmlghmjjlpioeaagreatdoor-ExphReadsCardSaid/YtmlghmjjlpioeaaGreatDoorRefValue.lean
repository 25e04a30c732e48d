/-
 hygref8.ReadValue and ReadKey of any text at any depth.
-/
import Derived.Test.YtmlghmjjlpioeaaGreatDoorRefList
set_option maxRecDepth 1000000
set_option maxHeartbeats 16000000
namespace Go.Proofs.YtmlghmjjlpioeaaGreatDoor
open Go.RowKit
open Lib (hid)
def ostr (o:One):List UInt8:=if o.r.num=1∨o.r.num=7 then o.r.s else []
def Ju (o:One):Bool:=decide (o.r.num=2)&&!decide (o.r.n=0)
def onum (o:One):Nat:=if o.r.num=3∨o.r.num=4 then o.r.n else 0
def z11 (o:One):List UInt8:=if o.r.num=5∨o.r.num=6 then o.ps.flatten else []
theorem z78 {vr:List UInt8->Int->Except Nat Val}{kr:List UInt8->Int->Except Nat KV}{o:One}{d:Int}{u:List UInt8}(h5:o.r.num≠5)(h6:o.r.num≠6):zz vr kr o d u=.ok (.mk o.r.num (ostr o) (Ju o) (onum o) [] [] [] u):=by
 unfold zz ostr Ju onum
 by_cases h1:o.r.num=1∨o.r.num=7
 ·have:o.r.num≠2/\o.r.num≠3/\o.r.num≠4:=by omega
  simp[h1,this]
 ·rw[if_neg h1,if_neg h1]
  by_cases h2:o.r.num=2
  ·simp[h2]
  ·rw[if_neg h2]
   by_cases h3:o.r.num=3∨o.r.num=4
   ·simp[h2,h3]
   ·simp[h2,h3,h5,h6]
theorem zg0 {f:Nat}{o:One}{d:Int}{u:List UInt8}(h:o.r.num=5):zz (zn f) (zm f) o d u=z5n u (yf (zn f) o.ps.flatten d):=by
 unfold zz
 simp only[h]
 simp only[show ¬((5:Nat)=1∨(5:Nat)=7)by omega,show ¬((5:Nat)=2)by omega,show ¬((5:Nat)=3∨(5:Nat)=4)by omega,if_false,if_true]
 cases yf (zn f) o.ps.flatten d with
 | error c=>rfl
 | ok y=>obtain⟨xs,i⟩:=y;rfl
theorem zek {f:Nat}{o:One}{d:Int}{u:List UInt8}(h:o.r.num=6):zz (zn f) (zm f) o d u=z5m u (yf (zm f) o.ps.flatten d):=by
 unfold zz
 simp only[h]
 simp only[show ¬((6:Nat)=1∨(6:Nat)=7)by omega,show ¬((6:Nat)=2)by omega,show ¬((6:Nat)=3∨(6:Nat)=4)by omega,show ¬((6:Nat)=5)by omega,if_false,if_true]
 cases yf (zm f) o.ps.flatten d with
 | error c=>rfl
 | ok y=>obtain⟨xs,i⟩:=y;rfl
theorem z0s (f:Nat)(l:List UInt8)(d:Int):zn (f+1) l d=match y8 l d with
  | .error c => .error c
  | .ok rs=>match zg vtk yw one0 rs with
   | .error c => .error c
   | .ok o=>zz (zn f) (zm f) o (d-1) (munk vtk rs):=by
 rw[zn];unfold zq y8
 by_cases h:d<0
 ·rw[if_pos h,if_pos h]
 ·rw[if_neg h,if_neg h]
  cases wall l d with
  | error c=>rfl
  | ok rs =>
   dsimp only
   cases zg vtk yw one0 rs<;>rfl
theorem zee (w:World)(P:Nat->Prop)(k:Int)(s:List UInt8)(b:Bool)(n:Nat)(u:List UInt8):VRel w P (.mk k s b n [] [] [] u) [.int .i64 k,strV s,.bool b,.int .u64 n,.slice none 0 0,.slice none 0 0,strV [],strV u]:=by
 rw[VRel];exact⟨none,0,none,0,rfl,by rw[yv];trivial,by rw[y7];trivial⟩
theorem zca {X:ByteArray}(h:X.data.toList=[]):X=⟨#[]⟩:=ByteArray.ext (by simpa using h)
theorem qn (o:One)(r:Rec):ostr (oput o r)=if r.num=1∨r.num=7 then r.s else []:=rfl
theorem xz (o:One)(r:Rec):Ju (oput o r)=(decide (r.num=2)&&!decide (r.n=0)):=rfl
theorem qo (o:One)(r:Rec):onum (oput o r)=if r.num=3∨r.num=4 then r.n else 0:=rfl
theorem xy (o:One)(r:Rec):z11 (oput o r)=if r.num=5∨r.num=6 then(if r.num=o.r.num then o.ps++[r.s]else [r.s]).flatten else []:=rfl
theorem vres2 {rd:Except Nat Val} {e:Ending} {w w':World} (h:match rd with
  | .error _=>e=.returned (.tuple #[.agg Z0,.bool false])
  | .ok x=>∃cs,e=.returned (.tuple #[.agg cs.toArray,.bool true])/\VRel w' (fun k=>w.heap.size<=k) x cs):∃(gb:Bool) (x:Val) (cs:List Value),e=.returned (.tuple #[.agg cs.toArray,.bool gb])/\VRel w' (fun k=>w.heap.size<=k) x cs/\(gb=true->rd=.ok x)/\(gb=false->(∃c,rd=.error c)/\cs.toArray=Z0):=by
 cases rd with
 | error c=>exact⟨false,.mk 0 [] false 0 [] [] [] [],Z0.toList,h,ql _ _ _ _ _ _,(fun h=>by cases h),fun _=>⟨⟨c,rfl⟩,rfl⟩⟩
 | ok x =>
  obtain⟨cs,h1,h2⟩:=h;exact⟨true,x,cs,h1,h2,fun _=>rfl,(fun h=>by cases h)⟩
theorem z84 (f:Nat) (X:ByteArray) (d:Int) (w:World) (hX:X.size<=1000000) (hd : -9223372036854775808<=d/\d<=9223372036854775807)
  (hrv:Hid (∀(Y:ByteArray) (d':Int) w',Y.size<X.size -> -9223372036854775808<=d'/\d'<=9223372036854775807->Calls Tryz.prog 70 #[.string Y,.int .i64 d'] w' (Qo (zn f Y.data.toList d') w')))
  (hrk:Hid (∀(Y:ByteArray) (d':Int) w',Y.size<X.size -> -9223372036854775808<=d'/\d'<=9223372036854775807->Calls Tryz.prog 25 #[.string Y,.int .i64 d'] w' (z3a (zm f Y.data.toList d') w'))) :
  Calls Tryz.prog 70 #[.string X,.int .i64 d] w (Qo (zn (f+1) X.data.toList d) w):=by
 obtain⟨RES,HRES⟩:∃RES,Hid (zn (f+1) X.data.toList d=RES):=⟨_,hid rfl⟩
 rw[HRES.out];obtain⟨g,hg⟩:=nmd (w.heap.size)
 obtain⟨W0,hW0⟩:=nmd (w.alloc (.cells #[.int .i64 0,.string ⟨#[]⟩,.bool false,.int .u64 0,.slice none 0 0,.slice none 0 0,.string ⟨#[]⟩,.string ⟨#[]⟩] 53))
 have HB0:Hid (Below w.heap.size w W0):=hid (by rw[<-hW0];exact zd _ _);have HR0:Hid (W0.heap[g]?=some (.cells #[.int .i64 0,.string ⟨#[]⟩,.bool false,.int .u64 0,.slice none 0 0,.slice none 0 0,.string ⟨#[]⟩,.string ⟨#[]⟩] 53 (0,0))):=hid (by rw[<-hW0,<-hg];exact heap_alloc_new w _);have HF:=hid (kx X d W0 (by omega) hd.2);have HW0:=hid hW0;have HGG:=hid hg;have HSS:=hid hX;have HDD:=hid hd;clear hW0 hX hd hg
 cases hw:y8 X.data.toList d with
 | error c =>
  have HBR:Hid (RES=.error c):=hid (by rw[<-HRES.out,z0s,hw]);have HW:=hid hw;clear hw;go_enter Tryz.func70,Tryz.ntmps70;go_wp2_with fail;rw[HGG.out,HW0.out];refine HF.out.mono ?_;intro e w1 hpost;unfold xe at hpost
  rw[HW.out]at hpost;obtain⟨hb1,rfl⟩:=hpost;have HB1:=hid (zb HB0.out hb1);have HG1:=hid ((hb1.block _ (z8 HR0.out)).trans HR0.out);clear hb1;have hg0:=rc0 HG1.out;have fg0:=z7 HG1.out 0;have hg1:=rc1 HG1.out;have fg1:=z7 HG1.out 1;have hg2:=rc2 HG1.out;have fg2:=z7 HG1.out 2;have hg3:=rc3 HG1.out;have fg3:=z7 HG1.out 3;have hg4:=rc4 HG1.out;have fg4:=z7 HG1.out 4;have hg5:=rc5 HG1.out;have fg5:=z7 HG1.out 5;have hg6:=rc6 HG1.out;have fg6:=z7 HG1.out 6;have hg7:=rc7 HG1.out;have fg7:=z7 HG1.out 7;go_wp2_with fail;have hua:=y5 w1 g (.int .i64 0) (.string ⟨#[]⟩) (.bool false) (.int .u64 0) (.slice none 0 0) (.slice none 0 0) (.string ⟨#[]⟩) (.string ⟨#[]⟩);refine zi rfl rfl (ye (y4 HG1.out _ _ _ _ _ _ _ _) rfl) rfl ?_;refine⟨HB1.out.trans (hua.below (by have:=HB1.out.size;omega) (fun k _ h=>by have h:k=g:=h;have:=HGG.out;omega)),?_⟩;rw[HBR.out];exact rfl
 | ok rs =>
  have HBR:Hid (RES=match zg vtk yw one0 rs with | .error c => .error c | .ok o=>zz (zn f) (zm f) o (d-1) (munk vtk rs)):=hid (by rw[<-HRES.out,z0s,hw]);have HD0:Hid (0<=d):=hid (by unfold y8 at hw;split at hw;cases hw;omega);have HWA:Hid (wall X.data.toList d=.ok rs):=hid (by unfold y8 at hw;split at hw;cases hw;exact hw);have HLL:Hid (rs.length<=X.size):=hid (by have:=kd HWA.out;simpa using this);have HRAW:Hid (rs.flatMap Rec.raw=X.data.toList):=hid (xh _ (Nat.le_refl _) HWA.out).1;have HREC:Hid (∀r∈rs,zt d r):=hid (xp _ (Nat.le_refl _) HWA.out);have HW:=hid hw;clear hw;go_enter Tryz.func70,Tryz.ntmps70;go_wp2_with fail;rw[HGG.out,HW0.out];refine HF.out.mono ?_;intro e w1 hpost;unfold xe at hpost
  rw[HW.out]at hpost;obtain⟨hb1,u,rfl,hown⟩:=hpost;obtain⟨lo,lcap,rfl⟩:=zh hown;have HB1:=hid (zb HB0.out hb1);have HO1:=hid hown;have HR1:=hid ((hb1.block _ (z8 HR0.out)).trans HR0.out);clear hb1 hown;go_wp2_with fail;obtain⟨bx,hbx⟩:=nmd (w1.heap.size)
  obtain⟨W2,hW2⟩:=nmd (w1.alloc (.cells #[.int .i64 0,.string ⟨#[]⟩,.bool false,.int .u64 0,.slice none 0 0,.slice none 0 0,.string ⟨#[]⟩,.string ⟨#[]⟩] 53))
  have HB2:Hid (Below bx w1 W2):=hid (by rw[<-hW2,<-hbx];exact zd _ _);have HX2:Hid (W2.heap[bx]?=some (.cells #[.int .i64 0,.string ⟨#[]⟩,.bool false,.int .u64 0,.slice none 0 0,.slice none 0 0,.string ⟨#[]⟩,.string ⟨#[]⟩] 53 (0,0))):=hid (by rw[<-hW2,<-hbx];exact heap_alloc_new w1 _);rw[hW2,hbx];have HBX:=hid hbx;clear hW2 hbx
  go_loopg [9,10] rs.length (fun k pv i wr=>∃(j kk nn:Nat) (SB Pt U:ByteArray) (bb:Bool),i=.int .i64 j/\j+k=rs.length/\pv=.string Pt/\Below bx w1 wr/\wr.heap[bx]?=some (.cells #[.int .i64 kk,.string SB,.bool bb,.int .u64 nn,.slice none 0 0,.slice none 0 0,.string ⟨#[]⟩,.string U] 53 (0,0))/\Hid (U.size+Pt.size<=((rs.take j).flatMap Rec.raw).length)/\Hid (∃o,zg vtk yw one0 (rs.take j)=.ok o/\kk=o.r.num/\kk<=7/\SB.data.toList=ostr o/\bb=Ju o/\nn=onum o/\Pt.data.toList=z11 o/\U.data.toList=munk vtk (rs.take j)))
  case atStart=>exact⟨0,0,0,⟨#[]⟩,⟨#[]⟩,⟨#[]⟩,false,rfl,by omega,rfl,HB2.out,HX2.out,hid (by simp[ByteArray.size]),hid ⟨one0,rfl,rfl,by omega,rfl,rfl,rfl,rfl,rfl⟩⟩
  case round =>
   obtain⟨j,kk,nn,SB,Pt,U,bb,rfl,hj,rfl,hbr,hx,HSZ,HST⟩:=hrel;have HBR1:=hid hbr;have HX1:=hid hx;have HJ:=hid hj;have hjl:j<=1000000:=by have:=HLL.out;have:=HSS.out;omega
   have HG1:=hid ((hbr.block _ (by have:=z8 HR1.out;rw[HBX.out]at this;exact this)).trans HR1.out);have HWB:Hid (Below w.heap.size w wr):=hid (HB1.out.trans (hbr.mono (by have:=HB1.out.size;rw[HBX.out]at this;exact this)));have HGX:Hid (g≠bx):=hid (by have:=z8 HR1.out;have:=HBX.out;omega);clear hbr hx hj
   by_cases hlt:j<rs.length
   ·have HO:=hid (y6 HO1.out (by rw[HBX.out];exact HBR1.out))
    obtain⟨gr,cg,hv,hg1,hg2,_,_⟩:=yj HO.out (by omega)
    simp only[Value.slice.injEq]at hv
    obtain⟨rfl,_,rfl⟩:=hv;obtain⟨r,HRJ⟩:∃r,Hid (rs[j]=r):=⟨_,hid rfl⟩
    have HRA:Hid (xg wr gr (j*5) r):=hid (by rw[<-HRJ.out];exact z45 HO.out hlt);obtain⟨hr0,hr1,hr2,hr3,hr4⟩:=HRA.out;have HTK:Hid (rs.take (j+1)=rs.take j++[r]):=hid (by rw[List.take_succ_eq_append_getElem hlt,HRJ.out]);have HRR:Hid (zt d r):=hid (HREC.out r (HRJ.out ▸ List.getElem_mem hlt))
    have HSUM:Hid (U.size+Pt.size+r.raw.length<=((rs.take (j+1)).flatMap Rec.raw).length/\((rs.take (j+1)).flatMap Rec.raw).length<=X.size/\r.s.length+1<=r.raw.length):=hid (by
     have h1:=jr HRAW.out (j+1);have h2:=HSZ.out;have h5:X.data.toList.length=X.size:=by simp
     have h6:=q5 HRR.out;rw[HTK.out,List.flatMap_append,List.length_append]at h1 ⊢;have h4:([r].flatMap Rec.raw).length=r.raw.length:=by simp
     omega)
    clear hg1;go_wp2_with fail;obtain⟨rb,hrb⟩:=nmd (wr.heap.size)
    obtain⟨W3,hW3⟩:=nmd (wr.alloc (.cells #[.int .i64 r.num,.int .i64 r.ty,.int .u64 r.n,.string ⟨r.s.toArray⟩,.string ⟨r.raw.toArray⟩] 88))
    have HB3:Hid (Below wr.heap.size wr W3):=hid (by rw[<-hW3];exact zd _ _);have HR3:Hid (W3.heap[rb]?=some (.cells #[.int .i64 r.num,.int .i64 r.ty,.int .u64 r.n,.string ⟨r.s.toArray⟩,.string ⟨r.raw.toArray⟩] 88 (0,0))):=hid (by rw[<-hW3,<-hrb];exact heap_alloc_new wr _);rw[hW3,hrb];clear hW3;obtain⟨D,hD⟩:=nmd (W3.drew)
    have HBD:Hid (Below wr.heap.size wr D):=hid (by rw[<-hD];exact HB3.out.drew);have HRD:Hid (D.heap[rb]?=some (.cells #[.int .i64 r.num,.int .i64 r.ty,.int .u64 r.n,.string ⟨r.s.toArray⟩,.string ⟨r.raw.toArray⟩] 88 (0,0))):=hid (by rw[<-hD];exact HR3.out);have hne:Nonempty {w':World // w'.heap[rb]?=some (.cells #[.int .i64 r.num,.int .i64 r.ty,.int .u64 r.n,.string ⟨r.s.toArray⟩,.string ⟨r.raw.toArray⟩] 88 (0,0))}:=⟨⟨_,HRD.out⟩⟩
    refine zj (S:=fun w'=>w'.heap[rb]?=some (.cells #[.int .i64 r.num,.int .i64 r.ty,.int .u64 r.n,.string ⟨r.s.toArray⟩,.string ⟨r.raw.toArray⟩] 88 (0,0))) [(1,true),(0,false),(2,false),(3,true)] (by kernel_rfl) (by kernel_rfl) (by kernel_rfl) (by kernel_rfl) (by rw[hD];exact HRD.out) ?_;rw[hD];clear hD hr0 hr1 hr2 hr3 hr4;refine zf _ rfl (fun K2 hK=>?_);go_simp;refine⟨.agg #[.int .i64 r.num,.int .i64 r.ty,.int .u64 r.n,.string ⟨r.s.toArray⟩,.string ⟨r.raw.toArray⟩],fun a ha=>by(have e0:=rc0 ha);(have e1:=rc1 ha);(have e2:=rc2 ha);(have e3:a.cell? ⟨rb,3,none⟩=some (.string ⟨r.s.toArray⟩):=za ha (j:=3) rfl);(have e4:a.cell? ⟨rb,4,none⟩=some (.string ⟨r.raw.toArray⟩):=za ha (j:=4) rfl);simp only[e0,e1,e2,e3,e4,Result.andThen],hK _ ?_⟩;clear hK K2;refine zo _ rfl (fun K2 hK=>?_);go_simp;refine(zg7 D).mono ?_;rintro e w4 ⟨to,rfl,HNT,hb4⟩;have HB4:=hid (zb HBD.out hb4);have HR4:=hid ((hb4.block _ (z8 HRD.out)).trans HRD.out);go_simp;refine hK.out _ _ HR4.out ?_;clear hK K2 hb4;refine zo _ rfl (fun K2 hK=>?_);go_simp;refine(kz [10,16,24,33,42,50,58] to 7 r w4 HNT (by decide) (by decide)).mono ?_;rintro e w5 ⟨rfl,hb5⟩;rw[<-vtk_rtk];have HB5:=hid (zb HB4.out hb5);have HR5:=hid ((hb5.block _ (z8 HR4.out)).trans HR4.out);go_simp;refine hK.out _ _ HR5.out ?_;clear hK K2 hb5
    iterate 1 (refine zf _ rfl (fun K2 hK=>?_);go_simp;(first|refine hK _ ?_|refine⟨_,fun _ _=>rfl,hK _ ?_⟩);clear hK K2)
    refine zw ?_;have HX5:=hid ((HB5.out.block _ (z8 HX1.out)).trans HX1.out);have HG5:=hid ((HB5.out.block _ (z8 HG1.out)).trans HG1.out);have HBR5:Hid (Below bx w1 w5):=hid (HBR1.out.trans (HB5.out.mono (by have:=z8 HX1.out;omega)));have HWB5:Hid (Below w.heap.size w w5):=hid (zb HWB.out HB5.out);have hxb:=z8 HX5.out;have HNE:Hid (rb≠bx):=hid (by have:=z8 HX1.out;omega);obtain⟨S,hS⟩:∃S:ByteArray,(⟨r.s.toArray⟩:ByteArray)=S:=⟨_,rfl⟩
    obtain⟨R,hR⟩:∃S:ByteArray,(⟨r.raw.toArray⟩:ByteArray)=S:=⟨_,rfl⟩
    have HSD:Hid (S.data.toList=r.s):=hid (by rw[<-hS]);have HRD2:Hid (R.data.toList=r.raw):=hid (by rw[<-hR]);obtain⟨nm,hnm⟩:∃nm:Int,(r.num:Int)=nm:=⟨_,rfl⟩
    obtain⟨rn,hrn⟩:∃rn:Nat,r.n=rn:=⟨_,rfl⟩
    have HNM:=hid hnm;have HRN:=hid hrn;rw[hS,hR,hnm,hrn]at HR5 ⊢;clear hS hR hne hnm hrn;have HSZ1:Hid (S.size=r.s.length):=hid (by rw[<-HSD.out];simp);have HRZ:Hid (R.size=r.raw.length):=hid (by rw[<-HRD2.out];simp);obtain⟨o,g1,g2,g3,g4,g5,g6,g7,g8⟩:=HST.out;have HM:=hid g1;have HK:=hid g2;have HK7:=hid g3;have HPT:=hid g7;have HMU0:=hid g8
    cases htk:vtk r with
    | false =>
     have HTN:=hid htk;have HO8:=hid (⟨g4,g5,g6⟩:SB.data.toList=ostr o/\bb=Ju o/\nn=onum o);clear htk g1 g2 g3 g4 g5 g6 g7 g8;have hsz:¬9223372036854775807<U.size+R.size:=by have:=HRZ.out;have:=HSUM.out;have:=HSS.out;omega
     have hx7:=rc7 HX5.out;have hxf:=z7 HX5.out 7;have hr4:=rc4 HR5.out;go_wp2_with fail;have hj:=HJ.out;have hu:=Upd.set w5 ⟨bx,7,none⟩ (.string (U++R))
     go_roundg (gk-1)
     case measure=>omega
     case rel =>
      exact⟨j+1,kk,nn,SB,Pt,U++R,bb,by simp,by omega,rfl,HBR5.out.trans (hu.below (by omega) (fun k _ h=>by have h:k=bx:=h;omega)),ze HX5.out 7 _,hid (by rw[ByteArray.size_append];have:=HRZ.out;have:=HSUM.out;omega),hid ⟨o,by rw[HTK.out];exact Y8 HM.out HTN.out,HK.out,HK7.out,HO8.out.1,HO8.out.2.1,HO8.out.2.2,HPT.out,by rw[HTK.out,Yx HTN.out,ByteArray.data_append,Array.toList_append,HMU0.out,HRD2.out]⟩⟩
    | true =>
     have HTN:=hid htk;have HMU:Hid (munk vtk (rs.take (j+1))=munk vtk (rs.take j)):=hid (by rw[HTK.out,Ya HTN.out]);have HMY:Hid (zg vtk yw one0 (rs.take (j+1))=yw o r):=hid (by rw[HTK.out];exact kq HM.out HTN.out);clear g1 g2 g3 g4 g5 g6 g7 g8
     have hcase:r.num=1∨r.num=2∨r.num=3∨r.num=4∨r.num=5∨r.num=6∨r.num=7:=by
      unfold vtk at htk
      simp only[decide_eq_true_iff]at htk
      omega
     have hr0:=rc0 HR5.out;have hx0:=rc0 HX5.out;have fx0:=z7 HX5.out 0;have hx1:=rc1 HX5.out;have fx1:=z7 HX5.out 1;have hx2:=rc2 HX5.out;have fx2:=z7 HX5.out 2;have hx3:=rc3 HX5.out;have fx3:=z7 HX5.out 3;have hx4:=rc4 HX5.out;have fx4:=z7 HX5.out 4;have hx5:=rc5 HX5.out;have fx5:=z7 HX5.out 5;have hx6:=rc6 HX5.out;have fx6:=z7 HX5.out 6;have hx7:=rc7 HX5.out;have fx7:=z7 HX5.out 7;clear htk
     rcases hcase with hn|hn|hn|hn|hn|hn|hn
     ·obtain rfl:nm=1:=by rw[<-HNM.out,hn];rfl
      have HN:=hid hn;clear hn
      cases hd1:((1:Int) != (kk:Int))with
      | true =>
       have HD1:=hid hd1;go_upto_region 15 with fail
       have hrow:=y4 HX5.out (.int .i64 1) (.string ⟨#[]⟩) (.bool false) (.int .u64 0) (.slice none 0 0) (.slice none 0 0) (.string ⟨#[]⟩) (.string U);have hupd:=y5 w5 bx (.int .i64 1) (.string ⟨#[]⟩) (.bool false) (.int .u64 0) (.slice none 0 0) (.slice none 0 0) (.string ⟨#[]⟩) (.string U);obtain⟨W6,hW6⟩:∃W,((((((((w5).setCell ⟨bx,0,none⟩ (.int .i64 1)).setCell ⟨bx,1,none⟩ (.string ⟨#[]⟩)).setCell ⟨bx,2,none⟩ (.bool false)).setCell ⟨bx,3,none⟩ (.int .u64 0)).setCell ⟨bx,4,none⟩ (.slice none 0 0)).setCell ⟨bx,5,none⟩ (.slice none 0 0)).setCell ⟨bx,6,none⟩ (.string ⟨#[]⟩)).setCell ⟨bx,7,none⟩ (.string U)=W:=⟨_,rfl⟩
       rw[hW6]at hrow hupd ⊢;clear hW6 hx0 fx0 hx1 fx1 hx2 fx2 hx3 fx3 hx4 fx4 hx5 fx5 hx6 fx6 hx7 fx7 hr0;have hne2:rb≠bx:=HNE.out;have HR6:=hid ((hupd.block rb (z8 HR5.out) (fun e=>hne2 e)).trans HR5.out);have HBR6:Hid (Below bx w1 W6):=hid (HBR5.out.trans (hupd.below (by omega) (fun k _ h=>by have h:k=bx:=h;omega)));have HX6:=hid hrow;have hs6:bx<W6.heap.size:=z8 hrow;have HG6:=hid ((hupd.block g (z8 HG5.out) (fun e=>HGX.out e)).trans HG5.out);have HWB6:Hid (Below w.heap.size w W6):=hid (HWB5.out.trans (hupd.below (by have:=HWB5.out.size;omega) (fun k _ h=>by have h:k=bx:=h;have:=HBX.out;have:=HB1.out.size;omega)));clear hupd hrow hd1;have hf6:=z7 HX6.out 1;have hc6:=rc1 HX6.out;have hr0:=rc0 HR6.out;have hr3:=rc3 HR6.out;have hu:=Upd.set W6 ⟨bx,1,none⟩ (.string S);have HBR7:=hid (HBR6.out.trans (hu.below (by omega) (fun k _ h=>by have h:k=bx:=h;omega)));have HX7:=hid (ze HX6.out 1 (.string S));clear hu;have HTX:=hid (fun w'=>z0g S w' (by have:=HSZ1.out;have:=HSUM.out;have:=HSS.out;omega));obtain⟨W7,hW7⟩:∃W,W6.setCell ⟨bx,1,none⟩ (.string S)=W:=⟨_,rfl⟩
       have HW7:=hid hW7;rw[hW7]at HX7 HBR7;have hu7:Upd (fun k=>k=bx) W6 W7:=by rw[<-hW7];exact Upd.set W6 ⟨bx,1,none⟩ (.string S)
       have HG7:=hid ((hu7.block g (z8 HG6.out) (fun e=>HGX.out e)).trans HG6.out);have hr7:W7.cell? ⟨rb,3,none⟩=some (.string S):=za ((hu7.block rb (z8 HR6.out) (fun e=>hne2 e)).trans HR6.out) (j:=3) rfl;have HWB7:Hid (Below w.heap.size w W7):=hid (HWB6.out.trans (hu7.below (by have:=HWB6.out.size;omega) (fun k _ h=>by have h:k=bx:=h;have:=HBX.out;have:=HB1.out.size;omega)));clear hW7 hu7;go_upto_region 18 with fail
       rw[HW7.out];clear hr3 hr0 hf6 hc6;go_wp2_with fail;refine(HTX.out _).mono ?_;rintro e w' ⟨rfl,rfl⟩;rw[HSD.out]
       cases hv:xb r.s with
       | true =>
        have HVV:=hid hv;clear hv hr7;go_wp2_with fail;have hj:=HJ.out
        go_roundg (gk-1)
        case measure=>omega
        case rel=>exact⟨j+1,1,0,S,⟨#[]⟩,U,false,by simp,by omega,rfl,HBR7.out,HX7.out,hid (by have:=HSUM.out;simp only[ByteArray.size,Array.size_empty]at *;omega),hid ⟨oput o r,by rw[HMY.out];exact if_neg (fun h=>by have h:=h.2;rw[HVV.out]at h;cases h),HN.out.symm,by omega,by simp[qn,HN.out,HSD.out],by simp[xz,HN.out],by simp[qo,HN.out],by simp[xy,HN.out],by rw[HMU.out];exact HMU0.out⟩⟩
       | false =>
        have HBE:Hid (RES=.error 5):=hid (by rw[HBR.out,k8 (j:=j+1) (by rw[HMY.out];exact if_pos ⟨HN.out,hv⟩)]);clear hv hr7;have hg0:=rc0 HG7.out;have fg0:=z7 HG7.out 0;have hg1:=rc1 HG7.out;have fg1:=z7 HG7.out 1;have hg2:=rc2 HG7.out;have fg2:=z7 HG7.out 2;have hg3:=rc3 HG7.out;have fg3:=z7 HG7.out 3;have hg4:=rc4 HG7.out;have fg4:=z7 HG7.out 4;have hg5:=rc5 HG7.out;have fg5:=z7 HG7.out 5;have hg6:=rc6 HG7.out;have fg6:=z7 HG7.out 6;have hg7:=rc7 HG7.out;have fg7:=z7 HG7.out 7;go_wp2_with fail;have hua:=y5 W7 g (.int .i64 0) (.string ⟨#[]⟩) (.bool false) (.int .u64 0) (.slice none 0 0) (.slice none 0 0) (.string ⟨#[]⟩) (.string ⟨#[]⟩);refine zi rfl rfl (ye (y4 HG7.out _ _ _ _ _ _ _ _) rfl) rfl ?_;refine⟨HWB7.out.trans (hua.below (by have:=HWB7.out.size;omega) (fun k _ h=>by have h:k=g:=h;have:=HGG.out;omega)),?_⟩;rw[HBE.out];exact rfl
      | false =>
       have HD1:=hid hd1;go_upto_region 15 with fail
       have hrow:=y4 HX5.out (.int .i64 1) (.string ⟨#[]⟩) (.bool false) (.int .u64 0) (.slice none 0 0) (.slice none 0 0) (.string ⟨#[]⟩) (.string U);have hupd:=y5 w5 bx (.int .i64 1) (.string ⟨#[]⟩) (.bool false) (.int .u64 0) (.slice none 0 0) (.slice none 0 0) (.string ⟨#[]⟩) (.string U);obtain⟨W6,hW6⟩:∃W,((((((((w5).setCell ⟨bx,0,none⟩ (.int .i64 1)).setCell ⟨bx,1,none⟩ (.string ⟨#[]⟩)).setCell ⟨bx,2,none⟩ (.bool false)).setCell ⟨bx,3,none⟩ (.int .u64 0)).setCell ⟨bx,4,none⟩ (.slice none 0 0)).setCell ⟨bx,5,none⟩ (.slice none 0 0)).setCell ⟨bx,6,none⟩ (.string ⟨#[]⟩)).setCell ⟨bx,7,none⟩ (.string U)=W:=⟨_,rfl⟩
       rw[hW6]at hrow hupd ⊢;clear hW6 hx0 fx0 hx1 fx1 hx2 fx2 hx3 fx3 hx4 fx4 hx5 fx5 hx6 fx6 hx7 fx7 hr0;have hne2:rb≠bx:=HNE.out;have HR6:=hid ((hupd.block rb (z8 HR5.out) (fun e=>hne2 e)).trans HR5.out);have HBR6:Hid (Below bx w1 W6):=hid (HBR5.out.trans (hupd.below (by omega) (fun k _ h=>by have h:k=bx:=h;omega)));have HX6:=hid hrow;have hs6:bx<W6.heap.size:=z8 hrow;have HG6:=hid ((hupd.block g (z8 HG5.out) (fun e=>HGX.out e)).trans HG5.out);have HWB6:Hid (Below w.heap.size w W6):=hid (HWB5.out.trans (hupd.below (by have:=HWB5.out.size;omega) (fun k _ h=>by have h:k=bx:=h;have:=HBX.out;have:=HB1.out.size;omega)));clear hupd hrow hd1;have hf6:=z7 HX6.out 1;have hc6:=rc1 HX6.out;have hr0:=rc0 HR6.out;have hr3:=rc3 HR6.out;have hu:=Upd.set W6 ⟨bx,1,none⟩ (.string S);have HBR7:=hid (HBR6.out.trans (hu.below (by omega) (fun k _ h=>by have h:k=bx:=h;omega)));have HX7:=hid (ze HX6.out 1 (.string S));clear hu;have HTX:=hid (fun w'=>z0g S w' (by have:=HSZ1.out;have:=HSUM.out;have:=HSS.out;omega));obtain⟨W7,hW7⟩:∃W,W6.setCell ⟨bx,1,none⟩ (.string S)=W:=⟨_,rfl⟩
       have HW7:=hid hW7;rw[hW7]at HX7 HBR7;have hu7:Upd (fun k=>k=bx) W6 W7:=by rw[<-hW7];exact Upd.set W6 ⟨bx,1,none⟩ (.string S)
       have HG7:=hid ((hu7.block g (z8 HG6.out) (fun e=>HGX.out e)).trans HG6.out);have hr7:W7.cell? ⟨rb,3,none⟩=some (.string S):=za ((hu7.block rb (z8 HR6.out) (fun e=>hne2 e)).trans HR6.out) (j:=3) rfl;have HWB7:Hid (Below w.heap.size w W7):=hid (HWB6.out.trans (hu7.below (by have:=HWB6.out.size;omega) (fun k _ h=>by have h:k=bx:=h;have:=HBX.out;have:=HB1.out.size;omega)));clear hW7 hu7;go_upto_region 18 with fail
       rw[HW7.out];clear hr3 hr0 hf6 hc6;go_wp2_with fail;refine(HTX.out _).mono ?_;rintro e w' ⟨rfl,rfl⟩;rw[HSD.out]
       cases hv:xb r.s with
       | true =>
        have HVV:=hid hv;clear hv hr7;go_wp2_with fail;have hj:=HJ.out
        go_roundg (gk-1)
        case measure=>omega
        case rel=>exact⟨j+1,1,0,S,⟨#[]⟩,U,false,by simp,by omega,rfl,HBR7.out,HX7.out,hid (by have:=HSUM.out;simp only[ByteArray.size,Array.size_empty]at *;omega),hid ⟨oput o r,by rw[HMY.out];exact if_neg (fun h=>by have h:=h.2;rw[HVV.out]at h;cases h),HN.out.symm,by omega,by simp[qn,HN.out,HSD.out],by simp[xz,HN.out],by simp[qo,HN.out],by simp[xy,HN.out],by rw[HMU.out];exact HMU0.out⟩⟩
       | false =>
        have HBE:Hid (RES=.error 5):=hid (by rw[HBR.out,k8 (j:=j+1) (by rw[HMY.out];exact if_pos ⟨HN.out,hv⟩)]);clear hv hr7;have hg0:=rc0 HG7.out;have fg0:=z7 HG7.out 0;have hg1:=rc1 HG7.out;have fg1:=z7 HG7.out 1;have hg2:=rc2 HG7.out;have fg2:=z7 HG7.out 2;have hg3:=rc3 HG7.out;have fg3:=z7 HG7.out 3;have hg4:=rc4 HG7.out;have fg4:=z7 HG7.out 4;have hg5:=rc5 HG7.out;have fg5:=z7 HG7.out 5;have hg6:=rc6 HG7.out;have fg6:=z7 HG7.out 6;have hg7:=rc7 HG7.out;have fg7:=z7 HG7.out 7;go_wp2_with fail;have hua:=y5 W7 g (.int .i64 0) (.string ⟨#[]⟩) (.bool false) (.int .u64 0) (.slice none 0 0) (.slice none 0 0) (.string ⟨#[]⟩) (.string ⟨#[]⟩);refine zi rfl rfl (ye (y4 HG7.out _ _ _ _ _ _ _ _) rfl) rfl ?_;refine⟨HWB7.out.trans (hua.below (by have:=HWB7.out.size;omega) (fun k _ h=>by have h:k=g:=h;have:=HGG.out;omega)),?_⟩;rw[HBE.out];exact rfl
     ·obtain rfl:nm=2:=by rw[<-HNM.out,hn];rfl
      have HN:=hid hn;clear hn
      cases hd1:((2:Int) != (kk:Int))with
      | true =>
       have HD1:=hid hd1;go_upto_region 15 with fail
       have hrow:=y4 HX5.out (.int .i64 2) (.string ⟨#[]⟩) (.bool false) (.int .u64 0) (.slice none 0 0) (.slice none 0 0) (.string ⟨#[]⟩) (.string U);have hupd:=y5 w5 bx (.int .i64 2) (.string ⟨#[]⟩) (.bool false) (.int .u64 0) (.slice none 0 0) (.slice none 0 0) (.string ⟨#[]⟩) (.string U);obtain⟨W6,hW6⟩:∃W,((((((((w5).setCell ⟨bx,0,none⟩ (.int .i64 2)).setCell ⟨bx,1,none⟩ (.string ⟨#[]⟩)).setCell ⟨bx,2,none⟩ (.bool false)).setCell ⟨bx,3,none⟩ (.int .u64 0)).setCell ⟨bx,4,none⟩ (.slice none 0 0)).setCell ⟨bx,5,none⟩ (.slice none 0 0)).setCell ⟨bx,6,none⟩ (.string ⟨#[]⟩)).setCell ⟨bx,7,none⟩ (.string U)=W:=⟨_,rfl⟩
       rw[hW6]at hrow hupd ⊢;clear hW6 hx0 fx0 hx1 fx1 hx2 fx2 hx3 fx3 hx4 fx4 hx5 fx5 hx6 fx6 hx7 fx7 hr0;have hne2:rb≠bx:=HNE.out;have HR6:=hid ((hupd.block rb (z8 HR5.out) (fun e=>hne2 e)).trans HR5.out);have HBR6:Hid (Below bx w1 W6):=hid (HBR5.out.trans (hupd.below (by omega) (fun k _ h=>by have h:k=bx:=h;omega)));have HX6:=hid hrow;have hs6:bx<W6.heap.size:=z8 hrow;clear hupd hrow hd1;have hf6:=z7 HX6.out 2;have hc6:=rc2 HX6.out;have hr0:=rc0 HR6.out;have hr2:=rc2 HR6.out;have hb0:((rn:Int) != 0)=!decide (rn=0):=by by_cases h:rn=0<;>simp[h]
       have hu:=Upd.set W6 ⟨bx,2,none⟩ (.bool (!decide (rn=0)));have HBR7:=hid (HBR6.out.trans (hu.below (by omega) (fun k _ h=>by have h:k=bx:=h;omega)));have HX7:=hid (ze HX6.out 2 (.bool (!decide (rn=0))));clear hu;go_wp2_with fail;have hj:=HJ.out
       go_roundg (gk-1)
       case measure=>omega
       case rel=>exact⟨j+1,2,0,⟨#[]⟩,⟨#[]⟩,U,!decide (rn=0),by simp,by omega,rfl,HBR7.out,HX7.out,hid (by have:=HSUM.out;simp only[ByteArray.size,Array.size_empty]at *;omega),hid ⟨oput o r,by rw[HMY.out];exact if_neg (fun h=>by have:=HN.out;omega),HN.out.symm,by omega,by simp[qn,HN.out],by simp[xz,HN.out,HRN.out],by simp[qo,HN.out],by simp[xy,HN.out],by rw[HMU.out];exact HMU0.out⟩⟩
      | false =>
       have HD1:=hid hd1;go_upto_region 15 with fail
       have hrow:=y4 HX5.out (.int .i64 2) (.string ⟨#[]⟩) (.bool false) (.int .u64 0) (.slice none 0 0) (.slice none 0 0) (.string ⟨#[]⟩) (.string U);have hupd:=y5 w5 bx (.int .i64 2) (.string ⟨#[]⟩) (.bool false) (.int .u64 0) (.slice none 0 0) (.slice none 0 0) (.string ⟨#[]⟩) (.string U);obtain⟨W6,hW6⟩:∃W,((((((((w5).setCell ⟨bx,0,none⟩ (.int .i64 2)).setCell ⟨bx,1,none⟩ (.string ⟨#[]⟩)).setCell ⟨bx,2,none⟩ (.bool false)).setCell ⟨bx,3,none⟩ (.int .u64 0)).setCell ⟨bx,4,none⟩ (.slice none 0 0)).setCell ⟨bx,5,none⟩ (.slice none 0 0)).setCell ⟨bx,6,none⟩ (.string ⟨#[]⟩)).setCell ⟨bx,7,none⟩ (.string U)=W:=⟨_,rfl⟩
       rw[hW6]at hrow hupd ⊢;clear hW6 hx0 fx0 hx1 fx1 hx2 fx2 hx3 fx3 hx4 fx4 hx5 fx5 hx6 fx6 hx7 fx7 hr0;have hne2:rb≠bx:=HNE.out;have HR6:=hid ((hupd.block rb (z8 HR5.out) (fun e=>hne2 e)).trans HR5.out);have HBR6:Hid (Below bx w1 W6):=hid (HBR5.out.trans (hupd.below (by omega) (fun k _ h=>by have h:k=bx:=h;omega)));have HX6:=hid hrow;have hs6:bx<W6.heap.size:=z8 hrow;clear hupd hrow hd1;have hf6:=z7 HX6.out 2;have hc6:=rc2 HX6.out;have hr0:=rc0 HR6.out;have hr2:=rc2 HR6.out;have hb0:((rn:Int) != 0)=!decide (rn=0):=by by_cases h:rn=0<;>simp[h]
       have hu:=Upd.set W6 ⟨bx,2,none⟩ (.bool (!decide (rn=0)));have HBR7:=hid (HBR6.out.trans (hu.below (by omega) (fun k _ h=>by have h:k=bx:=h;omega)));have HX7:=hid (ze HX6.out 2 (.bool (!decide (rn=0))));clear hu;go_wp2_with fail;have hj:=HJ.out
       go_roundg (gk-1)
       case measure=>omega
       case rel=>exact⟨j+1,2,0,⟨#[]⟩,⟨#[]⟩,U,!decide (rn=0),by simp,by omega,rfl,HBR7.out,HX7.out,hid (by have:=HSUM.out;simp only[ByteArray.size,Array.size_empty]at *;omega),hid ⟨oput o r,by rw[HMY.out];exact if_neg (fun h=>by have:=HN.out;omega),HN.out.symm,by omega,by simp[qn,HN.out],by simp[xz,HN.out,HRN.out],by simp[qo,HN.out],by simp[xy,HN.out],by rw[HMU.out];exact HMU0.out⟩⟩
     ·obtain rfl:nm=3:=by rw[<-HNM.out,hn];rfl
      have HN:=hid hn;clear hn
      cases hd1:((3:Int) != (kk:Int))with
      | true =>
       have HD1:=hid hd1;go_upto_region 15 with fail
       have hrow:=y4 HX5.out (.int .i64 3) (.string ⟨#[]⟩) (.bool false) (.int .u64 0) (.slice none 0 0) (.slice none 0 0) (.string ⟨#[]⟩) (.string U);have hupd:=y5 w5 bx (.int .i64 3) (.string ⟨#[]⟩) (.bool false) (.int .u64 0) (.slice none 0 0) (.slice none 0 0) (.string ⟨#[]⟩) (.string U);obtain⟨W6,hW6⟩:∃W,((((((((w5).setCell ⟨bx,0,none⟩ (.int .i64 3)).setCell ⟨bx,1,none⟩ (.string ⟨#[]⟩)).setCell ⟨bx,2,none⟩ (.bool false)).setCell ⟨bx,3,none⟩ (.int .u64 0)).setCell ⟨bx,4,none⟩ (.slice none 0 0)).setCell ⟨bx,5,none⟩ (.slice none 0 0)).setCell ⟨bx,6,none⟩ (.string ⟨#[]⟩)).setCell ⟨bx,7,none⟩ (.string U)=W:=⟨_,rfl⟩
       rw[hW6]at hrow hupd ⊢;clear hW6 hx0 fx0 hx1 fx1 hx2 fx2 hx3 fx3 hx4 fx4 hx5 fx5 hx6 fx6 hx7 fx7 hr0;have hne2:rb≠bx:=HNE.out;have HR6:=hid ((hupd.block rb (z8 HR5.out) (fun e=>hne2 e)).trans HR5.out);have HBR6:Hid (Below bx w1 W6):=hid (HBR5.out.trans (hupd.below (by omega) (fun k _ h=>by have h:k=bx:=h;omega)));have HX6:=hid hrow;have hs6:bx<W6.heap.size:=z8 hrow;clear hupd hrow hd1;have hf6:=z7 HX6.out 3;have hc6:=rc3 HX6.out;have hr0:=rc0 HR6.out;have hr2:=rc2 HR6.out;have hu:=Upd.set W6 ⟨bx,3,none⟩ (.int .u64 rn);have HBR7:=hid (HBR6.out.trans (hu.below (by omega) (fun k _ h=>by have h:k=bx:=h;omega)));have HX7:=hid (ze HX6.out 3 (.int .u64 rn));clear hu;go_wp2_with fail;have hj:=HJ.out
       go_roundg (gk-1)
       case measure=>omega
       case rel=>exact⟨j+1,3,rn,⟨#[]⟩,⟨#[]⟩,U,false,by simp,by omega,rfl,HBR7.out,HX7.out,hid (by have:=HSUM.out;simp only[ByteArray.size,Array.size_empty]at *;omega),hid ⟨oput o r,by rw[HMY.out];exact if_neg (fun h=>by have:=HN.out;omega),HN.out.symm,by omega,by simp[qn,HN.out],by simp[xz,HN.out],by simp[qo,HN.out,HRN.out],by simp[xy,HN.out],by rw[HMU.out];exact HMU0.out⟩⟩
      | false =>
       have HD1:=hid hd1;go_upto_region 15 with fail
       have hrow:=y4 HX5.out (.int .i64 3) (.string ⟨#[]⟩) (.bool false) (.int .u64 0) (.slice none 0 0) (.slice none 0 0) (.string ⟨#[]⟩) (.string U);have hupd:=y5 w5 bx (.int .i64 3) (.string ⟨#[]⟩) (.bool false) (.int .u64 0) (.slice none 0 0) (.slice none 0 0) (.string ⟨#[]⟩) (.string U);obtain⟨W6,hW6⟩:∃W,((((((((w5).setCell ⟨bx,0,none⟩ (.int .i64 3)).setCell ⟨bx,1,none⟩ (.string ⟨#[]⟩)).setCell ⟨bx,2,none⟩ (.bool false)).setCell ⟨bx,3,none⟩ (.int .u64 0)).setCell ⟨bx,4,none⟩ (.slice none 0 0)).setCell ⟨bx,5,none⟩ (.slice none 0 0)).setCell ⟨bx,6,none⟩ (.string ⟨#[]⟩)).setCell ⟨bx,7,none⟩ (.string U)=W:=⟨_,rfl⟩
       rw[hW6]at hrow hupd ⊢;clear hW6 hx0 fx0 hx1 fx1 hx2 fx2 hx3 fx3 hx4 fx4 hx5 fx5 hx6 fx6 hx7 fx7 hr0;have hne2:rb≠bx:=HNE.out;have HR6:=hid ((hupd.block rb (z8 HR5.out) (fun e=>hne2 e)).trans HR5.out);have HBR6:Hid (Below bx w1 W6):=hid (HBR5.out.trans (hupd.below (by omega) (fun k _ h=>by have h:k=bx:=h;omega)));have HX6:=hid hrow;have hs6:bx<W6.heap.size:=z8 hrow;clear hupd hrow hd1;have hf6:=z7 HX6.out 3;have hc6:=rc3 HX6.out;have hr0:=rc0 HR6.out;have hr2:=rc2 HR6.out;have hu:=Upd.set W6 ⟨bx,3,none⟩ (.int .u64 rn);have HBR7:=hid (HBR6.out.trans (hu.below (by omega) (fun k _ h=>by have h:k=bx:=h;omega)));have HX7:=hid (ze HX6.out 3 (.int .u64 rn));clear hu;go_wp2_with fail;have hj:=HJ.out
       go_roundg (gk-1)
       case measure=>omega
       case rel=>exact⟨j+1,3,rn,⟨#[]⟩,⟨#[]⟩,U,false,by simp,by omega,rfl,HBR7.out,HX7.out,hid (by have:=HSUM.out;simp only[ByteArray.size,Array.size_empty]at *;omega),hid ⟨oput o r,by rw[HMY.out];exact if_neg (fun h=>by have:=HN.out;omega),HN.out.symm,by omega,by simp[qn,HN.out],by simp[xz,HN.out],by simp[qo,HN.out,HRN.out],by simp[xy,HN.out],by rw[HMU.out];exact HMU0.out⟩⟩
     ·obtain rfl:nm=4:=by rw[<-HNM.out,hn];rfl
      have HN:=hid hn;clear hn
      cases hd1:((4:Int) != (kk:Int))with
      | true =>
       have HD1:=hid hd1;go_upto_region 15 with fail
       have hrow:=y4 HX5.out (.int .i64 4) (.string ⟨#[]⟩) (.bool false) (.int .u64 0) (.slice none 0 0) (.slice none 0 0) (.string ⟨#[]⟩) (.string U);have hupd:=y5 w5 bx (.int .i64 4) (.string ⟨#[]⟩) (.bool false) (.int .u64 0) (.slice none 0 0) (.slice none 0 0) (.string ⟨#[]⟩) (.string U);obtain⟨W6,hW6⟩:∃W,((((((((w5).setCell ⟨bx,0,none⟩ (.int .i64 4)).setCell ⟨bx,1,none⟩ (.string ⟨#[]⟩)).setCell ⟨bx,2,none⟩ (.bool false)).setCell ⟨bx,3,none⟩ (.int .u64 0)).setCell ⟨bx,4,none⟩ (.slice none 0 0)).setCell ⟨bx,5,none⟩ (.slice none 0 0)).setCell ⟨bx,6,none⟩ (.string ⟨#[]⟩)).setCell ⟨bx,7,none⟩ (.string U)=W:=⟨_,rfl⟩
       rw[hW6]at hrow hupd ⊢;clear hW6 hx0 fx0 hx1 fx1 hx2 fx2 hx3 fx3 hx4 fx4 hx5 fx5 hx6 fx6 hx7 fx7 hr0;have hne2:rb≠bx:=HNE.out;have HR6:=hid ((hupd.block rb (z8 HR5.out) (fun e=>hne2 e)).trans HR5.out);have HBR6:Hid (Below bx w1 W6):=hid (HBR5.out.trans (hupd.below (by omega) (fun k _ h=>by have h:k=bx:=h;omega)));have HX6:=hid hrow;have hs6:bx<W6.heap.size:=z8 hrow;clear hupd hrow hd1;have hf6:=z7 HX6.out 3;have hc6:=rc3 HX6.out;have hr0:=rc0 HR6.out;have hr2:=rc2 HR6.out;have hu:=Upd.set W6 ⟨bx,3,none⟩ (.int .u64 rn);have HBR7:=hid (HBR6.out.trans (hu.below (by omega) (fun k _ h=>by have h:k=bx:=h;omega)));have HX7:=hid (ze HX6.out 3 (.int .u64 rn));clear hu;go_wp2_with fail;have hj:=HJ.out
       go_roundg (gk-1)
       case measure=>omega
       case rel=>exact⟨j+1,4,rn,⟨#[]⟩,⟨#[]⟩,U,false,by simp,by omega,rfl,HBR7.out,HX7.out,hid (by have:=HSUM.out;simp only[ByteArray.size,Array.size_empty]at *;omega),hid ⟨oput o r,by rw[HMY.out];exact if_neg (fun h=>by have:=HN.out;omega),HN.out.symm,by omega,by simp[qn,HN.out],by simp[xz,HN.out],by simp[qo,HN.out,HRN.out],by simp[xy,HN.out],by rw[HMU.out];exact HMU0.out⟩⟩
      | false =>
       have HD1:=hid hd1;go_upto_region 15 with fail
       have hrow:=y4 HX5.out (.int .i64 4) (.string ⟨#[]⟩) (.bool false) (.int .u64 0) (.slice none 0 0) (.slice none 0 0) (.string ⟨#[]⟩) (.string U);have hupd:=y5 w5 bx (.int .i64 4) (.string ⟨#[]⟩) (.bool false) (.int .u64 0) (.slice none 0 0) (.slice none 0 0) (.string ⟨#[]⟩) (.string U);obtain⟨W6,hW6⟩:∃W,((((((((w5).setCell ⟨bx,0,none⟩ (.int .i64 4)).setCell ⟨bx,1,none⟩ (.string ⟨#[]⟩)).setCell ⟨bx,2,none⟩ (.bool false)).setCell ⟨bx,3,none⟩ (.int .u64 0)).setCell ⟨bx,4,none⟩ (.slice none 0 0)).setCell ⟨bx,5,none⟩ (.slice none 0 0)).setCell ⟨bx,6,none⟩ (.string ⟨#[]⟩)).setCell ⟨bx,7,none⟩ (.string U)=W:=⟨_,rfl⟩
       rw[hW6]at hrow hupd ⊢;clear hW6 hx0 fx0 hx1 fx1 hx2 fx2 hx3 fx3 hx4 fx4 hx5 fx5 hx6 fx6 hx7 fx7 hr0;have hne2:rb≠bx:=HNE.out;have HR6:=hid ((hupd.block rb (z8 HR5.out) (fun e=>hne2 e)).trans HR5.out);have HBR6:Hid (Below bx w1 W6):=hid (HBR5.out.trans (hupd.below (by omega) (fun k _ h=>by have h:k=bx:=h;omega)));have HX6:=hid hrow;have hs6:bx<W6.heap.size:=z8 hrow;clear hupd hrow hd1;have hf6:=z7 HX6.out 3;have hc6:=rc3 HX6.out;have hr0:=rc0 HR6.out;have hr2:=rc2 HR6.out;have hu:=Upd.set W6 ⟨bx,3,none⟩ (.int .u64 rn);have HBR7:=hid (HBR6.out.trans (hu.below (by omega) (fun k _ h=>by have h:k=bx:=h;omega)));have HX7:=hid (ze HX6.out 3 (.int .u64 rn));clear hu;go_wp2_with fail;have hj:=HJ.out
       go_roundg (gk-1)
       case measure=>omega
       case rel=>exact⟨j+1,4,rn,⟨#[]⟩,⟨#[]⟩,U,false,by simp,by omega,rfl,HBR7.out,HX7.out,hid (by have:=HSUM.out;simp only[ByteArray.size,Array.size_empty]at *;omega),hid ⟨oput o r,by rw[HMY.out];exact if_neg (fun h=>by have:=HN.out;omega),HN.out.symm,by omega,by simp[qn,HN.out],by simp[xz,HN.out],by simp[qo,HN.out,HRN.out],by simp[xy,HN.out],by rw[HMU.out];exact HMU0.out⟩⟩
     ·obtain rfl:nm=5:=by rw[<-HNM.out,hn];rfl
      have HN:=hid hn;clear hn
      cases hd1:((5:Int) != (kk:Int))with
      | true =>
       have HD1:=hid hd1;go_upto_region 15 with fail
       have hrow:=y4 HX5.out (.int .i64 5) (.string ⟨#[]⟩) (.bool false) (.int .u64 0) (.slice none 0 0) (.slice none 0 0) (.string ⟨#[]⟩) (.string U);have hupd:=y5 w5 bx (.int .i64 5) (.string ⟨#[]⟩) (.bool false) (.int .u64 0) (.slice none 0 0) (.slice none 0 0) (.string ⟨#[]⟩) (.string U);obtain⟨W6,hW6⟩:∃W,((((((((w5).setCell ⟨bx,0,none⟩ (.int .i64 5)).setCell ⟨bx,1,none⟩ (.string ⟨#[]⟩)).setCell ⟨bx,2,none⟩ (.bool false)).setCell ⟨bx,3,none⟩ (.int .u64 0)).setCell ⟨bx,4,none⟩ (.slice none 0 0)).setCell ⟨bx,5,none⟩ (.slice none 0 0)).setCell ⟨bx,6,none⟩ (.string ⟨#[]⟩)).setCell ⟨bx,7,none⟩ (.string U)=W:=⟨_,rfl⟩
       rw[hW6]at hrow hupd ⊢;clear hW6 hx0 fx0 hx1 fx1 hx2 fx2 hx3 fx3 hx4 fx4 hx5 fx5 hx6 fx6 hx7 fx7 hr0;have hne2:rb≠bx:=HNE.out;have HR6:=hid ((hupd.block rb (z8 HR5.out) (fun e=>hne2 e)).trans HR5.out);have HBR6:Hid (Below bx w1 W6):=hid (HBR5.out.trans (hupd.below (by omega) (fun k _ h=>by have h:k=bx:=h;omega)));have HX6:=hid hrow;have hs6:bx<W6.heap.size:=z8 hrow;clear hupd hrow hd1;have hr0:=rc0 HR6.out;have hr3:=rc3 HR6.out;have hsz:¬9223372036854775807<(⟨#[]⟩:ByteArray).size+S.size:=by have:=HSZ1.out;have:=HSUM.out;have:=HSS.out;simp only[ByteArray.size,Array.size_empty]at *;omega
       have HK5:Hid (¬5=o.r.num):=hid (by have h1:=HK.out;have h2:=HD1.out;rw[bne_iff_ne]at h2;omega);go_wp2_with fail;have hj:=HJ.out
       go_roundg (gk-1)
       case measure=>omega
       case rel=>exact⟨j+1,5,0,⟨#[]⟩,(⟨#[]⟩++S),U,false,by simp,by omega,rfl,HBR6.out,HX6.out,hid (by rw[ByteArray.size_append];have:=HSZ1.out;have:=HSUM.out;simp only[ByteArray.size,Array.size_empty]at *;omega),hid ⟨oput o r,by rw[HMY.out];exact if_neg (fun h=>by have:=HN.out;omega),HN.out.symm,by omega,by simp[qn,HN.out],by simp[xz,HN.out],by simp[qo,HN.out],by rw[ByteArray.data_append,Array.toList_append,HSD.out];simp[xy,HN.out,HK5.out],by rw[HMU.out];exact HMU0.out⟩⟩
      | false =>
       have HD1:=hid hd1;go_upto_region 15 with fail
       have hrow:=y4 HX5.out (.int .i64 5) (.string ⟨#[]⟩) (.bool false) (.int .u64 0) (.slice none 0 0) (.slice none 0 0) (.string ⟨#[]⟩) (.string U);have hupd:=y5 w5 bx (.int .i64 5) (.string ⟨#[]⟩) (.bool false) (.int .u64 0) (.slice none 0 0) (.slice none 0 0) (.string ⟨#[]⟩) (.string U);obtain⟨W6,hW6⟩:∃W,((((((((w5).setCell ⟨bx,0,none⟩ (.int .i64 5)).setCell ⟨bx,1,none⟩ (.string ⟨#[]⟩)).setCell ⟨bx,2,none⟩ (.bool false)).setCell ⟨bx,3,none⟩ (.int .u64 0)).setCell ⟨bx,4,none⟩ (.slice none 0 0)).setCell ⟨bx,5,none⟩ (.slice none 0 0)).setCell ⟨bx,6,none⟩ (.string ⟨#[]⟩)).setCell ⟨bx,7,none⟩ (.string U)=W:=⟨_,rfl⟩
       rw[hW6]at hrow hupd ⊢;clear hW6 hx0 fx0 hx1 fx1 hx2 fx2 hx3 fx3 hx4 fx4 hx5 fx5 hx6 fx6 hx7 fx7 hr0;have hne2:rb≠bx:=HNE.out;have HR6:=hid ((hupd.block rb (z8 HR5.out) (fun e=>hne2 e)).trans HR5.out);have HBR6:Hid (Below bx w1 W6):=hid (HBR5.out.trans (hupd.below (by omega) (fun k _ h=>by have h:k=bx:=h;omega)));have HX6:=hid hrow;have hs6:bx<W6.heap.size:=z8 hrow;clear hupd hrow hd1;have hr0:=rc0 HR6.out;have hr3:=rc3 HR6.out;have hsz:¬9223372036854775807<Pt.size+S.size:=by have:=HSZ1.out;have:=HSUM.out;have:=HSS.out;omega
       have HK5:Hid (o.r.num=5):=hid (by have h1:=HK.out;have h2:=HD1.out;rw[bne_eq_false_iff_eq]at h2;omega);go_wp2_with fail;have hj:=HJ.out
       go_roundg (gk-1)
       case measure=>omega
       case rel=>exact⟨j+1,5,0,⟨#[]⟩,Pt++S,U,false,by simp,by omega,rfl,HBR6.out,HX6.out,hid (by rw[ByteArray.size_append];have:=HSZ1.out;have:=HSUM.out;omega),hid ⟨oput o r,by rw[HMY.out];exact if_neg (fun h=>by have:=HN.out;omega),HN.out.symm,by omega,by simp[qn,HN.out],by simp[xz,HN.out],by simp[qo,HN.out],by rw[ByteArray.data_append,Array.toList_append,HPT.out,HSD.out,xy];unfold z11;simp[HN.out,HK5.out],by rw[HMU.out];exact HMU0.out⟩⟩
     ·obtain rfl:nm=6:=by rw[<-HNM.out,hn];rfl
      have HN:=hid hn;clear hn
      cases hd1:((6:Int) != (kk:Int))with
      | true =>
       have HD1:=hid hd1;go_upto_region 15 with fail
       have hrow:=y4 HX5.out (.int .i64 6) (.string ⟨#[]⟩) (.bool false) (.int .u64 0) (.slice none 0 0) (.slice none 0 0) (.string ⟨#[]⟩) (.string U);have hupd:=y5 w5 bx (.int .i64 6) (.string ⟨#[]⟩) (.bool false) (.int .u64 0) (.slice none 0 0) (.slice none 0 0) (.string ⟨#[]⟩) (.string U);obtain⟨W6,hW6⟩:∃W,((((((((w5).setCell ⟨bx,0,none⟩ (.int .i64 6)).setCell ⟨bx,1,none⟩ (.string ⟨#[]⟩)).setCell ⟨bx,2,none⟩ (.bool false)).setCell ⟨bx,3,none⟩ (.int .u64 0)).setCell ⟨bx,4,none⟩ (.slice none 0 0)).setCell ⟨bx,5,none⟩ (.slice none 0 0)).setCell ⟨bx,6,none⟩ (.string ⟨#[]⟩)).setCell ⟨bx,7,none⟩ (.string U)=W:=⟨_,rfl⟩
       rw[hW6]at hrow hupd ⊢;clear hW6 hx0 fx0 hx1 fx1 hx2 fx2 hx3 fx3 hx4 fx4 hx5 fx5 hx6 fx6 hx7 fx7 hr0;have hne2:rb≠bx:=HNE.out;have HR6:=hid ((hupd.block rb (z8 HR5.out) (fun e=>hne2 e)).trans HR5.out);have HBR6:Hid (Below bx w1 W6):=hid (HBR5.out.trans (hupd.below (by omega) (fun k _ h=>by have h:k=bx:=h;omega)));have HX6:=hid hrow;have hs6:bx<W6.heap.size:=z8 hrow;clear hupd hrow hd1;have hr0:=rc0 HR6.out;have hr3:=rc3 HR6.out;have hsz:¬9223372036854775807<(⟨#[]⟩:ByteArray).size+S.size:=by have:=HSZ1.out;have:=HSUM.out;have:=HSS.out;simp only[ByteArray.size,Array.size_empty]at *;omega
       have HK5:Hid (¬6=o.r.num):=hid (by have h1:=HK.out;have h2:=HD1.out;rw[bne_iff_ne]at h2;omega);go_wp2_with fail;have hj:=HJ.out
       go_roundg (gk-1)
       case measure=>omega
       case rel=>exact⟨j+1,6,0,⟨#[]⟩,(⟨#[]⟩++S),U,false,by simp,by omega,rfl,HBR6.out,HX6.out,hid (by rw[ByteArray.size_append];have:=HSZ1.out;have:=HSUM.out;simp only[ByteArray.size,Array.size_empty]at *;omega),hid ⟨oput o r,by rw[HMY.out];exact if_neg (fun h=>by have:=HN.out;omega),HN.out.symm,by omega,by simp[qn,HN.out],by simp[xz,HN.out],by simp[qo,HN.out],by rw[ByteArray.data_append,Array.toList_append,HSD.out];simp[xy,HN.out,HK5.out],by rw[HMU.out];exact HMU0.out⟩⟩
      | false =>
       have HD1:=hid hd1;go_upto_region 15 with fail
       have hrow:=y4 HX5.out (.int .i64 6) (.string ⟨#[]⟩) (.bool false) (.int .u64 0) (.slice none 0 0) (.slice none 0 0) (.string ⟨#[]⟩) (.string U);have hupd:=y5 w5 bx (.int .i64 6) (.string ⟨#[]⟩) (.bool false) (.int .u64 0) (.slice none 0 0) (.slice none 0 0) (.string ⟨#[]⟩) (.string U);obtain⟨W6,hW6⟩:∃W,((((((((w5).setCell ⟨bx,0,none⟩ (.int .i64 6)).setCell ⟨bx,1,none⟩ (.string ⟨#[]⟩)).setCell ⟨bx,2,none⟩ (.bool false)).setCell ⟨bx,3,none⟩ (.int .u64 0)).setCell ⟨bx,4,none⟩ (.slice none 0 0)).setCell ⟨bx,5,none⟩ (.slice none 0 0)).setCell ⟨bx,6,none⟩ (.string ⟨#[]⟩)).setCell ⟨bx,7,none⟩ (.string U)=W:=⟨_,rfl⟩
       rw[hW6]at hrow hupd ⊢;clear hW6 hx0 fx0 hx1 fx1 hx2 fx2 hx3 fx3 hx4 fx4 hx5 fx5 hx6 fx6 hx7 fx7 hr0;have hne2:rb≠bx:=HNE.out;have HR6:=hid ((hupd.block rb (z8 HR5.out) (fun e=>hne2 e)).trans HR5.out);have HBR6:Hid (Below bx w1 W6):=hid (HBR5.out.trans (hupd.below (by omega) (fun k _ h=>by have h:k=bx:=h;omega)));have HX6:=hid hrow;have hs6:bx<W6.heap.size:=z8 hrow;clear hupd hrow hd1;have hr0:=rc0 HR6.out;have hr3:=rc3 HR6.out;have hsz:¬9223372036854775807<Pt.size+S.size:=by have:=HSZ1.out;have:=HSUM.out;have:=HSS.out;omega
       have HK5:Hid (o.r.num=6):=hid (by have h1:=HK.out;have h2:=HD1.out;rw[bne_eq_false_iff_eq]at h2;omega);go_wp2_with fail;have hj:=HJ.out
       go_roundg (gk-1)
       case measure=>omega
       case rel=>exact⟨j+1,6,0,⟨#[]⟩,Pt++S,U,false,by simp,by omega,rfl,HBR6.out,HX6.out,hid (by rw[ByteArray.size_append];have:=HSZ1.out;have:=HSUM.out;omega),hid ⟨oput o r,by rw[HMY.out];exact if_neg (fun h=>by have:=HN.out;omega),HN.out.symm,by omega,by simp[qn,HN.out],by simp[xz,HN.out],by simp[qo,HN.out],by rw[ByteArray.data_append,Array.toList_append,HPT.out,HSD.out,xy];unfold z11;simp[HN.out,HK5.out],by rw[HMU.out];exact HMU0.out⟩⟩
     ·obtain rfl:nm=7:=by rw[<-HNM.out,hn];rfl
      have HN:=hid hn;clear hn
      cases hd1:((7:Int) != (kk:Int))with
      | true =>
       have HD1:=hid hd1;go_upto_region 15 with fail
       have hrow:=y4 HX5.out (.int .i64 7) (.string ⟨#[]⟩) (.bool false) (.int .u64 0) (.slice none 0 0) (.slice none 0 0) (.string ⟨#[]⟩) (.string U);have hupd:=y5 w5 bx (.int .i64 7) (.string ⟨#[]⟩) (.bool false) (.int .u64 0) (.slice none 0 0) (.slice none 0 0) (.string ⟨#[]⟩) (.string U);obtain⟨W6,hW6⟩:∃W,((((((((w5).setCell ⟨bx,0,none⟩ (.int .i64 7)).setCell ⟨bx,1,none⟩ (.string ⟨#[]⟩)).setCell ⟨bx,2,none⟩ (.bool false)).setCell ⟨bx,3,none⟩ (.int .u64 0)).setCell ⟨bx,4,none⟩ (.slice none 0 0)).setCell ⟨bx,5,none⟩ (.slice none 0 0)).setCell ⟨bx,6,none⟩ (.string ⟨#[]⟩)).setCell ⟨bx,7,none⟩ (.string U)=W:=⟨_,rfl⟩
       rw[hW6]at hrow hupd ⊢;clear hW6 hx0 fx0 hx1 fx1 hx2 fx2 hx3 fx3 hx4 fx4 hx5 fx5 hx6 fx6 hx7 fx7 hr0;have hne2:rb≠bx:=HNE.out;have HR6:=hid ((hupd.block rb (z8 HR5.out) (fun e=>hne2 e)).trans HR5.out);have HBR6:Hid (Below bx w1 W6):=hid (HBR5.out.trans (hupd.below (by omega) (fun k _ h=>by have h:k=bx:=h;omega)));have HX6:=hid hrow;have hs6:bx<W6.heap.size:=z8 hrow;clear hupd hrow hd1;have hf6:=z7 HX6.out 1;have hc6:=rc1 HX6.out;have hr0:=rc0 HR6.out;have hr3:=rc3 HR6.out;have hu:=Upd.set W6 ⟨bx,1,none⟩ (.string S);have HBR7:=hid (HBR6.out.trans (hu.below (by omega) (fun k _ h=>by have h:k=bx:=h;omega)));have HX7:=hid (ze HX6.out 1 (.string S));clear hu;go_wp2_with fail;have hj:=HJ.out
       go_roundg (gk-1)
       case measure=>omega
       case rel=>exact⟨j+1,7,0,S,⟨#[]⟩,U,false,by simp,by omega,rfl,HBR7.out,HX7.out,hid (by have:=HSUM.out;simp only[ByteArray.size,Array.size_empty]at *;omega),hid ⟨oput o r,by rw[HMY.out];exact if_neg (fun h=>by have:=HN.out;omega),HN.out.symm,by omega,by simp[qn,HN.out,HSD.out],by simp[xz,HN.out],by simp[qo,HN.out],by simp[xy,HN.out],by rw[HMU.out];exact HMU0.out⟩⟩
      | false =>
       have HD1:=hid hd1;go_upto_region 15 with fail
       have hrow:=y4 HX5.out (.int .i64 7) (.string ⟨#[]⟩) (.bool false) (.int .u64 0) (.slice none 0 0) (.slice none 0 0) (.string ⟨#[]⟩) (.string U);have hupd:=y5 w5 bx (.int .i64 7) (.string ⟨#[]⟩) (.bool false) (.int .u64 0) (.slice none 0 0) (.slice none 0 0) (.string ⟨#[]⟩) (.string U);obtain⟨W6,hW6⟩:∃W,((((((((w5).setCell ⟨bx,0,none⟩ (.int .i64 7)).setCell ⟨bx,1,none⟩ (.string ⟨#[]⟩)).setCell ⟨bx,2,none⟩ (.bool false)).setCell ⟨bx,3,none⟩ (.int .u64 0)).setCell ⟨bx,4,none⟩ (.slice none 0 0)).setCell ⟨bx,5,none⟩ (.slice none 0 0)).setCell ⟨bx,6,none⟩ (.string ⟨#[]⟩)).setCell ⟨bx,7,none⟩ (.string U)=W:=⟨_,rfl⟩
       rw[hW6]at hrow hupd ⊢;clear hW6 hx0 fx0 hx1 fx1 hx2 fx2 hx3 fx3 hx4 fx4 hx5 fx5 hx6 fx6 hx7 fx7 hr0;have hne2:rb≠bx:=HNE.out;have HR6:=hid ((hupd.block rb (z8 HR5.out) (fun e=>hne2 e)).trans HR5.out);have HBR6:Hid (Below bx w1 W6):=hid (HBR5.out.trans (hupd.below (by omega) (fun k _ h=>by have h:k=bx:=h;omega)));have HX6:=hid hrow;have hs6:bx<W6.heap.size:=z8 hrow;clear hupd hrow hd1;have hf6:=z7 HX6.out 1;have hc6:=rc1 HX6.out;have hr0:=rc0 HR6.out;have hr3:=rc3 HR6.out;have hu:=Upd.set W6 ⟨bx,1,none⟩ (.string S);have HBR7:=hid (HBR6.out.trans (hu.below (by omega) (fun k _ h=>by have h:k=bx:=h;omega)));have HX7:=hid (ze HX6.out 1 (.string S));clear hu;go_wp2_with fail;have hj:=HJ.out
       go_roundg (gk-1)
       case measure=>omega
       case rel=>exact⟨j+1,7,0,S,⟨#[]⟩,U,false,by simp,by omega,rfl,HBR7.out,HX7.out,hid (by have:=HSUM.out;simp only[ByteArray.size,Array.size_empty]at *;omega),hid ⟨oput o r,by rw[HMY.out];exact if_neg (fun h=>by have:=HN.out;omega),HN.out.symm,by omega,by simp[qn,HN.out,HSD.out],by simp[xz,HN.out],by simp[qo,HN.out],by simp[xy,HN.out],by rw[HMU.out];exact HMU0.out⟩⟩
   ·have hjn:j=rs.length:=by have:=HJ.out;omega
    obtain⟨o,g1,g2,g3,g4,g5,g6,g7,g8⟩:=HST.out;rw[hjn,List.take_length]at g1 g8;have HSE:Hid (RES=zz (zn f) (zm f) o (d-1) (munk vtk rs)):=hid (by rw[HBR.out,g1]);have HUU:Hid (munk vtk rs=U.data.toList):=hid g8.symm
    have HPS:Hid (Pt.size<=X.size):=hid (by
     have h1:=jr HRAW.out j;have h2:=HSZ.out;have h5:X.data.toList.length=X.size:=by simp
     omega)
    have HK:=hid g2;have HS4:=hid g4;have HB4:=hid g5;have HN4:=hid g6;have HP4:=hid g7;clear g1 g2 g4 g5 g6 g7 g8 hjn;have q1:IntKind.i64.wrap (d-1)=d-1:=IntWalk.i64_in _ (by have:=HDD.out;have:=HD0.out;omega)
    by_cases hk5:kk=5
    ·subst hk5
     have HL:=hid (zac f Pt U (d-1) wr (by have:=HPS.out;have:=HSS.out;omega) (by have:=HDD.out;have:=HD0.out;omega) (hid fun Y d' w' h1 h2=>hrv.out Y d' w' (by have:=HPS.out;omega) h2))
     have HBE:Hid (z5n U.data.toList (yf (zn f) Pt.data.toList (d-1))=RES):=hid (by
      rw[HSE.out,zg0 HK.out.symm,HUU.out,HP4.out];unfold z11;rw[if_pos (.inl HK.out.symm)])
     rw[HBE.out]at HL;obtain rfl:SB=⟨#[]⟩:=zca (by rw[HS4.out];unfold ostr;rw[if_neg (by have:=HK.out;omega)]);obtain rfl:bb=false:=by rw[HB4.out];unfold Ju;rw[decide_eq_false (by have:=HK.out;omega)];rfl
     obtain rfl:nn=0:=by rw[HN4.out];unfold onum;rw[if_neg (by have:=HK.out;omega)]
     have hx0:=rc0 HX1.out;have hx1:=rc1 HX1.out;have hx2:=rc2 HX1.out;have hx3:=rc3 HX1.out;have hx4:=rc4 HX1.out;have hx5:=rc5 HX1.out;have hx6:=rc6 HX1.out;have hx7:=rc7 HX1.out;clear HS4 HB4 HN4 HP4 HK HSE;go_wp2_with fail;refine HL.out.mono ?_;intro e w6 hpost;obtain⟨hb6,hc⟩:=hpost;obtain⟨gb,x,cs,rfl,hrel,hok,hno⟩:=vres2 hc;have HC:=hid hc;have HB6:=hid (zb HWB.out hb6);have HB7:=hid hb6;have HG6:=hid ((hb6.block _ (z8 HG1.out)).trans HG1.out);have HOK:=hid hok;have HNO:=hid hno;have HREL:=hid hrel;obtain⟨k,S1,b0,n,l1,ln,lc,mo,mn,mc,I0,U0,hcs⟩:=hrel.form;have HCS:=hid hcs;rw[hcs];clear hcs hrel hok hno hb6 hc hx0 hx1 hx2 hx3 hx4 hx5 hx6 hx7;have hg0:=rc0 HG6.out;have fg0:=z7 HG6.out 0;have hg1:=rc1 HG6.out;have fg1:=z7 HG6.out 1;have hg2:=rc2 HG6.out;have fg2:=z7 HG6.out 2;have hg3:=rc3 HG6.out;have fg3:=z7 HG6.out 3;have hg4:=rc4 HG6.out;have fg4:=z7 HG6.out 4;have hg5:=rc5 HG6.out;have fg5:=z7 HG6.out 5;have hg6:=rc6 HG6.out;have fg6:=z7 HG6.out 6;have hg7:=rc7 HG6.out;have fg7:=z7 HG6.out 7;go_wp2_with fail;have hua:=y5 w6 g (.int .i64 k) (.string S1) (.bool b0) (.int .u64 n) (.slice l1 ln lc) (.slice mo mn mc) (.string I0) (.string U0);refine zi rfl rfl (ye (y4 HG6.out _ _ _ _ _ _ _ _) rfl) rfl ?_;refine⟨HB6.out.trans (hua.below (by have:=HB6.out.size;omega) (fun k _ h=>by have h:k=g:=h;have:=HGG.out;omega)),?_⟩
     cases gb with
     | true =>
      rw[HOK.out rfl];refine⟨cs,by rw[HCS.out];rfl,VRel.upd hua (fun k hk h=>by have h:k=g:=h;have:=z8 HG1.out;omega) (fun k hk=>by have:=HWB.out.size;omega) _ _ HREL.out⟩
     | false =>
      obtain⟨⟨c,hc⟩,hz⟩:=HNO.out rfl;rw[hc,<-hz,HCS.out];exact rfl
    ·by_cases hk6:kk=6
     ·subst hk6
      have HL:=hid (zb6 f Pt U (d-1) wr (by have:=HPS.out;have:=HSS.out;omega) (by have:=HDD.out;have:=HD0.out;omega) (hid fun Y d' w' h1 h2=>hrk.out Y d' w' (by have:=HPS.out;omega) h2))
      have HBE:Hid (z5m U.data.toList (yf (zm f) Pt.data.toList (d-1))=RES):=hid (by
       rw[HSE.out,zek HK.out.symm,HUU.out,HP4.out];unfold z11;rw[if_pos (.inr HK.out.symm)])
      rw[HBE.out]at HL;obtain rfl:SB=⟨#[]⟩:=zca (by rw[HS4.out];unfold ostr;rw[if_neg (by have:=HK.out;omega)]);obtain rfl:bb=false:=by rw[HB4.out];unfold Ju;rw[decide_eq_false (by have:=HK.out;omega)];rfl
      obtain rfl:nn=0:=by rw[HN4.out];unfold onum;rw[if_neg (by have:=HK.out;omega)]
      have hx0:=rc0 HX1.out;have hx1:=rc1 HX1.out;have hx2:=rc2 HX1.out;have hx3:=rc3 HX1.out;have hx4:=rc4 HX1.out;have hx5:=rc5 HX1.out;have hx6:=rc6 HX1.out;have hx7:=rc7 HX1.out;clear HS4 HB4 HN4 HP4 HK HSE;go_wp2_with fail;refine HL.out.mono ?_;intro e w6 hpost;obtain⟨hb6,hc⟩:=hpost;obtain⟨gb,x,cs,rfl,hrel,hok,hno⟩:=vres2 hc;have HC:=hid hc;have HB6:=hid (zb HWB.out hb6);have HB7:=hid hb6;have HG6:=hid ((hb6.block _ (z8 HG1.out)).trans HG1.out);have HOK:=hid hok;have HNO:=hid hno;have HREL:=hid hrel;obtain⟨k,S1,b0,n,l1,ln,lc,mo,mn,mc,I0,U0,hcs⟩:=hrel.form;have HCS:=hid hcs;rw[hcs];clear hcs hrel hok hno hb6 hc hx0 hx1 hx2 hx3 hx4 hx5 hx6 hx7;have hg0:=rc0 HG6.out;have fg0:=z7 HG6.out 0;have hg1:=rc1 HG6.out;have fg1:=z7 HG6.out 1;have hg2:=rc2 HG6.out;have fg2:=z7 HG6.out 2;have hg3:=rc3 HG6.out;have fg3:=z7 HG6.out 3;have hg4:=rc4 HG6.out;have fg4:=z7 HG6.out 4;have hg5:=rc5 HG6.out;have fg5:=z7 HG6.out 5;have hg6:=rc6 HG6.out;have fg6:=z7 HG6.out 6;have hg7:=rc7 HG6.out;have fg7:=z7 HG6.out 7;go_wp2_with fail;have hua:=y5 w6 g (.int .i64 k) (.string S1) (.bool b0) (.int .u64 n) (.slice l1 ln lc) (.slice mo mn mc) (.string I0) (.string U0);refine zi rfl rfl (ye (y4 HG6.out _ _ _ _ _ _ _ _) rfl) rfl ?_;refine⟨HB6.out.trans (hua.below (by have:=HB6.out.size;omega) (fun k _ h=>by have h:k=g:=h;have:=HGG.out;omega)),?_⟩
      cases gb with
      | true =>
       rw[HOK.out rfl];refine⟨cs,by rw[HCS.out];rfl,VRel.upd hua (fun k hk h=>by have h:k=g:=h;have:=z8 HG1.out;omega) (fun k hk=>by have:=HWB.out.size;omega) _ _ HREL.out⟩
      | false =>
       obtain⟨⟨c,hc⟩,hz⟩:=HNO.out rfl;rw[hc,<-hz,HCS.out];exact rfl
     ·have HBE:Hid (RES=.ok (.mk (kk:Int) SB.data.toList bb nn [] [] [] U.data.toList)):=hid (by rw[HSE.out,z78 (by have:=HK.out;omega) (by have:=HK.out;omega),HUU.out,<-HS4.out,<-HB4.out,<-HN4.out,<-HK.out])
      have d5:((kk:Int) == 5)=false:=ibf (by omega)
      have d6:((kk:Int) == 6)=false:=ibf (by omega)
      clear hk5 hk6;have hg0:=rc0 HG1.out;have fg0:=z7 HG1.out 0;have hg1:=rc1 HG1.out;have fg1:=z7 HG1.out 1;have hg2:=rc2 HG1.out;have fg2:=z7 HG1.out 2;have hg3:=rc3 HG1.out;have fg3:=z7 HG1.out 3;have hg4:=rc4 HG1.out;have fg4:=z7 HG1.out 4;have hg5:=rc5 HG1.out;have fg5:=z7 HG1.out 5;have hg6:=rc6 HG1.out;have fg6:=z7 HG1.out 6;have hg7:=rc7 HG1.out;have fg7:=z7 HG1.out 7;have hx0:=rc0 HX1.out;have hx1:=rc1 HX1.out;have hx2:=rc2 HX1.out;have hx3:=rc3 HX1.out;have hx4:=rc4 HX1.out;have hx5:=rc5 HX1.out;have hx6:=rc6 HX1.out;have hx7:=rc7 HX1.out;go_wp2_with fail;have hua:=y5 wr g (.int .i64 kk) (.string SB) (.bool bb) (.int .u64 nn) (.slice none 0 0) (.slice none 0 0) (.string ⟨#[]⟩) (.string U);refine zi rfl rfl (ye (y4 HG1.out _ _ _ _ _ _ _ _) rfl) rfl ?_;refine⟨HWB.out.trans (hua.below (by have:=HWB.out.size;omega) (fun k _ h=>by have h:k=g:=h;have:=HGG.out;omega)),?_⟩;rw[HBE.out];exact⟨[.int .i64 kk,strV SB.data.toList,.bool bb,.int .u64 nn,.slice none 0 0,.slice none 0 0,strV [],strV U.data.toList],by unfold strV;simp only[J8];rfl,zee _ _ _ _ _ _ _⟩
theorem Qq:∀(f:Nat) (X:ByteArray) (d:Int) (w:World),X.size<f->X.size<=1000000 -> -9223372036854775808<=d/\d<=9223372036854775807->Calls Tryz.prog 70 #[.string X,.int .i64 d] w (Qo (zn f X.data.toList d) w)/\Calls Tryz.prog 25 #[.string X,.int .i64 d] w (z3a (zm f X.data.toList d) w)
 | 0,X,_,_,h,_,_=>by omega
 | f+1,X,d,w,h,hX,hd=>by
  have HV:=hid (fun (Y:ByteArray) (d':Int) (w':World) (h1:Y.size<X.size) (h2 : -9223372036854775808<=d'/\d'<=9223372036854775807)=>(Qq f Y d' w' (by omega) (by omega) h2).1);have HK:=hid (fun (Y:ByteArray) (d':Int) (w':World) (h1:Y.size<X.size) (h2 : -9223372036854775808<=d'/\d'<=9223372036854775807)=>(Qq f Y d' w' (by omega) (by omega) h2).2);exact⟨z84 f X d w hX hd HV HK,zce f X d w hX hd HV⟩
end Go.Proofs.YtmlghmjjlpioeaaGreatDoor
