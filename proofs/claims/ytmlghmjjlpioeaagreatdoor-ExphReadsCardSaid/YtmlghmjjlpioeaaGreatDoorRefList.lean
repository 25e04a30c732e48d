/-
 hygref8.ReadKey, readList.
-/
import Derived.Test.YtmlghmjjlpioeaaGreatDoorXpRel
set_option maxRecDepth 1000000
set_option maxHeartbeats 16000000
namespace Go.Proofs.YtmlghmjjlpioeaaGreatDoor
open Go.RowKit
open Lib (hid)
def Qo (rd:Except Nat Val)(w:World)(e:Ending)(w':World):Prop:=Below w.heap.size w w'/\match rd with
 | .error _=>e=.returned (.tuple #[.agg Z0,.bool false])
 | .ok x=>∃cs,e=.returned (.tuple #[.agg cs.toArray,.bool true])/\VRel w' (fun k=>w.heap.size<=k) x cs
def z3a (rd:Except Nat KV)(w:World)(e:Ending)(w':World):Prop:=Below w.heap.size w w'/\match rd with
 | .error _=>e=.returned (.tuple #[.agg Jy,.bool false])
 | .ok x=>∃cs,e=.returned (.tuple #[.agg cs.toArray,.bool true])/\KRel w' (fun k=>w.heap.size<=k) x cs
theorem zet {b:Value}{P Q:Prop}(h:b=.bool true/\P∨b=.bool false/\Q):∃bb:Bool,b=.bool bb/\(bb=true->P)/\(bb=false->Q):=by
 rcases h with ⟨h1,h2⟩|⟨h1,h2⟩
 ·exact⟨true,h1,fun _=>h2,fun h=>by cases h⟩
 ·exact⟨false,h1,(fun h=>by cases h),fun _=>h2⟩
theorem z03 (f:Nat)(l:List UInt8)(d:Int):zm (f+1) l d=match y8 l d with
  | .error c => .error c
  | .ok rs=>match zg ktk yl ([],[]) rs with
   | .error c => .error c
   | .ok st=>if st.2=[]then .ok (.mk st.1 false .zero (munk ktk rs))else match zn f st.2.flatten (d-1)with
    | .error c => .error c
    | .ok v => .ok (.mk st.1 true v (munk ktk rs)):=by
 rw[zm];unfold zq y8
 by_cases h:d<0
 ·rw[if_pos h,if_pos h]
 ·rw[if_neg h,if_neg h]
  cases wall l d with
  | error c=>rfl
  | ok rs =>
   dsimp only
   cases zg ktk yl ([],[]) rs<;>rfl
theorem Y8 {σ:Type}{tk:Rec->Bool}{step:σ->Rec->Except Nat σ}{st y:σ}{rs:List Rec}{r:Rec}(h:zg tk step st rs=.ok y)(ht:tk r=false):zg tk step st (rs++[r])=.ok y:=by
 rw[yr,h]
 simp[zg,ht]
theorem kq {σ:Type}{tk:Rec->Bool}{step:σ->Rec->Except Nat σ}{st y:σ}{rs:List Rec}{r:Rec}(h:zg tk step st rs=.ok y)(ht:tk r=true):zg tk step st (rs++[r])=step y r:=by
 rw[yr,h]
 simp only[zg,ht,if_true]
 cases step y r<;>rfl
theorem Yx {tk:Rec->Bool}{rs:List Rec}{r:Rec}(ht:tk r=false):munk tk (rs++[r])=munk tk rs++r.raw:=by
 unfold munk q7
 simp[List.filter_append,ht]
theorem Ya {tk:Rec->Bool}{rs:List Rec}{r:Rec}(ht:tk r=true):munk tk (rs++[r])=munk tk rs:=by
 unfold munk q7
 simp[List.filter_append,ht]
theorem k8 {σ:Type}{tk:Rec->Bool}{step:σ->Rec->Except Nat σ}{st:σ}{rs:List Rec}{j c:Nat}(h:zg tk step st (rs.take j)=.error c):zg tk step st rs=.error c:=by
 conv=>lhs;rw[<-List.take_append_drop j rs]
 rw[yr,h]
theorem z7i {w:World}{g:Nat}{T:TypeId}{a0 a1 a2 a3 a4 a5 a6 a7 a8 a9 a10:Value}(h:w.heap[g]?=some (.cells #[a0,a1,a2,a3,a4,a5,a6,a7,a8,a9,a10] T (0,0)))(c2 c3 c4 c5 c6 c7 c8 c9:Value) :
  (((((((((w).setCell ⟨g,2,none⟩ c2).setCell ⟨g,3,none⟩ c3).setCell ⟨g,4,none⟩ c4).setCell ⟨g,5,none⟩ c5).setCell ⟨g,6,none⟩ c6).setCell ⟨g,7,none⟩ c7).setCell ⟨g,8,none⟩ c8).setCell ⟨g,9,none⟩ c9).heap[g]?=some (.cells #[a0,a1,c2,c3,c4,c5,c6,c7,c8,c9,a10] T (0,0)):=by
 have h0:((w).setCell ⟨g,2,none⟩ c2).heap[g]?=some (.cells #[a0,a1,c2,a3,a4,a5,a6,a7,a8,a9,a10] T (0,0)):=ze h 2 c2;have h1:(((w).setCell ⟨g,2,none⟩ c2).setCell ⟨g,3,none⟩ c3).heap[g]?=some (.cells #[a0,a1,c2,c3,a4,a5,a6,a7,a8,a9,a10] T (0,0)):=ze h0 3 c3;have h2:((((w).setCell ⟨g,2,none⟩ c2).setCell ⟨g,3,none⟩ c3).setCell ⟨g,4,none⟩ c4).heap[g]?=some (.cells #[a0,a1,c2,c3,c4,a5,a6,a7,a8,a9,a10] T (0,0)):=ze h1 4 c4;have h3:(((((w).setCell ⟨g,2,none⟩ c2).setCell ⟨g,3,none⟩ c3).setCell ⟨g,4,none⟩ c4).setCell ⟨g,5,none⟩ c5).heap[g]?=some (.cells #[a0,a1,c2,c3,c4,c5,a6,a7,a8,a9,a10] T (0,0)):=ze h2 5 c5;have h4:((((((w).setCell ⟨g,2,none⟩ c2).setCell ⟨g,3,none⟩ c3).setCell ⟨g,4,none⟩ c4).setCell ⟨g,5,none⟩ c5).setCell ⟨g,6,none⟩ c6).heap[g]?=some (.cells #[a0,a1,c2,c3,c4,c5,c6,a7,a8,a9,a10] T (0,0)):=ze h3 6 c6;have h5:(((((((w).setCell ⟨g,2,none⟩ c2).setCell ⟨g,3,none⟩ c3).setCell ⟨g,4,none⟩ c4).setCell ⟨g,5,none⟩ c5).setCell ⟨g,6,none⟩ c6).setCell ⟨g,7,none⟩ c7).heap[g]?=some (.cells #[a0,a1,c2,c3,c4,c5,c6,c7,a8,a9,a10] T (0,0)):=ze h4 7 c7;have h6:((((((((w).setCell ⟨g,2,none⟩ c2).setCell ⟨g,3,none⟩ c3).setCell ⟨g,4,none⟩ c4).setCell ⟨g,5,none⟩ c5).setCell ⟨g,6,none⟩ c6).setCell ⟨g,7,none⟩ c7).setCell ⟨g,8,none⟩ c8).heap[g]?=some (.cells #[a0,a1,c2,c3,c4,c5,c6,c7,c8,a9,a10] T (0,0)):=ze h5 8 c8;have h7:(((((((((w).setCell ⟨g,2,none⟩ c2).setCell ⟨g,3,none⟩ c3).setCell ⟨g,4,none⟩ c4).setCell ⟨g,5,none⟩ c5).setCell ⟨g,6,none⟩ c6).setCell ⟨g,7,none⟩ c7).setCell ⟨g,8,none⟩ c8).setCell ⟨g,9,none⟩ c9).heap[g]?=some (.cells #[a0,a1,c2,c3,c4,c5,c6,c7,c8,c9,a10] T (0,0)):=ze h6 9 c9;exact h7
theorem z0v (w:World)(g:Nat)(c2 c3 c4 c5 c6 c7 c8 c9:Value):Upd (fun k=>k=g) w ((((((((w.setCell ⟨g,2,none⟩ c2).setCell ⟨g,3,none⟩ c3).setCell ⟨g,4,none⟩ c4).setCell ⟨g,5,none⟩ c5).setCell ⟨g,6,none⟩ c6).setCell ⟨g,7,none⟩ c7).setCell ⟨g,8,none⟩ c8).setCell ⟨g,9,none⟩ c9):=by
 have u0:=Upd.set w ⟨g,2,none⟩ c2;have u1:Upd (fun k=>k=g) w ((w.setCell ⟨g,2,none⟩ c2).setCell ⟨g,3,none⟩ c3):=Upd.trans u0 (Upd.set (w.setCell ⟨g,2,none⟩ c2) ⟨g,3,none⟩ c3);have u2:Upd (fun k=>k=g) w (((w.setCell ⟨g,2,none⟩ c2).setCell ⟨g,3,none⟩ c3).setCell ⟨g,4,none⟩ c4):=Upd.trans u1 (Upd.set ((w.setCell ⟨g,2,none⟩ c2).setCell ⟨g,3,none⟩ c3) ⟨g,4,none⟩ c4);have u3:Upd (fun k=>k=g) w ((((w.setCell ⟨g,2,none⟩ c2).setCell ⟨g,3,none⟩ c3).setCell ⟨g,4,none⟩ c4).setCell ⟨g,5,none⟩ c5):=Upd.trans u2 (Upd.set (((w.setCell ⟨g,2,none⟩ c2).setCell ⟨g,3,none⟩ c3).setCell ⟨g,4,none⟩ c4) ⟨g,5,none⟩ c5);have u4:Upd (fun k=>k=g) w (((((w.setCell ⟨g,2,none⟩ c2).setCell ⟨g,3,none⟩ c3).setCell ⟨g,4,none⟩ c4).setCell ⟨g,5,none⟩ c5).setCell ⟨g,6,none⟩ c6):=Upd.trans u3 (Upd.set ((((w.setCell ⟨g,2,none⟩ c2).setCell ⟨g,3,none⟩ c3).setCell ⟨g,4,none⟩ c4).setCell ⟨g,5,none⟩ c5) ⟨g,6,none⟩ c6);have u5:Upd (fun k=>k=g) w ((((((w.setCell ⟨g,2,none⟩ c2).setCell ⟨g,3,none⟩ c3).setCell ⟨g,4,none⟩ c4).setCell ⟨g,5,none⟩ c5).setCell ⟨g,6,none⟩ c6).setCell ⟨g,7,none⟩ c7):=Upd.trans u4 (Upd.set (((((w.setCell ⟨g,2,none⟩ c2).setCell ⟨g,3,none⟩ c3).setCell ⟨g,4,none⟩ c4).setCell ⟨g,5,none⟩ c5).setCell ⟨g,6,none⟩ c6) ⟨g,7,none⟩ c7);have u6:Upd (fun k=>k=g) w (((((((w.setCell ⟨g,2,none⟩ c2).setCell ⟨g,3,none⟩ c3).setCell ⟨g,4,none⟩ c4).setCell ⟨g,5,none⟩ c5).setCell ⟨g,6,none⟩ c6).setCell ⟨g,7,none⟩ c7).setCell ⟨g,8,none⟩ c8):=Upd.trans u5 (Upd.set ((((((w.setCell ⟨g,2,none⟩ c2).setCell ⟨g,3,none⟩ c3).setCell ⟨g,4,none⟩ c4).setCell ⟨g,5,none⟩ c5).setCell ⟨g,6,none⟩ c6).setCell ⟨g,7,none⟩ c7) ⟨g,8,none⟩ c8);have u7:Upd (fun k=>k=g) w ((((((((w.setCell ⟨g,2,none⟩ c2).setCell ⟨g,3,none⟩ c3).setCell ⟨g,4,none⟩ c4).setCell ⟨g,5,none⟩ c5).setCell ⟨g,6,none⟩ c6).setCell ⟨g,7,none⟩ c7).setCell ⟨g,8,none⟩ c8).setCell ⟨g,9,none⟩ c9):=Upd.trans u6 (Upd.set (((((((w.setCell ⟨g,2,none⟩ c2).setCell ⟨g,3,none⟩ c3).setCell ⟨g,4,none⟩ c4).setCell ⟨g,5,none⟩ c5).setCell ⟨g,6,none⟩ c6).setCell ⟨g,7,none⟩ c7).setCell ⟨g,8,none⟩ c8) ⟨g,9,none⟩ c9);exact u7
theorem zce (f:Nat) (X:ByteArray) (d:Int) (w:World) (hX:X.size<=1000000) (hd : -9223372036854775808<=d/\d<=9223372036854775807)
  (hrv:Hid (∀(Y:ByteArray) (d':Int) w',Y.size<X.size -> -9223372036854775808<=d'/\d'<=9223372036854775807->Calls Tryz.prog 70 #[.string Y,.int .i64 d'] w' (Qo (zn f Y.data.toList d') w'))) :
  Calls Tryz.prog 25 #[.string X,.int .i64 d] w (z3a (zm (f+1) X.data.toList d) w):=by
 obtain⟨g,hg⟩:=nmd (w.heap.size)
 obtain⟨W0,hW0⟩:=nmd (w.alloc (.cells #[.string ⟨#[]⟩,.bool false,.int .i64 0,.string ⟨#[]⟩,.bool false,.int .u64 0,.slice none 0 0,.slice none 0 0,.string ⟨#[]⟩,.string ⟨#[]⟩,.string ⟨#[]⟩] 55))
 have HB0:Hid (Below w.heap.size w W0):=hid (by rw[<-hW0];exact zd _ _);have HR0:Hid (W0.heap[g]?=some (.cells #[.string ⟨#[]⟩,.bool false,.int .i64 0,.string ⟨#[]⟩,.bool false,.int .u64 0,.slice none 0 0,.slice none 0 0,.string ⟨#[]⟩,.string ⟨#[]⟩,.string ⟨#[]⟩] 55 (0,0))):=hid (by rw[<-hW0,<-hg];exact heap_alloc_new w _);have HF:=hid (kx X d W0 (by omega) hd.2);have HW0:=hid hW0;have HGG:=hid hg;clear hW0
 cases hw:y8 X.data.toList d with
 | error c =>
  have HBR:Hid (zm (f+1) X.data.toList d=.error c):=hid (by rw[z03,hw]);have HW:=hid hw;clear hw hd hX;go_enter Tryz.func25,Tryz.ntmps25;go_wp2_with fail;rw[HW0.out];refine HF.out.mono ?_;intro e w1 hpost;unfold xe at hpost
  rw[HW.out]at hpost;obtain⟨hb1,rfl⟩:=hpost;have HB1:=hid (zb HB0.out hb1);have HR1:=hid ((hb1.block _ (z8 HR0.out)).trans HR0.out);clear hb1;go_wp2_with fail;obtain⟨W2,hW2⟩:=nmd (w1.alloc (.cells #[.string ⟨#[]⟩,.bool false,.int .i64 0,.string ⟨#[]⟩,.bool false,.int .u64 0,.slice none 0 0,.slice none 0 0,.string ⟨#[]⟩,.string ⟨#[]⟩,.string ⟨#[]⟩] 55))
  have HB2:Hid (Below w.heap.size w W2):=hid (by rw[<-hW2];exact zb HB1.out (zd _ _));have HR2:Hid (W2.heap[g]?=some (.cells #[.string ⟨#[]⟩,.bool false,.int .i64 0,.string ⟨#[]⟩,.bool false,.int .u64 0,.slice none 0 0,.slice none 0 0,.string ⟨#[]⟩,.string ⟨#[]⟩,.string ⟨#[]⟩] 55 (0,0))):=hid (by rw[<-hW2];exact(Below.heap_alloc _ _ _ (z8 HR1.out)).trans HR1.out);rw[hW2];clear hW2;have hg0:=rc0 HR2.out;have fg0:=z7 HR2.out 0;have hg1:=rc1 HR2.out;have fg1:=z7 HR2.out 1;have hg2:=rc2 HR2.out;have fg2:=z7 HR2.out 2;have hg3:=rc3 HR2.out;have fg3:=z7 HR2.out 3;have hg4:=rc4 HR2.out;have fg4:=z7 HR2.out 4;have hg5:=rc5 HR2.out;have fg5:=z7 HR2.out 5;have hg6:=rc6 HR2.out;have fg6:=z7 HR2.out 6;have hg7:=rc7 HR2.out;have fg7:=z7 HR2.out 7;have hg8:=rc8 HR2.out;have fg8:=z7 HR2.out 8;have hg9:=rc9 HR2.out;have fg9:=z7 HR2.out 9;have hg10:=rc10 HR2.out;have fg10:=z7 HR2.out 10
  go_loopg [7,10] 0 (fun k b i wr=>b=.bool false/\i=.int .i64 0/\wr=W2)
  case atStart=>exact⟨rfl,rfl,rfl⟩
  case round =>
   obtain⟨rfl,rfl,rfl⟩:=hrel;go_wp2_with fail;have hua:=q8 wr g (.string ⟨#[]⟩) (.bool false) (.int .i64 0) (.string ⟨#[]⟩) (.bool false) (.int .u64 0) (.slice none 0 0) (.slice none 0 0) (.string ⟨#[]⟩) (.string ⟨#[]⟩) (.string ⟨#[]⟩);refine zi rfl rfl (ku (jy HR2.out _ _ _ _ _ _ _ _ _ _ _) rfl) rfl ?_;refine⟨HB2.out.trans (hua.below (by have:=HB2.out.size;omega) (fun k _ h=>by have h:k=g:=h;have:=HGG.out;omega)),?_⟩;rw[HBR.out];exact rfl
 | ok rs =>
  have HBR:Hid (zm (f+1) X.data.toList d=match zg ktk yl ([],[]) rs with | .error c => .error c | .ok st=>if st.2=[]then .ok (.mk st.1 false .zero (munk ktk rs))else match zn f st.2.flatten (d-1)with | .error c => .error c | .ok v => .ok (.mk st.1 true v (munk ktk rs))):=hid (by rw[z03,hw]);have HD0:Hid (0<=d):=hid (by unfold y8 at hw;split at hw;cases hw;omega);have HWA:Hid (wall X.data.toList d=.ok rs):=hid (by unfold y8 at hw;split at hw;cases hw;exact hw);have HLL:Hid (rs.length<=X.size):=hid (by have:=kd HWA.out;simpa using this);have HRAW:Hid (rs.flatMap Rec.raw=X.data.toList):=hid (xh _ (Nat.le_refl _) HWA.out).1;have HREC:Hid (∀r∈rs,zt d r):=hid (xp _ (Nat.le_refl _) HWA.out);have HW:=hid hw;have HSS:=hid hX;have HDD:=hid hd;clear hw hd hX;go_enter Tryz.func25,Tryz.ntmps25;go_wp2_with fail;rw[HW0.out];refine HF.out.mono ?_;intro e w1 hpost;unfold xe at hpost
  rw[HW.out]at hpost;obtain⟨hb1,u,rfl,hown⟩:=hpost;obtain⟨lo,lcap,rfl⟩:=zh hown;have HB1:=hid (zb HB0.out hb1);have HO1:=hid hown;have HR1:=hid ((hb1.block _ (z8 HR0.out)).trans HR0.out);clear hb1 hown;go_wp2_with fail;obtain⟨bx,hbx⟩:=nmd (w1.heap.size)
  obtain⟨W2,hW2⟩:=nmd (w1.alloc (.cells #[.string ⟨#[]⟩,.bool false,.int .i64 0,.string ⟨#[]⟩,.bool false,.int .u64 0,.slice none 0 0,.slice none 0 0,.string ⟨#[]⟩,.string ⟨#[]⟩,.string ⟨#[]⟩] 55))
  have HB2:Hid (Below bx w1 W2):=hid (by rw[<-hW2,<-hbx];exact zd _ _);have HX2:Hid (W2.heap[bx]?=some (.cells #[.string ⟨#[]⟩,.bool false,.int .i64 0,.string ⟨#[]⟩,.bool false,.int .u64 0,.slice none 0 0,.slice none 0 0,.string ⟨#[]⟩,.string ⟨#[]⟩,.string ⟨#[]⟩] 55 (0,0))):=hid (by rw[<-hW2,<-hbx];exact heap_alloc_new w1 _);rw[hW2,hbx];have HBX:=hid hbx;clear hW2 hbx
  go_loopg [7,9,10] rs.length (fun k b pv i wr=>∃(j:Nat) (K U Pt:ByteArray) (h:Bool),i=.int .i64 j/\j+k=rs.length/\pv=.string Pt/\Below bx w1 wr/\wr.heap[bx]?=some (.cells #[.string K,.bool h,.int .i64 0,.string ⟨#[]⟩,.bool false,.int .u64 0,.slice none 0 0,.slice none 0 0,.string ⟨#[]⟩,.string ⟨#[]⟩,.string U] 55 (0,0))/\Hid (U.size+Pt.size<=((rs.take j).flatMap Rec.raw).length)/\(b=.bool true/\Hid (∃st,zg ktk yl ([],[]) (rs.take j)=.ok st/\K.data.toList=st.1/\h=!decide (st.2=[])/\Pt.data.toList=st.2.flatten/\U.data.toList=munk ktk (rs.take j))∨b=.bool false/\∃c,zg ktk yl ([],[]) rs=.error c))
  case atStart=>exact⟨0,⟨#[]⟩,⟨#[]⟩,⟨#[]⟩,false,rfl,by omega,rfl,HB2.out,HX2.out,hid (by simp[ByteArray.size]),.inl ⟨rfl,hid ⟨([],[]),rfl,rfl,rfl,rfl,rfl⟩⟩⟩
  case round =>
   obtain⟨j,K,U,Pt,h,rfl,hj,rfl,hbr,hx,HSZ,hcase⟩:=hrel;have HBR1:=hid hbr;have HX1:=hid hx;have HJ:=hid hj;have hjl:j<=1000000:=by have:=HLL.out;have:=HSS.out;omega
   have HG1:=hid ((hbr.block _ (by have:=z8 HR1.out;rw[HBX.out]at this;exact this)).trans HR1.out);have HWB:Hid (Below w.heap.size w wr):=hid (HB1.out.trans (hbr.mono (by have:=HB1.out.size;rw[HBX.out]at this;exact this)));have hgx:g≠bx:=by have:=z8 HR1.out;have:=HBX.out;omega
   clear hbr hx hj
   by_cases hlt:j<rs.length
   ·obtain⟨bb,rfl,hst,hse⟩:=zet hcase
    have HST:=hid (fun e=>(hst e).out);have HSE:=hid hse;clear hcase hst hse;have HO:=hid (y6 HO1.out (by rw[HBX.out];exact HBR1.out));obtain⟨gr,cg,hv,hg1,hg2,_,_⟩:=yj HO.out (by omega)
    simp only[Value.slice.injEq]at hv
    obtain⟨rfl,_,rfl⟩:=hv;obtain⟨r,HRJ⟩:∃r,Hid (rs[j]=r):=⟨_,hid rfl⟩
    have hr0:wr.cell? ⟨gr,j*5,none⟩=some (.int .i64 r.num):=by rw[HO.out.cellAt (j*5) (by omega),show j*5=5*j+0 by omega,y0 hlt (by omega),HRJ.out];rfl
    have hr1:wr.cell? ⟨gr,j*5+1,none⟩=some (.int .i64 r.ty):=by rw[HO.out.cellAt (j*5+1) (by omega),show j*5+1=5*j+1 by omega,y0 hlt (by omega),HRJ.out];rfl
    have hr2:wr.cell? ⟨gr,j*5+2,none⟩=some (.int .u64 r.n):=by rw[HO.out.cellAt (j*5+2) (by omega),show j*5+2=5*j+2 by omega,y0 hlt (by omega),HRJ.out];rfl
    have hr3:wr.cell? ⟨gr,j*5+3,none⟩=some (.string ⟨r.s.toArray⟩):=by rw[HO.out.cellAt (j*5+3) (by omega),show j*5+3=5*j+3 by omega,y0 hlt (by omega),HRJ.out];rfl
    have hr4:wr.cell? ⟨gr,j*5+4,none⟩=some (.string ⟨r.raw.toArray⟩):=by rw[HO.out.cellAt (j*5+4) (by omega),show j*5+4=5*j+4 by omega,y0 hlt (by omega),HRJ.out];rfl
    have HTK:Hid (rs.take (j+1)=rs.take j++[r]):=hid (by rw[List.take_succ_eq_append_getElem hlt,HRJ.out]);have HRR:Hid (zt d r):=hid (HREC.out r (HRJ.out ▸ List.getElem_mem hlt))
    have HSUM:Hid (U.size+Pt.size+r.raw.length<=((rs.take (j+1)).flatMap Rec.raw).length/\((rs.take (j+1)).flatMap Rec.raw).length<=X.size/\r.s.length<=r.raw.length):=hid (by
     have h1:=jr HRAW.out (j+1);have h2:=HSZ.out;have h5:X.data.toList.length=X.size:=by simp
     have h6:=q5 HRR.out;rw[HTK.out,List.flatMap_append,List.length_append]at h1 ⊢;have h4:([r].flatMap Rec.raw).length=r.raw.length:=by simp
     omega)
    go_wp2_with fail;obtain⟨rb,hrb⟩:=nmd (wr.heap.size)
    obtain⟨W3,hW3⟩:=nmd (wr.alloc (.cells #[.int .i64 r.num,.int .i64 r.ty,.int .u64 r.n,.string ⟨r.s.toArray⟩,.string ⟨r.raw.toArray⟩] 88))
    have HB3:Hid (Below wr.heap.size wr W3):=hid (by rw[<-hW3];exact zd _ _);have HR3:Hid (W3.heap[rb]?=some (.cells #[.int .i64 r.num,.int .i64 r.ty,.int .u64 r.n,.string ⟨r.s.toArray⟩,.string ⟨r.raw.toArray⟩] 88 (0,0))):=hid (by rw[<-hW3,<-hrb];exact heap_alloc_new wr _);rw[hW3,hrb];clear hW3;obtain⟨D,hD⟩:=nmd (W3.drew)
    have HBD:Hid (Below wr.heap.size wr D):=hid (by rw[<-hD];exact HB3.out.drew);have HRD:Hid (D.heap[rb]?=some (.cells #[.int .i64 r.num,.int .i64 r.ty,.int .u64 r.n,.string ⟨r.s.toArray⟩,.string ⟨r.raw.toArray⟩] 88 (0,0))):=hid (by rw[<-hD];exact HR3.out);have hne:Nonempty {w':World // w'.heap[rb]?=some (.cells #[.int .i64 r.num,.int .i64 r.ty,.int .u64 r.n,.string ⟨r.s.toArray⟩,.string ⟨r.raw.toArray⟩] 88 (0,0))}:=⟨⟨_,HRD.out⟩⟩
    refine zj (S:=fun w'=>w'.heap[rb]?=some (.cells #[.int .i64 r.num,.int .i64 r.ty,.int .u64 r.n,.string ⟨r.s.toArray⟩,.string ⟨r.raw.toArray⟩] 88 (0,0))) [(1,true),(0,false),(2,false),(3,true),(4,true)] (by kernel_rfl) (by kernel_rfl) (by kernel_rfl) (by kernel_rfl) (by rw[hD];exact HRD.out) ?_;rw[hD];clear hD hr0 hr1 hr2 hr3 hr4;refine zf _ rfl (fun K2 hK=>?_);go_simp;refine⟨.agg #[.int .i64 r.num,.int .i64 r.ty,.int .u64 r.n,.string ⟨r.s.toArray⟩,.string ⟨r.raw.toArray⟩],fun a ha=>by(have e0:=rc0 ha);(have e1:=rc1 ha);(have e2:=rc2 ha);(have e3:a.cell? ⟨rb,3,none⟩=some (.string ⟨r.s.toArray⟩):=za ha (j:=3) rfl);(have e4:a.cell? ⟨rb,4,none⟩=some (.string ⟨r.raw.toArray⟩):=za ha (j:=4) rfl);simp only[e0,e1,e2,e3,e4,Result.andThen],hK _ ?_⟩;clear hK K2;refine zo _ rfl (fun K2 hK=>?_);go_simp;refine(zfx D).mono ?_;rintro e w4 ⟨to,rfl,HNT,hb4⟩;have HB4:=hid (zb HBD.out hb4);have HR4:=hid ((hb4.block _ (z8 HRD.out)).trans HRD.out);go_simp;refine hK.out _ _ HR4.out ?_;clear hK K2 hb4;refine zo _ rfl (fun K2 hK=>?_);go_simp;refine(kz [10,18] to 2 r w4 HNT (by decide) (by decide)).mono ?_;rintro e w5 ⟨rfl,hb5⟩;rw[<-ktk_rtk];have HB5:=hid (zb HB4.out hb5);have HR5:=hid ((hb5.block _ (z8 HR4.out)).trans HR4.out);go_simp;refine hK.out _ _ HR5.out ?_;clear hK K2 hb5
    iterate 2 (refine zf _ rfl (fun K2 hK=>?_);go_simp;(first|refine hK _ ?_|refine⟨_,fun _ _=>rfl,hK _ ?_⟩);clear hK K2)
    refine zw ?_;have HX5:=hid ((HB5.out.block _ (z8 HX1.out)).trans HX1.out);have HBR5:Hid (Below bx w1 w5):=hid (HBR1.out.trans (HB5.out.mono (by have:=z8 HX1.out;omega)));have hxb:=z8 HX5.out;obtain⟨S,hS⟩:∃S:ByteArray,(⟨r.s.toArray⟩:ByteArray)=S:=⟨_,rfl⟩
    obtain⟨R,hR⟩:∃S:ByteArray,(⟨r.raw.toArray⟩:ByteArray)=S:=⟨_,rfl⟩
    have HSD:Hid (S.data.toList=r.s):=hid (by rw[<-hS]);have HRD2:Hid (R.data.toList=r.raw):=hid (by rw[<-hR]);rw[hS,hR]at HR5 ⊢;clear hS hR hne;have hSz:S.size=r.s.length:=by rw[<-HSD.out];simp
    have hRz:R.size=r.raw.length:=by rw[<-HRD2.out];simp
    have hsum:=HSUM.out;have hss:=HSS.out
    cases htk:ktk r with
    | false =>
     have HTN:=hid htk;have hsz:¬9223372036854775807<U.size+R.size:=by omega
     have hx10:=rc10 HX5.out;have hxf:=z7 HX5.out 10;have hr4:=rc4 HR5.out;clear htk;go_wp2_with fail;have hj:=HJ.out;have hu:=Upd.set w5 ⟨bx,10,none⟩ (.string (U++R))
     go_roundg (gk-1)
     case measure=>omega
     case rel =>
      refine⟨j+1,K,U++R,Pt,h,by simp,by omega,rfl,HBR5.out.trans (hu.below (by omega) (fun k _ h=>by have h:k=bx:=h;omega)),ze HX5.out 10 _,hid (by rw[ByteArray.size_append];omega),?_⟩
      cases bb with
      | true =>
       obtain⟨st,g1,g2,g3,g4,g5⟩:=HST.out (by first|rfl|trivial);exact .inl ⟨rfl,hid ⟨st,by rw[HTK.out];exact Y8 g1 HTN.out,g2,g3,g4,by rw[HTK.out,Yx HTN.out,ByteArray.data_append,Array.toList_append,g5,HRD2.out]⟩⟩
      | false=>exact .inr ⟨rfl,HSE.out (by first|rfl|trivial)⟩
    | true =>
     have HTN:=hid htk;have HMU:Hid (munk ktk (rs.take (j+1))=munk ktk (rs.take j)):=hid (by rw[HTK.out,Ya HTN.out]);have hr0:=rc0 HR5.out;have hr3:=rc3 HR5.out
     by_cases hn:r.num=1
     ·have d1:((r.num:Int) == 1)=true:=by rw[beq_iff_eq];omega
      have HN1:=hid hn;have hx0:=rc0 HX5.out;have hxf:=z7 HX5.out 0;have hu:=Upd.set w5 ⟨bx,0,none⟩ (.string S);have HROW:=hid (ze HX5.out 0 (.string S));have HBEL:=hid (HBR5.out.trans (hu.below (by omega) (fun k _ h=>by have h:k=bx:=h;omega)));have HSZ2:Hid (U.size+Pt.size<=((rs.take (j+1)).flatMap Rec.raw).length):=hid (by omega);have hS9:S.size<=1000000:=by omega
      clear htk hn hu
      cases bb with
      | false =>
       go_wp2_with fail;have hj:=HJ.out
       go_roundg (gk-1)
       case measure=>omega
       case rel=>exact⟨j+1,S,U,Pt,h,by simp,by omega,rfl,HBEL.out,HROW.out,HSZ2,.inr ⟨rfl,HSE.out (by first|rfl|trivial)⟩⟩
      | true =>
       have HTX:=hid (fun w'=>z0g S w' hS9);go_wp2_with fail;refine(HTX.out _).mono ?_;rintro e w' ⟨rfl,rfl⟩;rw[HSD.out];obtain⟨st,g1,g2,g3,g4,g5⟩:=HST.out (by first|rfl|trivial);have HMY:Hid (zg ktk yl ([],[]) (rs.take (j+1))=yl st r):=hid (by rw[HTK.out];exact kq g1 HTN.out);have HG3:=hid g3;have HG4:=hid g4;have HG5:=hid g5;clear g1 g2 g3 g4 g5
       cases hv:xb r.s with
       | true =>
        have HK1:Hid (yl st r=.ok (r.s,st.2)):=hid (by unfold yl;rw[if_pos HN1.out,if_pos hv]);clear hv;go_wp2_with fail;have hj:=HJ.out
        go_roundg (gk-1)
        case measure=>omega
        case rel=>exact⟨j+1,S,U,Pt,h,by simp,by omega,rfl,HBEL.out,HROW.out,HSZ2,.inl ⟨rfl,hid ⟨(r.s,st.2),by rw[HMY.out,HK1.out],HSD.out,HG3.out,HG4.out,by rw[HMU.out];exact HG5.out⟩⟩⟩
       | false =>
        have HK1:Hid (yl st r=.error 5):=hid (by unfold yl;rw[if_pos HN1.out,if_neg (by rw[hv];simp)]);clear hv;go_wp2_with fail;have hj:=HJ.out
        go_roundg (gk-1)
        case measure=>omega
        case rel=>exact⟨j+1,S,U,Pt,h,by simp,by omega,rfl,HBEL.out,HROW.out,HSZ2,.inr ⟨rfl,5,k8 (j:=j+1) (by rw[HMY.out,HK1.out])⟩⟩
     ·have d1:((r.num:Int) == 1)=false:=ibf (by omega)
      have HN1:=hid hn;have hsz:¬9223372036854775807<Pt.size+S.size:=by omega
      have hx1:=rc1 HX5.out;have hxf:=z7 HX5.out 1;clear htk hn;go_wp2_with fail;have hj:=HJ.out;have hu:=Upd.set w5 ⟨bx,1,none⟩ (.bool true)
      go_roundg (gk-1)
      case measure=>omega
      case rel =>
       refine⟨j+1,K,U,Pt++S,true,by simp,by omega,rfl,HBR5.out.trans (hu.below (by omega) (fun k _ h=>by have h:k=bx:=h;omega)),ze HX5.out 1 _,hid (by rw[ByteArray.size_append];omega),?_⟩
       cases bb with
       | true =>
        obtain⟨st,g1,g2,g3,g4,g5⟩:=HST.out (by first|rfl|trivial);exact .inl ⟨rfl,hid ⟨(st.1,st.2++[r.s]),by rw[HTK.out,kq g1 HTN.out];unfold yl;rw[if_neg HN1.out],g2,by simp,by rw[ByteArray.data_append,Array.toList_append,g4,HSD.out];simp,by rw[HMU.out];exact g5⟩⟩
       | false=>exact .inr ⟨rfl,HSE.out (by first|rfl|trivial)⟩
   ·have hjn:j=rs.length:=by have:=HJ.out;omega
    have hg0:=rc0 HG1.out;have fg0:=z7 HG1.out 0;have hg1:=rc1 HG1.out;have fg1:=z7 HG1.out 1;have hg2:=rc2 HG1.out;have fg2:=z7 HG1.out 2;have hg3:=rc3 HG1.out;have fg3:=z7 HG1.out 3;have hg4:=rc4 HG1.out;have fg4:=z7 HG1.out 4;have hg5:=rc5 HG1.out;have fg5:=z7 HG1.out 5;have hg6:=rc6 HG1.out;have fg6:=z7 HG1.out 6;have hg7:=rc7 HG1.out;have fg7:=z7 HG1.out 7;have hg8:=rc8 HG1.out;have fg8:=z7 HG1.out 8;have hg9:=rc9 HG1.out;have fg9:=z7 HG1.out 9;have hg10:=rc10 HG1.out;have fg10:=z7 HG1.out 10
    rcases hcase with ⟨rfl,hst⟩|⟨rfl,c,hm⟩
    case inr =>
     have HBE:Hid (zm (f+1) X.data.toList d=.error c):=hid (by rw[HBR.out,hm]);clear hm hjn;go_wp2_with fail;have hua:=q8 wr g (.string ⟨#[]⟩) (.bool false) (.int .i64 0) (.string ⟨#[]⟩) (.bool false) (.int .u64 0) (.slice none 0 0) (.slice none 0 0) (.string ⟨#[]⟩) (.string ⟨#[]⟩) (.string ⟨#[]⟩);refine zi rfl rfl (ku (jy HG1.out _ _ _ _ _ _ _ _ _ _ _) rfl) rfl ?_;refine⟨HWB.out.trans (hua.below (by have:=HWB.out.size;omega) (fun k _ h=>by have h:k=g:=h;have:=HGG.out;omega)),?_⟩;rw[HBE.out];exact rfl
    obtain⟨st,hm,hK,hh,hP,hU⟩:=hst.out;rw[hjn,List.take_length]at hm hU;have HKK:Hid (strV st.1=.string K):=hid (by unfold strV;rw[<-hK,J8]);have HUU:Hid (strV (munk ktk rs)=.string U):=hid (by unfold strV;rw[<-hU,J8]);have hxr:X.data.toList.length=X.size:=by simp
    have hkl:=Xl rs HREC.out hm;rw[HRAW.out]at hkl;dsimp only[List.flatten_nil,List.length_nil]at hkl;have hPs:Pt.size=st.2.flatten.length:=by rw[<-hP];simp
    by_cases hn:st.2=[]
    ·have hh2:h=false:=by rw[hh,hn];rfl
     subst hh2;have HBE:Hid (zm (f+1) X.data.toList d=.ok (.mk st.1 false .zero (munk ktk rs))):=hid (by rw[HBR.out,hm];dsimp only;rw[if_pos hn]);clear hm hK hh hP hU hn hkl hjn hst;have hx0:=rc0 HX1.out;have fx0:=z7 HX1.out 0;have hx1:=rc1 HX1.out;have fx1:=z7 HX1.out 1;have hx2:=rc2 HX1.out;have fx2:=z7 HX1.out 2;have hx3:=rc3 HX1.out;have fx3:=z7 HX1.out 3;have hx4:=rc4 HX1.out;have fx4:=z7 HX1.out 4;have hx5:=rc5 HX1.out;have fx5:=z7 HX1.out 5;have hx6:=rc6 HX1.out;have fx6:=z7 HX1.out 6;have hx7:=rc7 HX1.out;have fx7:=z7 HX1.out 7;have hx8:=rc8 HX1.out;have fx8:=z7 HX1.out 8;have hx9:=rc9 HX1.out;have fx9:=z7 HX1.out 9;have hx10:=rc10 HX1.out;have fx10:=z7 HX1.out 10;go_wp2_with fail;have hua:=q8 wr g (.string K) (.bool false) (.int .i64 0) (.string ⟨#[]⟩) (.bool false) (.int .u64 0) (.slice none 0 0) (.slice none 0 0) (.string ⟨#[]⟩) (.string ⟨#[]⟩) (.string U);refine zi rfl rfl (ku (jy HG1.out _ _ _ _ _ _ _ _ _ _ _) rfl) rfl ?_;refine⟨HWB.out.trans (hua.below (by have:=HWB.out.size;omega) (fun k _ h=>by have h:k=g:=h;have:=HGG.out;omega)),?_⟩;rw[HBE.out];refine⟨[strV st.1,.bool false]++[.int .i64 0,strV [],.bool false,.int .u64 0,.slice none 0 0,.slice none 0 0,strV [],strV []]++[strV (munk ktk rs)],by rw[HKK.out,HUU.out];rfl,Xi _ _ _ (ql _ _ _ _ _ _)⟩
    ·have hh2:h=true:=by rw[hh,decide_eq_false hn];rfl
     subst hh2;have HBE:Hid (zm (f+1) X.data.toList d=match zn f st.2.flatten (d-1)with | .error c => .error c | .ok v => .ok (.mk st.1 true v (munk ktk rs))):=hid (by rw[HBR.out,hm];dsimp only;rw[if_neg hn])
     have hlt2:Pt.size<X.size:=by
      rcases hkl.1 with h|h
      ·exact absurd h hn
      ·omega
     have HRV:=hid (hrv.out Pt (d-1) wr hlt2 (by have:=HDD.out;have:=HD0.out;omega));rw[hP]at HRV;have q1:IntKind.i64.wrap (d-1)=d-1:=IntWalk.i64_in _ (by have:=HDD.out;have:=HD0.out;omega);clear hm hK hh hP hU hn hkl hjn hPs hxr hst hlt2 hg0 fg0 hg1 fg1 hg2 fg2 hg3 fg3 hg4 fg4 hg5 fg5 hg6 fg6 hg7 fg7 hg8 fg8 hg9 fg9 hg10 fg10;have hx1:=rc1 HX1.out;go_wp2_with fail;refine HRV.out.mono ?_;intro e w2 hpost;obtain⟨hb2,hcase⟩:=hpost;have HX2:=hid ((hb2.block _ (z8 HX1.out)).trans HX1.out);have HG2:=hid ((hb2.block _ (z8 HG1.out)).trans HG1.out);have HB2:=hid (zb HWB.out hb2);have HSX:Hid (bx<wr.heap.size):=hid (z8 HX1.out);have HSW:=hid HWB.out.size;clear hb2 hx1 q1;have hx0:=rc0 HX2.out;have fx0:=z7 HX2.out 0;have hx1:=rc1 HX2.out;have fx1:=z7 HX2.out 1;have hx2:=rc2 HX2.out;have fx2:=z7 HX2.out 2;have hx3:=rc3 HX2.out;have fx3:=z7 HX2.out 3;have hx4:=rc4 HX2.out;have fx4:=z7 HX2.out 4;have hx5:=rc5 HX2.out;have fx5:=z7 HX2.out 5;have hx6:=rc6 HX2.out;have fx6:=z7 HX2.out 6;have hx7:=rc7 HX2.out;have fx7:=z7 HX2.out 7;have hx8:=rc8 HX2.out;have fx8:=z7 HX2.out 8;have hx9:=rc9 HX2.out;have fx9:=z7 HX2.out 9;have hx10:=rc10 HX2.out;have fx10:=z7 HX2.out 10
     cases hs:zn f st.2.flatten (d-1)with
     | error c =>
      rw[hs]at hcase;subst hcase;have HBF:Hid (zm (f+1) X.data.toList d=.error c):=hid (by rw[HBE.out,hs]);clear hs;unfold Z0;go_upto_region 17 with fail
      have hrow:=z7i HX2.out (.int .i64 0) (.string ⟨#[]⟩) (.bool false) (.int .u64 0) (.slice none 0 0) (.slice none 0 0) (.string ⟨#[]⟩) (.string ⟨#[]⟩);have hupd:=z0v w2 bx (.int .i64 0) (.string ⟨#[]⟩) (.bool false) (.int .u64 0) (.slice none 0 0) (.slice none 0 0) (.string ⟨#[]⟩) (.string ⟨#[]⟩);obtain⟨W3,hW3⟩:∃W,((((((((w2).setCell ⟨bx,2,none⟩ (.int .i64 0)).setCell ⟨bx,3,none⟩ (.string ⟨#[]⟩)).setCell ⟨bx,4,none⟩ (.bool false)).setCell ⟨bx,5,none⟩ (.int .u64 0)).setCell ⟨bx,6,none⟩ (.slice none 0 0)).setCell ⟨bx,7,none⟩ (.slice none 0 0)).setCell ⟨bx,8,none⟩ (.string ⟨#[]⟩)).setCell ⟨bx,9,none⟩ (.string ⟨#[]⟩)=W:=⟨_,rfl⟩
      rw[hW3]at hrow hupd ⊢;clear hW3 hx0 fx0 hx1 fx1 hx2 fx2 hx3 fx3 hx4 fx4 hx5 fx5 hx6 fx6 hx7 fx7 hx8 fx8 hx9 fx9 hx10 fx10;have HG3:=hid ((hupd.block g (z8 HG2.out) (fun e=>hgx e)).trans HG2.out);have HB3:Hid (Below w.heap.size w W3):=hid (HB2.out.trans (hupd.below (by have:=HB2.out.size;omega) (fun k _ h=>by have h:k=bx:=h;have:=HBX.out;have:=HB1.out.size;omega)));clear hrow hupd;have hg0:=rc0 HG3.out;have fg0:=z7 HG3.out 0;have hg1:=rc1 HG3.out;have fg1:=z7 HG3.out 1;have hg2:=rc2 HG3.out;have fg2:=z7 HG3.out 2;have hg3:=rc3 HG3.out;have fg3:=z7 HG3.out 3;have hg4:=rc4 HG3.out;have fg4:=z7 HG3.out 4;have hg5:=rc5 HG3.out;have fg5:=z7 HG3.out 5;have hg6:=rc6 HG3.out;have fg6:=z7 HG3.out 6;have hg7:=rc7 HG3.out;have fg7:=z7 HG3.out 7;have hg8:=rc8 HG3.out;have fg8:=z7 HG3.out 8;have hg9:=rc9 HG3.out;have fg9:=z7 HG3.out 9;have hg10:=rc10 HG3.out;have fg10:=z7 HG3.out 10;go_wp2_with fail;have hua:=q8 W3 g (.string ⟨#[]⟩) (.bool false) (.int .i64 0) (.string ⟨#[]⟩) (.bool false) (.int .u64 0) (.slice none 0 0) (.slice none 0 0) (.string ⟨#[]⟩) (.string ⟨#[]⟩) (.string ⟨#[]⟩);refine zi rfl rfl (ku (jy HG3.out _ _ _ _ _ _ _ _ _ _ _) rfl) rfl ?_;refine⟨HB3.out.trans (hua.below (by have:=HB3.out.size;omega) (fun k _ h=>by have h:k=g:=h;have:=HGG.out;omega)),?_⟩;rw[HBF.out];exact rfl
     | ok x =>
      rw[hs]at hcase;obtain⟨cs,rfl,hrel⟩:=hcase;have HBF:Hid (zm (f+1) X.data.toList d=.ok (.mk st.1 true x (munk ktk rs))):=hid (by rw[HBE.out,hs]);have HREL:=hid hrel;obtain⟨k,S,b0,n,lo,ln,lc,mo,mn,mc,I,U0,hcs⟩:=hrel.form;have HCS:=hid hcs;rw[hcs];clear hcs hrel hs;go_upto_region 17 with fail
      have hrow:=z7i HX2.out (.int .i64 k) (.string S) (.bool b0) (.int .u64 n) (.slice lo ln lc) (.slice mo mn mc) (.string I) (.string U0);have hupd:=z0v w2 bx (.int .i64 k) (.string S) (.bool b0) (.int .u64 n) (.slice lo ln lc) (.slice mo mn mc) (.string I) (.string U0);obtain⟨W3,hW3⟩:∃W,((((((((w2).setCell ⟨bx,2,none⟩ (.int .i64 k)).setCell ⟨bx,3,none⟩ (.string S)).setCell ⟨bx,4,none⟩ (.bool b0)).setCell ⟨bx,5,none⟩ (.int .u64 n)).setCell ⟨bx,6,none⟩ (.slice lo ln lc)).setCell ⟨bx,7,none⟩ (.slice mo mn mc)).setCell ⟨bx,8,none⟩ (.string I)).setCell ⟨bx,9,none⟩ (.string U0)=W:=⟨_,rfl⟩
      rw[hW3]at hrow hupd ⊢;clear hW3 hx0 fx0 hx1 fx1 hx2 fx2 hx3 fx3 hx4 fx4 hx5 fx5 hx6 fx6 hx7 fx7 hx8 fx8 hx9 fx9 hx10 fx10;have HX3:=hid hrow;have HU3:=hid hupd;have HG3:=hid ((hupd.block g (z8 HG2.out) (fun e=>hgx e)).trans HG2.out);have HB3:Hid (Below w.heap.size w W3):=hid (HB2.out.trans (hupd.below (by have:=HB2.out.size;omega) (fun k _ h=>by have h:k=bx:=h;have:=HBX.out;have:=HB1.out.size;omega)));clear hrow hupd;have hg0:=rc0 HG3.out;have fg0:=z7 HG3.out 0;have hg1:=rc1 HG3.out;have fg1:=z7 HG3.out 1;have hg2:=rc2 HG3.out;have fg2:=z7 HG3.out 2;have hg3:=rc3 HG3.out;have fg3:=z7 HG3.out 3;have hg4:=rc4 HG3.out;have fg4:=z7 HG3.out 4;have hg5:=rc5 HG3.out;have fg5:=z7 HG3.out 5;have hg6:=rc6 HG3.out;have fg6:=z7 HG3.out 6;have hg7:=rc7 HG3.out;have fg7:=z7 HG3.out 7;have hg8:=rc8 HG3.out;have fg8:=z7 HG3.out 8;have hg9:=rc9 HG3.out;have fg9:=z7 HG3.out 9;have hg10:=rc10 HG3.out;have fg10:=z7 HG3.out 10;have hy0:=rc0 HX3.out;have hy1:=rc1 HX3.out;have hy2:=rc2 HX3.out;have hy3:=rc3 HX3.out;have hy4:=rc4 HX3.out;have hy5:=rc5 HX3.out;have hy6:=rc6 HX3.out;have hy7:=rc7 HX3.out;have hy8:=rc8 HX3.out;have hy9:=rc9 HX3.out;have hy10:=rc10 HX3.out;go_wp2_with fail;have hua:=q8 W3 g (.string K) (.bool true) (.int .i64 k) (.string S) (.bool b0) (.int .u64 n) (.slice lo ln lc) (.slice mo mn mc) (.string I) (.string U0) (.string U);refine zi rfl rfl (ku (jy HG3.out _ _ _ _ _ _ _ _ _ _ _) rfl) rfl ?_;refine⟨HB3.out.trans (hua.below (by have:=HB3.out.size;omega) (fun k _ h=>by have h:k=g:=h;have:=HGG.out;omega)),?_⟩;rw[HBF.out];refine⟨[strV st.1,.bool true]++cs++[strV (munk ktk rs)],by rw[HCS.out,HKK.out,HUU.out];rfl,Xi _ _ _ ?_⟩;have hne:∀k,wr.heap.size<=k->¬(k=bx)/\¬(k=g):=fun k hk=>by have:=HSX.out;have:=z8 HG1.out;omega
      exact VRel.upd hua (fun k hk h=>(hne k hk).2 h) (fun k hk=>by have:=HSW.out;omega) _ _ (VRel.upd HU3.out (fun k hk h=>(hne k hk).1 h) (fun k hk=>hk) _ _ HREL.out)
def xg (w:World)(g o:Nat)(r:Rec):Prop:=w.cell? ⟨g,o,none⟩=some (.int .i64 r.num)/\w.cell? ⟨g,o+1,none⟩=some (.int .i64 r.ty)/\w.cell? ⟨g,o+2,none⟩=some (.int .u64 r.n)/\w.cell? ⟨g,o+3,none⟩=some (.string ⟨r.s.toArray⟩)/\w.cell? ⟨g,o+4,none⟩=some (.string ⟨r.raw.toArray⟩)
theorem z45 {w:World}{base g cap j:Nat}{T:TypeId}{rs:List Rec}(ho:w.ownsRow base T 5 (.slice (some ⟨g,0,none⟩) rs.length cap) rs.length (rs.flatMap yb))(hj:j<rs.length):xg w g (j*5) rs[j]:=by
 have h:∀k,k<5->w.cell? ⟨g,j*5+k,none⟩=(yb rs[j])[k]?:=fun k hk=>by
  rw[ho.cellAt (j*5+k) (by omega),show j*5+k=5*j+k by omega,y0 hj hk]
 exact⟨h 0 (by omega),h 1 (by omega),h 2 (by omega),h 3 (by omega),h 4 (by omega)⟩
theorem xg.upd {S:Nat->Prop}{w w':World}{g o:Nat}{r:Rec}(h:xg w g o r)(hu:Upd S w w')(hg:g<w.heap.size)(hs:¬S g):xg w' g o r :=
 ⟨(hu.cell (a:=⟨g,o,none⟩) hg hs).trans h.1,(hu.cell (a:=⟨g,o+1,none⟩) hg hs).trans h.2.1,(hu.cell (a:=⟨g,o+2,none⟩) hg hs).trans h.2.2.1,(hu.cell (a:=⟨g,o+3,none⟩) hg hs).trans h.2.2.2.1,(hu.cell (a:=⟨g,o+4,none⟩) hg hs).trans h.2.2.2.2⟩
theorem xg.below {w w':World}{g o:Nat}{r:Rec}(h:xg w g o r)(hb:Below w.heap.size w w')(hg:g<w.heap.size):xg w' g o r:=h.upd (Upd.of_new (S:=fun _=>False) hb) hg (fun h=>h)
theorem Yg {α:Type}(rd:List UInt8->Int->Except Nat α)(l:List UInt8)(d:Int):yf rd l d=match y8 l d with
  | .error c => .error c
  | .ok rs=>match zg itk (yc rd (d-1)) [] rs with
   | .error c => .error c
   | .ok xs => .ok (xs,munk itk rs):=by
 unfold yf zq y8
 by_cases h:d<0
 ·rw[if_pos h,if_pos h]
 ·rw[if_neg h,if_neg h]
  cases wall l d with
  | error c=>rfl
  | ok rs =>
   dsimp only
   cases zg itk (yc rd (d-1)) [] rs<;>rfl
theorem vres {rd:Except Nat Val} {e:Ending} {w w':World} (h:match rd with
  | .error _=>e=.returned (.tuple #[.agg Z0,.bool false])
  | .ok x=>∃cs,e=.returned (.tuple #[.agg cs.toArray,.bool true])/\VRel w' (fun k=>w.heap.size<=k) x cs):∃(gb:Bool) (x:Val) (cs:List Value),e=.returned (.tuple #[.agg cs.toArray,.bool gb])/\VRel w' (fun k=>w.heap.size<=k) x cs/\(gb=true->rd=.ok x)/\(gb=false->∃c,rd=.error c):=by
 cases rd with
 | error c=>exact⟨false,.mk 0 [] false 0 [] [] [] [],_,h,ql _ _ _ _ _ _,(fun h=>by cases h),fun _=>⟨c,rfl⟩⟩
 | ok x =>
  obtain⟨cs,h1,h2⟩:=h;exact⟨true,x,cs,h1,h2,fun _=>rfl,(fun h=>by cases h)⟩
theorem kres {rd:Except Nat KV} {e:Ending} {w w':World} (h:match rd with
  | .error _=>e=.returned (.tuple #[.agg Jy,.bool false])
  | .ok x=>∃cs,e=.returned (.tuple #[.agg cs.toArray,.bool true])/\KRel w' (fun k=>w.heap.size<=k) x cs):∃(gb:Bool) (x:KV) (cs:List Value),e=.returned (.tuple #[.agg cs.toArray,.bool gb])/\KRel w' (fun k=>w.heap.size<=k) x cs/\(gb=true->rd=.ok x)/\(gb=false->∃c,rd=.error c):=by
 cases rd with
 | error c=>exact⟨false,.mk [] false .zero [],_,h,Xi _ _ _ (ql _ _ _ _ _ _),(fun h=>by cases h),fun _=>⟨c,rfl⟩⟩
 | ok x =>
  obtain⟨cs,h1,h2⟩:=h;exact⟨true,x,cs,h1,h2,fun _=>rfl,(fun h=>by cases h)⟩
def z5n (U:List UInt8):Except Nat (List Val × List UInt8)->Except Nat Val
 | .error c => .error c
 | .ok (xs,i) => .ok (.mk 5 [] false 0 xs [] i U)
def z5m (U:List UInt8):Except Nat (List KV × List UInt8)->Except Nat Val
 | .error c => .error c
 | .ok (xs,i) => .ok (.mk 6 [] false 0 [] xs i U)
def VLB (N:Nat)(v:Value)(xs:List Val)(w:World):Prop:=∃(css:List (List Value)) (Q:Nat->Prop),w.ownsRow N 53 8 v xs.length css.flatten/\css.length=xs.length/\(∀j (h1:j<xs.length) (h2:j<css.length),VRel w Q xs[j] css[j])/\(∀k,Q k->N<=k/\k<w.heap.size/\v.ownBlock≠some k)
theorem VLB.nil (N:Nat)(w:World):VLB N (.slice none 0 0) [] w:=⟨[],fun _=>False,World.ownsRow_nil _ _ _ _,rfl,fun j h=>by simp at h,fun k h=>h.elim⟩
theorem VLB.upd {S:Nat->Prop}{N:Nat}{v:Value}{xs:List Val}{w w':World}(h:VLB N v xs w)(hu:Upd S w w')(hs:∀k,N<=k->k<w.heap.size->¬S k):VLB N v xs w':=by
 obtain⟨css,Q,h1,h2,h3,h4⟩:=h;exact⟨css,Q,hu.own h1 (fun k hk=>hs k (h1.lt k hk).1 (h1.lt k hk).2),h2,fun j g1 g2=>VRel.upd hu (fun k hk=>hs k (h4 k hk).1 (h4 k hk).2.1) (fun k hk=>hk) _ _ (h3 j g1 g2),fun k hk=>⟨(h4 k hk).1,Nat.lt_of_lt_of_le (h4 k hk).2.1 hu.size,(h4 k hk).2.2⟩⟩
theorem VLB.rels {N:Nat}{lo:Option Addr}{cap:Nat}{xs:List Val}{w:World}(h:VLB N (.slice lo xs.length cap) xs w):yv w (fun k=>N<=k) xs lo 0:=by
 obtain⟨css,Q,h1,h2,h3,h4⟩:=h;refine z7l (css:=css) h1 h2 (fun j g1 g2=>?_) (fun k hk=>(h1.lt k hk).1);exact VRel.upd (Upd.refl (fun _=>False) w) (fun _ _ h=>h) (fun k hk=>(h4 k hk).1) _ _ (h3 j g1 g2)
theorem VLB.slice {N:Nat}{v:Value}{xs:List Val}{w:World}(h:VLB N v xs w):∃lo cap,v=.slice lo xs.length cap:=by
 obtain⟨css,Q,h1,_⟩:=h;exact zh h1
theorem VLB.add {N:Nat} {xs:List Val} {x:Val} {ao:Option Addr} {cap g cap':Nat} {w w1 W:World} {cs:List Value} {css:List (List Value)} {Q:Nat->Prop} (h1:w.ownsRow N 53 8 (.slice ao xs.length cap) xs.length css.flatten) (h2:css.length=xs.length) (h3:∀j (h1:j<xs.length) (h2:j<css.length),VRel w Q xs[j] css[j]) (h4:∀k,Q k->N<=k/\k<w.heap.size/\(Value.slice ao xs.length cap).ownBlock≠some k)
  (hN:N<=w.heap.size) (hb:Below w.heap.size w w1) (hrel:VRel w1 (fun k=>w.heap.size<=k) x cs) (hu:Upd (fun k=>(Value.slice ao xs.length cap).ownBlock=some k) w1 W) (hown:W.ownsRow N 53 8 (.slice (some ⟨g,0,none⟩) (xs.length+1) cap') (xs.length+1) (css.flatten++cs)) (hg:(Value.slice ao xs.length cap).ownBlock=some g∨w1.heap.size<=g) :
  VLB N (.slice (some ⟨g,0,none⟩) (xs.length+1) cap') (xs++[x]) W:=by
 have hs1:=hb.size;have hs2:=hu.size;refine⟨css++[cs],fun k=>Q k∨(w.heap.size<=k/\k<w1.heap.size),?_,?_,?_,?_⟩
 ·rw[List.flatten_append,List.flatten_singleton,List.length_append]
  exact hown
 ·rw[List.length_append,List.length_append,h2];rfl
 ·intro j g1 g2
  by_cases hj:j<xs.length
  ·rw[List.getElem_append_left hj,List.getElem_append_left (by omega)]
   refine VRel.upd hu (fun k hk hs=>(h4 k hk).2.2 hs) (fun k hk => .inl hk) _ _ (VRel.upd (Upd.of_new (S:=fun _=>False) hb) (fun _ _ h=>h) (fun k hk=>hk) _ _ (h3 j hj (by omega)))
  ·have hje:j=xs.length:=by rw[List.length_append,List.length_singleton]at g1;omega
   subst hje;rw[List.getElem_append_right (Nat.le_refl _),List.getElem_append_right (by omega)]
   simp only[Nat.sub_self,List.getElem_cons_zero,h2]
   refine VRel.upd hu (fun k hk hs=>?_) (fun k hk => .inr hk) _ _ (VRel.lt _ _ hrel);have:=(h1.lt k hs).2;omega
 ·intro k hk
  rcases hk with hk|hk
  ·have:=h4 k hk
   refine⟨this.1,by omega,fun e=>?_⟩;have e:g=k:=by simpa [Value.ownBlock] using e
   rcases hg with h|h
   ·exact this.2.2 (e ▸ h)
   ·omega
  ·refine⟨by omega,by omega,fun e=>?_⟩
   have e:g=k:=by simpa [Value.ownBlock] using e
   rcases hg with h|h
   ·have:=(h1.lt g h).2;omega
   ·omega
def KLB (N:Nat)(v:Value)(xs:List KV)(w:World):Prop:=∃(css:List (List Value)) (Q:Nat->Prop),w.ownsRow N 55 11 v xs.length css.flatten/\css.length=xs.length/\(∀j (h1:j<xs.length) (h2:j<css.length),KRel w Q xs[j] css[j])/\(∀k,Q k->N<=k/\k<w.heap.size/\v.ownBlock≠some k)
theorem KLB.nil (N:Nat)(w:World):KLB N (.slice none 0 0) [] w:=⟨[],fun _=>False,World.ownsRow_nil _ _ _ _,rfl,fun j h=>by simp at h,fun k h=>h.elim⟩
theorem KLB.upd {S:Nat->Prop}{N:Nat}{v:Value}{xs:List KV}{w w':World}(h:KLB N v xs w)(hu:Upd S w w')(hs:∀k,N<=k->k<w.heap.size->¬S k):KLB N v xs w':=by
 obtain⟨css,Q,h1,h2,h3,h4⟩:=h;exact⟨css,Q,hu.own h1 (fun k hk=>hs k (h1.lt k hk).1 (h1.lt k hk).2),h2,fun j g1 g2=>KRel.upd hu (fun k hk=>hs k (h4 k hk).1 (h4 k hk).2.1) (fun k hk=>hk) _ _ (h3 j g1 g2),fun k hk=>⟨(h4 k hk).1,Nat.lt_of_lt_of_le (h4 k hk).2.1 hu.size,(h4 k hk).2.2⟩⟩
theorem KLB.rels {N:Nat}{lo:Option Addr}{cap:Nat}{xs:List KV}{w:World}(h:KLB N (.slice lo xs.length cap) xs w):y7 w (fun k=>N<=k) xs lo 0:=by
 obtain⟨css,Q,h1,h2,h3,h4⟩:=h;refine Yy (css:=css) h1 h2 (fun j g1 g2=>?_) (fun k hk=>(h1.lt k hk).1);exact KRel.upd (Upd.refl (fun _=>False) w) (fun _ _ h=>h) (fun k hk=>(h4 k hk).1) _ _ (h3 j g1 g2)
theorem KLB.slice {N:Nat}{v:Value}{xs:List KV}{w:World}(h:KLB N v xs w):∃lo cap,v=.slice lo xs.length cap:=by
 obtain⟨css,Q,h1,_⟩:=h;exact zh h1
theorem KLB.add {N:Nat} {xs:List KV} {x:KV} {ao:Option Addr} {cap g cap':Nat} {w w1 W:World} {cs:List Value} {css:List (List Value)} {Q:Nat->Prop} (h1:w.ownsRow N 55 11 (.slice ao xs.length cap) xs.length css.flatten) (h2:css.length=xs.length) (h3:∀j (h1:j<xs.length) (h2:j<css.length),KRel w Q xs[j] css[j]) (h4:∀k,Q k->N<=k/\k<w.heap.size/\(Value.slice ao xs.length cap).ownBlock≠some k)
  (hN:N<=w.heap.size) (hb:Below w.heap.size w w1) (hrel:KRel w1 (fun k=>w.heap.size<=k) x cs) (hu:Upd (fun k=>(Value.slice ao xs.length cap).ownBlock=some k) w1 W) (hown:W.ownsRow N 55 11 (.slice (some ⟨g,0,none⟩) (xs.length+1) cap') (xs.length+1) (css.flatten++cs)) (hg:(Value.slice ao xs.length cap).ownBlock=some g∨w1.heap.size<=g) :
  KLB N (.slice (some ⟨g,0,none⟩) (xs.length+1) cap') (xs++[x]) W:=by
 have hs1:=hb.size;have hs2:=hu.size;refine⟨css++[cs],fun k=>Q k∨(w.heap.size<=k/\k<w1.heap.size),?_,?_,?_,?_⟩
 ·rw[List.flatten_append,List.flatten_singleton,List.length_append]
  exact hown
 ·rw[List.length_append,List.length_append,h2];rfl
 ·intro j g1 g2
  by_cases hj:j<xs.length
  ·rw[List.getElem_append_left hj,List.getElem_append_left (by omega)]
   refine KRel.upd hu (fun k hk hs=>(h4 k hk).2.2 hs) (fun k hk => .inl hk) _ _ (KRel.upd (Upd.of_new (S:=fun _=>False) hb) (fun _ _ h=>h) (fun k hk=>hk) _ _ (h3 j hj (by omega)))
  ·have hje:j=xs.length:=by rw[List.length_append,List.length_singleton]at g1;omega
   subst hje;rw[List.getElem_append_right (Nat.le_refl _),List.getElem_append_right (by omega)]
   simp only[Nat.sub_self,List.getElem_cons_zero,h2]
   refine KRel.upd hu (fun k hk hs=>?_) (fun k hk => .inr hk) _ _ (KRel.lt _ _ hrel);have:=(h1.lt k hs).2;omega
 ·intro k hk
  rcases hk with hk|hk
  ·have:=h4 k hk
   refine⟨this.1,by omega,fun e=>?_⟩;have e:g=k:=by simpa [Value.ownBlock] using e
   rcases hg with h|h
   ·exact this.2.2 (e ▸ h)
   ·omega
  ·refine⟨by omega,by omega,fun e=>?_⟩
   have e:g=k:=by simpa [Value.ownBlock] using e
   rcases hg with h|h
   ·have:=(h1.lt g h).2;omega
   ·omega
theorem zac (f:Nat) (X U:ByteArray) (d:Int) (w:World) (hX:X.size<=1000000) (hd : -9223372036854775808<=d/\d<=9223372036854775807)
  (hrv:Hid (∀(Y:ByteArray) (d':Int) w',Y.size<X.size -> -9223372036854775808<=d'/\d'<=9223372036854775807->Calls Tryz.prog 70 #[.string Y,.int .i64 d'] w' (Qo (zn f Y.data.toList d') w'))) :
  Calls Tryz.prog 111 #[.agg #[.int .i64 5,.string ⟨#[]⟩,.bool false,.int .u64 0,.slice none 0 0,.slice none 0 0,.string ⟨#[]⟩,.string U],.string X,.int .i64 d] w (Qo (z5n U.data.toList (yf (zn f) X.data.toList d)) w):=by
 obtain⟨RES,HRES⟩:∃RES,Hid (z5n U.data.toList (yf (zn f) X.data.toList d)=RES):=⟨_,hid rfl⟩
 rw[HRES.out];obtain⟨bx,hbx⟩:=nmd (w.heap.size)
 obtain⟨W1,hW1⟩:=nmd (w.alloc (.cells #[.int .i64 5,.string ⟨#[]⟩,.bool false,.int .u64 0,.slice none 0 0,.slice none 0 0,.string ⟨#[]⟩,.string U] 53))
 have HB1:Hid (Below w.heap.size w W1):=hid (by rw[<-hW1];exact zd _ _);have HX1:Hid (W1.heap[bx]?=some (.cells #[.int .i64 5,.string ⟨#[]⟩,.bool false,.int .u64 0,.slice none 0 0,.slice none 0 0,.string ⟨#[]⟩,.string U] 53 (0,0))):=hid (by rw[<-hW1,<-hbx];exact heap_alloc_new w _);have hs1:W1.heap.size=bx+1:=by rw[<-hW1,<-hbx];simp
 obtain⟨W0,hW0⟩:=nmd (W1.alloc (.cells #[.int .i64 0,.string ⟨#[]⟩,.bool false,.int .u64 0,.slice none 0 0,.slice none 0 0,.string ⟨#[]⟩,.string ⟨#[]⟩] 53))
 have HB0:Hid (Below w.heap.size w W0):=hid (by rw[<-hW0];exact zb HB1.out (zd _ _));have HG0:Hid (W0.heap[bx+1]?=some (.cells #[.int .i64 0,.string ⟨#[]⟩,.bool false,.int .u64 0,.slice none 0 0,.slice none 0 0,.string ⟨#[]⟩,.string ⟨#[]⟩] 53 (0,0))):=hid (by rw[<-hW0,<-hs1];exact heap_alloc_new W1 _);have HX0:Hid (W0.heap[bx]?=some (.cells #[.int .i64 5,.string ⟨#[]⟩,.bool false,.int .u64 0,.slice none 0 0,.slice none 0 0,.string ⟨#[]⟩,.string U] 53 (0,0))):=hid (by rw[<-hW0];exact(Below.heap_alloc _ _ _ (by omega)).trans HX1.out);have hs0:W0.heap.size=bx+2:=by rw[<-hW0];simp[hs1]
 have HF:=hid (kx X d W0 (by omega) hd.2);have HW1:=hid hW1;have HW0:=hid hW0;have HBX:=hid hbx;have HS1:=hid hs1;have HS0:=hid hs0;have HDD:=hid hd;have HSS:=hid hX;clear hW0 hW1 hbx hs0 hd hX
 cases hw:y8 X.data.toList d with
 | error c =>
  have HBR:Hid (RES=.error c):=hid (by rw[<-HRES.out,Yg,hw];rfl);have HW:=hid hw;clear hw hs1;go_enter Tryz.func111,Tryz.ntmps111;go_wp2_with fail;rw[HBX.out,HW1.out,HW0.out];refine HF.out.mono ?_;intro e w1 hpost;unfold xe at hpost
  rw[HW.out]at hpost;obtain⟨hb1,rfl⟩:=hpost;have HB1:=hid (zb HB0.out hb1);have HG1:=hid ((hb1.block _ (z8 HG0.out)).trans HG0.out);clear hb1;go_wp2_with fail
  go_loopg [9,10] 0 (fun k b i wr=>b=.bool false/\i=.int .i64 0/\wr=w1)
  case atStart=>exact⟨rfl,rfl,rfl⟩
  case round =>
   obtain⟨rfl,rfl,rfl⟩:=hrel;have hg0:=rc0 HG1.out;have fg0:=z7 HG1.out 0;have hg1:=rc1 HG1.out;have fg1:=z7 HG1.out 1;have hg2:=rc2 HG1.out;have fg2:=z7 HG1.out 2;have hg3:=rc3 HG1.out;have fg3:=z7 HG1.out 3;have hg4:=rc4 HG1.out;have fg4:=z7 HG1.out 4;have hg5:=rc5 HG1.out;have fg5:=z7 HG1.out 5;have hg6:=rc6 HG1.out;have fg6:=z7 HG1.out 6;have hg7:=rc7 HG1.out;have fg7:=z7 HG1.out 7;go_wp2_with fail;have hua:=y5 wr (bx+1) (.int .i64 0) (.string ⟨#[]⟩) (.bool false) (.int .u64 0) (.slice none 0 0) (.slice none 0 0) (.string ⟨#[]⟩) (.string ⟨#[]⟩);refine zi rfl rfl (ye (y4 HG1.out _ _ _ _ _ _ _ _) rfl) rfl ?_;refine⟨HB1.out.trans (hua.below (by have:=HB1.out.size;omega) (fun k _ h=>by have h:k=bx+1:=h;have:=HBX.out;omega)),?_⟩;rw[HBR.out];exact rfl
 | ok rs =>
  have HBR:Hid (yf (zn f) X.data.toList d=match zg itk (yc (zn f) (d-1)) [] rs with | .error c => .error c | .ok xs => .ok (xs,munk itk rs)):=hid (by rw[Yg,hw];cases hq:zg itk (yc (zn f) (d-1)) [] rs<;>simp only[hq]);have HD0:Hid (0<=d):=hid (by unfold y8 at hw;split at hw;cases hw;omega);have HWA:Hid (wall X.data.toList d=.ok rs):=hid (by unfold y8 at hw;split at hw;cases hw;exact hw);have HLL:Hid (rs.length<=X.size):=hid (by have:=kd HWA.out;simpa using this);have HRAW:Hid (rs.flatMap Rec.raw=X.data.toList):=hid (xh _ (Nat.le_refl _) HWA.out).1;have HREC:Hid (∀r∈rs,zt d r):=hid (xp _ (Nat.le_refl _) HWA.out);have HW:=hid hw;clear hw hs1;go_enter Tryz.func111,Tryz.ntmps111;go_wp2_with fail;rw[HBX.out,HW1.out,HW0.out];refine HF.out.mono ?_;intro e w1 hpost;unfold xe at hpost
  rw[HW.out]at hpost;obtain⟨hb1,u,rfl,hown⟩:=hpost;obtain⟨lo,lcap,rfl⟩:=zh hown;have HB1:=hid (zb HB0.out hb1);have HO1:=hid hown;have HG1:=hid ((hb1.block _ (z8 HG0.out)).trans HG0.out);have HX1:=hid ((hb1.block _ (z8 HX0.out)).trans HX0.out);clear hb1 hown;go_wp2_with fail
  go_loopg [9,10] rs.length (fun k b i wr=>∃(j:Nat) (v:Value) (I:ByteArray) (xs:List Val),i=.int .i64 j/\j+k=rs.length/\Upd (fun k=>k=bx) w1 wr/\wr.heap[bx]?=some (.cells #[.int .i64 5,.string ⟨#[]⟩,.bool false,.int .u64 0,v,.slice none 0 0,.string I,.string U] 53 (0,0))/\VLB w1.heap.size v xs wr/\Hid (I.size<=((rs.take j).flatMap Rec.raw).length)/\xs.length<=j/\(b=.bool true/\Hid (zg itk (yc (zn f) (d-1)) [] (rs.take j)=.ok xs/\I.data.toList=munk itk (rs.take j))∨b=.bool false/\∃c,zg itk (yc (zn f) (d-1)) [] rs=.error c))
  case atStart=>exact⟨0,.slice none 0 0,⟨#[]⟩,[],rfl,by omega,Upd.refl _ _,HX1.out,VLB.nil _ _,hid (by simp[ByteArray.size]),Nat.le_refl _,.inl ⟨rfl,hid ⟨rfl,rfl⟩⟩⟩
  case round =>
   obtain⟨j,v,I,xs,rfl,hj,hur,hx,hlb,HSZ,hxl,hcase⟩:=hrel;have HU1:=hid hur;have HXR:=hid hx;have HJ:=hid hj;have HLB:=hid hlb;have HN:Hid (w1.heap.size<=wr.heap.size):=hid hur.size;have hjl:j<=1000000:=by have:=HLL.out;have:=HSS.out;omega
   have HGR:=hid ((hur.block _ (z8 HG1.out) (by omega)).trans HG1.out);have HWB:Hid (Below w.heap.size w wr):=hid (HB1.out.trans (hur.below (by have:=HB1.out.size;omega) (fun k _ h=>by have h:k=bx:=h;have:=HBX.out;omega)));clear hur hx hj hlb
   rcases hcase with ⟨rfl,hst⟩|⟨rfl,c,hm⟩
   case inr =>
    have HBE:Hid (RES=.error c):=hid (by rw[<-HRES.out,HBR.out,hm];rfl);clear hm;have hg0:=rc0 HGR.out;have fg0:=z7 HGR.out 0;have hg1:=rc1 HGR.out;have fg1:=z7 HGR.out 1;have hg2:=rc2 HGR.out;have fg2:=z7 HGR.out 2;have hg3:=rc3 HGR.out;have fg3:=z7 HGR.out 3;have hg4:=rc4 HGR.out;have fg4:=z7 HGR.out 4;have hg5:=rc5 HGR.out;have fg5:=z7 HGR.out 5;have hg6:=rc6 HGR.out;have fg6:=z7 HGR.out 6;have hg7:=rc7 HGR.out;have fg7:=z7 HGR.out 7
    by_cases hlt:j<rs.length
    all_goals
     go_wp2_with fail;have hua:=y5 wr (bx+1) (.int .i64 0) (.string ⟨#[]⟩) (.bool false) (.int .u64 0) (.slice none 0 0) (.slice none 0 0) (.string ⟨#[]⟩) (.string ⟨#[]⟩);refine zi rfl rfl (ye (y4 HGR.out _ _ _ _ _ _ _ _) rfl) rfl ?_;refine⟨HWB.out.trans (hua.below (by have:=HWB.out.size;omega) (fun k _ h=>by have h:k=bx+1:=h;have:=HBX.out;omega)),?_⟩;rw[HBE.out];exact rfl
   case inl =>
    have HST:=hid hst.out.1;have HIN:=hid hst.out.2;clear hst
    by_cases hlt:j<rs.length
    ·have HO:=hid (HU1.out.own HO1.out (fun k hk e=>by have e:k=bx:=e;have:=(HO1.out.lt k hk).1;have:=HS0.out;omega))
     obtain⟨gr,cg,hv,hg1,hg2,_,_⟩:=yj HO.out (by omega)
     simp only[Value.slice.injEq]at hv
     obtain⟨rfl,_,rfl⟩:=hv;obtain⟨r,HRJ⟩:∃r,Hid (rs[j]=r):=⟨_,hid rfl⟩
     have HRA:Hid (xg wr gr (j*5) r):=hid (by rw[<-HRJ.out];exact z45 HO.out hlt);have HGN:Hid (gr<w1.heap.size):=hid (HO1.out.lt gr rfl).2;have HGX:Hid (gr≠bx):=hid (by have:=HS0.out;omega);have HTK:Hid (rs.take (j+1)=rs.take j++[r]):=hid (by rw[List.take_succ_eq_append_getElem hlt,HRJ.out]);have HRR:Hid (zt d r):=hid (HREC.out r (HRJ.out ▸ List.getElem_mem hlt))
     have HSUM:Hid (I.size+r.raw.length<=((rs.take (j+1)).flatMap Rec.raw).length/\((rs.take (j+1)).flatMap Rec.raw).length<=X.size/\r.s.length+1<=r.raw.length):=hid (by
      have h1:=jr HRAW.out (j+1);have h2:=HSZ.out;have h5:X.data.toList.length=X.size:=by simp
      have h6:=q5 HRR.out;rw[HTK.out,List.flatMap_append,List.length_append]at h1 ⊢;have h4:([r].flatMap Rec.raw).length=r.raw.length:=by simp
      omega)
     clear hg1;go_wp2_with fail;obtain⟨D,hD⟩:=nmd (wr.drew)
     have HBD:Hid (Below wr.heap.size wr D):=hid (by rw[<-hD];exact(Below.refl _ _).drew);have Hvread:Hid (xg D gr (j*5) r):=hid (HRA.out.below HBD.out hg2);have hne:Nonempty {w':World // xg w' gr (j*5) r}:=⟨⟨_,Hvread.out⟩⟩
     refine zj (S:=fun w'=>xg w' gr (j*5) r) [(1,true),(2,true),(3,true),(4,true),(0,false),(5,false),(6,true)] (by kernel_rfl) (by kernel_rfl) (by kernel_rfl) (by kernel_rfl) (by rw[hD];exact Hvread.out) ?_;rw[hD];clear hD
     iterate 2 (refine zf _ rfl (fun K2 hK=>?_);go_simp;(first|refine hK _ ?_|refine⟨_,fun _ _=>rfl,hK _ ?_⟩);clear hK K2)
     refine zf _ rfl (fun K2 hK=>?_);go_simp
     (first|refine hK _ ?_|refine⟨.pointer (some ⟨gr,j*5,none⟩),fun _ _=>if_pos (by omega),hK _ ?_⟩)
     clear hK K2;refine zf _ rfl (fun K2 hK=>?_);go_simp;refine⟨.agg #[.int .i64 r.num,.int .i64 r.ty,.int .u64 r.n,.string ⟨r.s.toArray⟩,.string ⟨r.raw.toArray⟩],fun a ha=>by(obtain⟨e0,e1,e2,e3,e4⟩:=ha);simp only[e0,e1,e2,e3,e4,Result.andThen],hK _ ?_⟩;clear hK K2;refine zo _ rfl (fun K2 hK=>?_);go_simp;refine(z5v D).mono ?_;rintro e w4 ⟨to,rfl,HNT,hb4⟩;have HB4:=hid (zb HBD.out hb4);have HR4:Hid (xg w4 gr (j*5) r):=hid (HRA.out.below HB4.out hg2);go_simp;refine hK.out _ _ HR4.out ?_;clear hK K2 hb4;refine zo _ rfl (fun K2 hK=>?_);go_simp;refine(kz [10] to 1 r w4 HNT (by decide) (by decide)).mono ?_;rintro e w5 ⟨rfl,hb5⟩;rw[<-z9h];have HB5:=hid (zb HB4.out hb5);have HR5:Hid (xg w5 gr (j*5) r):=hid (HRA.out.below HB5.out hg2);go_simp;refine hK.out _ _ HR5.out ?_;clear hK K2 hb5
     iterate 1 (refine zf _ rfl (fun K2 hK=>?_);go_simp;(first|refine hK _ ?_|refine⟨_,fun _ _=>rfl,hK _ ?_⟩);clear hK K2)
     refine zw ?_;have HX5:=hid ((HB5.out.block _ (z8 HXR.out)).trans HXR.out);have HU5:Hid (Upd (fun k=>k=bx) w1 w5):=hid (HU1.out.trans (Upd.of_new HB5.out));have HL5:Hid (VLB w1.heap.size v xs w5):=hid (HLB.out.upd (Upd.of_new (S:=fun _=>False) HB5.out) (fun _ _ _ h=>h));have hxb:=z8 HX5.out;have hN5:w1.heap.size<=w5.heap.size:=HU5.out.size;obtain⟨S,hS⟩:∃S:ByteArray,(⟨r.s.toArray⟩:ByteArray)=S:=⟨_,rfl⟩
     obtain⟨R,hR⟩:∃S:ByteArray,(⟨r.raw.toArray⟩:ByteArray)=S:=⟨_,rfl⟩
     have HSD:Hid (S.data.toList=r.s):=hid (by rw[<-hS]);have Hvread2:Hid (R.data.toList=r.raw):=hid (by rw[<-hR]);have HS2:=hid hS;have HR2:=hid hR;rw[hS,hR];clear hS hR hne;have HSZ1:Hid (S.size=r.s.length):=hid (by rw[<-HSD.out];simp);have HRZ:Hid (R.size=r.raw.length):=hid (by rw[<-Hvread2.out];simp)
     cases htk:itk r with
     | false =>
      have HTN:=hid htk;have hsum:=HSUM.out;have hss:=HSS.out;have hsz:¬9223372036854775807<I.size+R.size:=by have:=HRZ.out;omega
      obtain⟨D2,hD2⟩:∃D,w5.drew=D:=⟨_,rfl⟩
      have HBD2:Hid (Below w5.heap.size w5 D2):=hid (by rw[<-hD2];exact(Below.refl _ _).drew);have HX6:=hid ((HBD2.out.block _ hxb).trans HX5.out);have hS:xg D2 gr (j*5) r/\D2.heap[bx]?=some (.cells #[.int .i64 5,.string ⟨#[]⟩,.bool false,.int .u64 0,v,.slice none 0 0,.string I,.string U] 53 (0,0)):=⟨HR5.out.below HBD2.out (by have:=HB5.out.size;omega),HX6.out⟩
      have hne:Nonempty {w':World // xg w' gr (j*5) r/\w'.heap[bx]?=some (.cells #[.int .i64 5,.string ⟨#[]⟩,.bool false,.int .u64 0,v,.slice none 0 0,.string I,.string U] 53 (0,0))}:=⟨⟨_,hS⟩⟩
      have hx6:∀t:{w':World // xg w' gr (j*5) r/\w'.heap[bx]?=some (.cells #[.int .i64 5,.string ⟨#[]⟩,.bool false,.int .u64 0,v,.slice none 0 0,.string I,.string U] 53 (0,0))},t.1.cell? ⟨bx,6,none⟩=some (.string I):=fun t=>za t.2.2 (j:=6) rfl
      have hr4:∀t:{w':World // xg w' gr (j*5) r/\w'.heap[bx]?=some (.cells #[.int .i64 5,.string ⟨#[]⟩,.bool false,.int .u64 0,v,.slice none 0 0,.string I,.string U] 53 (0,0))},t.1.cell? ⟨gr,j*5+4,none⟩=some (.string R):=fun t=>by rw[t.2.1.2.2.2.2,HR2.out]
      have hfz:=z7 HX6.out 6;have hc6:=rc6 HX6.out;clear htk;go_wp2_with fail;refine Zl (fun w'=>xg w' gr (j*5) r/\w'.heap[bx]?=some (.cells #[.int .i64 5,.string ⟨#[]⟩,.bool false,.int .u64 0,v,.slice none 0 0,.string I,.string U] 53 (0,0))) [9] [(0,true),(1,true),(2,true),(3,true),(4,true),(5,true),(6,true),(7,true),(8,true),(9,false)] (by kernel_rfl) (by kernel_rfl) (by kernel_rfl) (by kernel_rfl) ?_;rw[hD2]
      iterate 9 (refine X7 _ rfl hS (fun K hK=>?_);go_simp;(first|refine hK _ ?_|refine⟨_,fun _ _=>rfl,hK _ ?_⟩|refine⟨.pointer (some ⟨gr,j*5,none⟩),fun _ _=>if_pos (by omega),hK _ ?_⟩);clear hK K)
      refine Yc _ rfl (fun K hK=>?_);go_simp;refine hK.out _ _ (fun h=>by cases h) ?_;clear hK K;refine Qv ?_;have hu:=Upd.set D2 ⟨bx,6,none⟩ (.string (I++R));go_wp2_with fail;have hj:=HJ.out
      go_roundg (gk-1)
      case measure=>omega
      case rel =>
       refine⟨j+1,v,I++R,xs,by simp,by omega,(HU5.out.trans (Upd.of_new HBD2.out)).trans hu,ze HX6.out 6 _,(HL5.out.upd (Upd.of_new (S:=fun _=>False) HBD2.out) (fun _ _ _ h=>h)).upd hu (fun k hk _ h=>by have h:k=bx:=h;have:=z8 HX1.out;omega),hid (by rw[ByteArray.size_append];have:=HRZ.out;omega),by omega,.inl ⟨rfl,hid ⟨by rw[HTK.out];exact Y8 HST.out HTN.out,by rw[HTK.out,Yx HTN.out,ByteArray.data_append,Array.toList_append,HIN.out,Hvread2.out]⟩⟩⟩
     | true =>
      have HTN:=hid htk;have HMU:Hid (munk itk (rs.take (j+1))=munk itk (rs.take j)):=hid (by rw[HTK.out,Ya HTN.out]);have HMY:Hid (zg itk (yc (zn f) (d-1)) [] (rs.take (j+1))=yc (zn f) (d-1) xs r):=hid (by rw[HTK.out];exact kq HST.out HTN.out);have hx0:=rc0 HX5.out;have hr3:w5.cell? ⟨gr,j*5+3,none⟩=some (.string S):=by rw[HR5.out.2.2.2.1,HS2.out]
      have q1:IntKind.i64.wrap (d-1)=d-1:=IntWalk.i64_in _ (by have:=HDD.out;have:=HD0.out;omega);have HCV:=hid (hrv.out S (d-1) w5 (by have:=HSZ1.out;have:=HSUM.out;omega) (by have:=HDD.out;have:=HD0.out;omega));clear htk;go_wp2_with fail;refine HCV.out.mono ?_;intro e w6 hpost;obtain⟨hb6,hcase⟩:=hpost;obtain⟨gb,x,cs,rfl,hrel,hok,hno⟩:=vres hcase;rw[HSD.out]at hok hno;have HB6:=hid hb6;have HOK:=hid hok;have HNO:=hid hno;have HREL:=hid hrel;obtain⟨k,S1,b0,n,l1,ln,lc,mo,mn,mc,I0,U0,hcs⟩:=hrel.form;have HCS:=hid hcs;rw[hcs];clear hcs hrel hok hno hb6 hx0 hr3;obtain⟨css,Q,h1,h2,h3,h4⟩:=HL5.out;obtain⟨ao,cap,rfl⟩:=zh h1;have HO5:=hid h1;have H2:=hid h2;have H3:=hid h3;have H4:=hid h4;clear h1 h2 h3 h4;have HO6:=hid (y6 HO5.out HB6.out);have HX6:=hid ((HB6.out.block _ (z8 HX5.out)).trans HX5.out);have hxlt:=z8 HX6.out;have hx4:(w6.alloc (.cells #[.int .i64 k,.string S1,.bool b0,.int .u64 n,.slice l1 ln lc,.slice mo mn mc,.string I0,.string U0] 53)).cell? ⟨bx,4,none⟩=some (.slice ao xs.length cap):=za ((Below.heap_alloc _ _ _ hxlt).trans HX6.out) (j:=4) rfl;have hN7:w1.heap.size<=(w6.alloc (.cells #[.int .i64 k,.string S1,.bool b0,.int .u64 n,.slice l1 ln lc,.slice mo mn mc,.string I0,.string U0] 53)).heap.size:=by have:=HB6.out.size;simp;omega
      have hxm:xs.length<=1000000:=by omega
      have hnb:¬(Value.slice ao xs.length cap).ownBlock=some bx:=fun h=>by have:=(HO6.out.lt _ h).1;have:=z8 HX1.out;omega
      have HX8:Hid ((w6.alloc (.cells #[.int .i64 k,.string S1,.bool b0,.int .u64 n,.slice l1 ln lc,.slice mo mn mc,.string I0,.string U0] 53)).heap[bx]?=some (.cells #[.int .i64 5,.string ⟨#[]⟩,.bool false,.int .u64 0,.slice ao xs.length cap,.slice none 0 0,.string I,.string U] 53 (0,0))):=hid ((Below.heap_alloc _ _ _ hxlt).trans HX6.out);go_wp2_with (at_builtin;(refine xw (c:=1) (cs:=[.int .i64 k,.string S1,.bool b0,.int .u64 n,.slice l1 ln lc,.slice mo mn mc,.string I0,.string U0]) rfl _ _ 51 rfl Tryz.elVL (by decide) (HO6.out.alloc _) rfl (by show Value.slice (some ⟨w6.heap.size+1,0,none⟩) 1 1=_;simp) rfl (by simp[Value.oneCell']) (by unfold maxLen;omega) (by omega) hN7 ?_);intro g2 cap2 w9 hown9 hgrow9 hg9;have HX9:=hid ((hgrow9.block _ (z8 HX8.out) (fun e=>hnb e.symm)).trans HX8.out);have hf9:=z7 HX9.out 4;have hc9:=rc4 HX9.out);have hgu:Upd (fun k=>(Value.slice ao xs.length cap).ownBlock=some k) (w6.alloc (.cells #[.int .i64 k,.string S1,.bool b0,.int .u64 n,.slice l1 ln lc,.slice mo mn mc,.string I0,.string U0] 53)) w9:=Upd.of_grown hgrow9;have hu6:Upd (fun k=>(Value.slice ao xs.length cap).ownBlock=some k) w6 w9:=(Upd.alloc _ _ _).trans hgu;have HL9:Hid (VLB w1.heap.size (.slice (some ⟨g2,0,none⟩) (xs.length+1) cap2) (xs++[x]) w9):=hid (VLB.add HO5.out H2.out H3.out H4.out hN5 HB6.out HREL.out hu6 (by rw[HCS.out];exact hown9) (hg9.imp id (fun h=>Nat.le_trans (Upd.alloc (fun _=>False) w6 _).size h)));have hu:=Upd.set w9 ⟨bx,4,none⟩ (.slice (some ⟨g2,0,none⟩) (xs.length+1) cap2);have HL10:=hid (HL9.out.upd hu (fun k hk _ h=>by have h:k=bx:=h;have:=z8 HX1.out;omega));have HU9:Hid (Upd (fun k=>k=bx) w1 (w9.setCell ⟨bx,4,none⟩ (.slice (some ⟨g2,0,none⟩) (xs.length+1) cap2))):=hid ((HU5.out.trans' (((Upd.of_new HB6.out).trans hu6)) (fun k hk h=>by have:=(HO5.out.lt k h).1;omega)).trans hu);have hj:=HJ.out
      go_roundg (gk-1)
      case measure=>omega
      case rel =>
       refine⟨j+1,.slice (some ⟨g2,0,none⟩) (xs.length+1) cap2,I,xs++[x],by simp,by omega,HU9.out,ze HX9.out 4 _,HL10.out,hid (by have:=HSUM.out;omega),by simp;omega,?_⟩
       cases gb with
       | true=>exact .inl ⟨rfl,hid ⟨by rw[HMY.out];unfold yc;rw[HOK.out rfl],by rw[HMU.out];exact HIN.out⟩⟩
       | false =>
        obtain⟨c,hc⟩:=HNO.out rfl;exact .inr ⟨rfl,c,k8 (j:=j+1) (by rw[HMY.out];unfold yc;rw[hc])⟩
    ·have hjn:j=rs.length:=by have:=HJ.out;omega
     have hg0:=rc0 HGR.out;have fg0:=z7 HGR.out 0;have hg1:=rc1 HGR.out;have fg1:=z7 HGR.out 1;have hg2:=rc2 HGR.out;have fg2:=z7 HGR.out 2;have hg3:=rc3 HGR.out;have fg3:=z7 HGR.out 3;have hg4:=rc4 HGR.out;have fg4:=z7 HGR.out 4;have hg5:=rc5 HGR.out;have fg5:=z7 HGR.out 5;have hg6:=rc6 HGR.out;have fg6:=z7 HGR.out 6;have hg7:=rc7 HGR.out;have fg7:=z7 HGR.out 7;have hm:=HST.out;have hI:=HIN.out;rw[hjn,List.take_length]at hm hI;have HBE:Hid (RES=.ok (.mk 5 [] false 0 xs [] I.data.toList U.data.toList)):=hid (by rw[<-HRES.out,HBR.out,hm,<-hI];rfl);obtain⟨ao,cap,rfl⟩:=HLB.out.slice;have hx0:=rc0 HXR.out;have fx0:=z7 HXR.out 0;have hx1:=rc1 HXR.out;have fx1:=z7 HXR.out 1;have hx2:=rc2 HXR.out;have fx2:=z7 HXR.out 2;have hx3:=rc3 HXR.out;have fx3:=z7 HXR.out 3;have hx4:=rc4 HXR.out;have fx4:=z7 HXR.out 4;have hx5:=rc5 HXR.out;have fx5:=z7 HXR.out 5;have hx6:=rc6 HXR.out;have fx6:=z7 HXR.out 6;have hx7:=rc7 HXR.out;have fx7:=z7 HXR.out 7;clear hm hI hjn;go_wp2_with fail;have hua:=y5 wr (bx+1) (.int .i64 5) (.string ⟨#[]⟩) (.bool false) (.int .u64 0) (.slice ao xs.length cap) (.slice none 0 0) (.string I) (.string U);refine zi rfl rfl (ye (y4 HGR.out _ _ _ _ _ _ _ _) rfl) rfl ?_;refine⟨HWB.out.trans (hua.below (by have:=HWB.out.size;omega) (fun k _ h=>by have h:k=bx+1:=h;have:=HBX.out;omega)),?_⟩;rw[HBE.out];refine⟨_,rfl,?_⟩;rw[VRel];refine⟨ao,cap,none,0,by unfold strV;simp only[J8];rfl,?_,?_⟩
     ·exact yv.upd hua (fun k hk h=>by have h:k=bx+1:=h;have:=z8 HG1.out;omega) (fun k hk=>by have:=HB1.out.size;omega) _ _ _ HLB.out.rels
     ·rw[y7];trivial
theorem zb6 (f:Nat) (X U:ByteArray) (d:Int) (w:World) (hX:X.size<=1000000) (hd : -9223372036854775808<=d/\d<=9223372036854775807)
  (hrv:Hid (∀(Y:ByteArray) (d':Int) w',Y.size<X.size -> -9223372036854775808<=d'/\d'<=9223372036854775807->Calls Tryz.prog 25 #[.string Y,.int .i64 d'] w' (z3a (zm f Y.data.toList d') w'))) :
  Calls Tryz.prog 111 #[.agg #[.int .i64 6,.string ⟨#[]⟩,.bool false,.int .u64 0,.slice none 0 0,.slice none 0 0,.string ⟨#[]⟩,.string U],.string X,.int .i64 d] w (Qo (z5m U.data.toList (yf (zm f) X.data.toList d)) w):=by
 obtain⟨RES,HRES⟩:∃RES,Hid (z5m U.data.toList (yf (zm f) X.data.toList d)=RES):=⟨_,hid rfl⟩
 rw[HRES.out];obtain⟨bx,hbx⟩:=nmd (w.heap.size)
 obtain⟨W1,hW1⟩:=nmd (w.alloc (.cells #[.int .i64 6,.string ⟨#[]⟩,.bool false,.int .u64 0,.slice none 0 0,.slice none 0 0,.string ⟨#[]⟩,.string U] 53))
 have HB1:Hid (Below w.heap.size w W1):=hid (by rw[<-hW1];exact zd _ _);have HX1:Hid (W1.heap[bx]?=some (.cells #[.int .i64 6,.string ⟨#[]⟩,.bool false,.int .u64 0,.slice none 0 0,.slice none 0 0,.string ⟨#[]⟩,.string U] 53 (0,0))):=hid (by rw[<-hW1,<-hbx];exact heap_alloc_new w _);have hs1:W1.heap.size=bx+1:=by rw[<-hW1,<-hbx];simp
 obtain⟨W0,hW0⟩:=nmd (W1.alloc (.cells #[.int .i64 0,.string ⟨#[]⟩,.bool false,.int .u64 0,.slice none 0 0,.slice none 0 0,.string ⟨#[]⟩,.string ⟨#[]⟩] 53))
 have HB0:Hid (Below w.heap.size w W0):=hid (by rw[<-hW0];exact zb HB1.out (zd _ _));have HG0:Hid (W0.heap[bx+1]?=some (.cells #[.int .i64 0,.string ⟨#[]⟩,.bool false,.int .u64 0,.slice none 0 0,.slice none 0 0,.string ⟨#[]⟩,.string ⟨#[]⟩] 53 (0,0))):=hid (by rw[<-hW0,<-hs1];exact heap_alloc_new W1 _);have HX0:Hid (W0.heap[bx]?=some (.cells #[.int .i64 6,.string ⟨#[]⟩,.bool false,.int .u64 0,.slice none 0 0,.slice none 0 0,.string ⟨#[]⟩,.string U] 53 (0,0))):=hid (by rw[<-hW0];exact(Below.heap_alloc _ _ _ (by omega)).trans HX1.out);have hs0:W0.heap.size=bx+2:=by rw[<-hW0];simp[hs1]
 have HF:=hid (kx X d W0 (by omega) hd.2);have HW1:=hid hW1;have HW0:=hid hW0;have HBX:=hid hbx;have HS1:=hid hs1;have HS0:=hid hs0;have HDD:=hid hd;have HSS:=hid hX;clear hW0 hW1 hbx hs0 hd hX
 cases hw:y8 X.data.toList d with
 | error c =>
  have HBR:Hid (RES=.error c):=hid (by rw[<-HRES.out,Yg,hw];rfl);have HW:=hid hw;clear hw hs1;go_enter Tryz.func111,Tryz.ntmps111;go_wp2_with fail;rw[HBX.out,HW1.out,HW0.out];refine HF.out.mono ?_;intro e w1 hpost;unfold xe at hpost
  rw[HW.out]at hpost;obtain⟨hb1,rfl⟩:=hpost;have HB1:=hid (zb HB0.out hb1);have HG1:=hid ((hb1.block _ (z8 HG0.out)).trans HG0.out);clear hb1;go_wp2_with fail
  go_loopg [9,10] 0 (fun k b i wr=>b=.bool false/\i=.int .i64 0/\wr=w1)
  case atStart=>exact⟨rfl,rfl,rfl⟩
  case round =>
   obtain⟨rfl,rfl,rfl⟩:=hrel;have hg0:=rc0 HG1.out;have fg0:=z7 HG1.out 0;have hg1:=rc1 HG1.out;have fg1:=z7 HG1.out 1;have hg2:=rc2 HG1.out;have fg2:=z7 HG1.out 2;have hg3:=rc3 HG1.out;have fg3:=z7 HG1.out 3;have hg4:=rc4 HG1.out;have fg4:=z7 HG1.out 4;have hg5:=rc5 HG1.out;have fg5:=z7 HG1.out 5;have hg6:=rc6 HG1.out;have fg6:=z7 HG1.out 6;have hg7:=rc7 HG1.out;have fg7:=z7 HG1.out 7;go_wp2_with fail;have hua:=y5 wr (bx+1) (.int .i64 0) (.string ⟨#[]⟩) (.bool false) (.int .u64 0) (.slice none 0 0) (.slice none 0 0) (.string ⟨#[]⟩) (.string ⟨#[]⟩);refine zi rfl rfl (ye (y4 HG1.out _ _ _ _ _ _ _ _) rfl) rfl ?_;refine⟨HB1.out.trans (hua.below (by have:=HB1.out.size;omega) (fun k _ h=>by have h:k=bx+1:=h;have:=HBX.out;omega)),?_⟩;rw[HBR.out];exact rfl
 | ok rs =>
  have HBR:Hid (yf (zm f) X.data.toList d=match zg itk (yc (zm f) (d-1)) [] rs with | .error c => .error c | .ok xs => .ok (xs,munk itk rs)):=hid (by rw[Yg,hw];cases hq:zg itk (yc (zm f) (d-1)) [] rs<;>simp only[hq]);have HD0:Hid (0<=d):=hid (by unfold y8 at hw;split at hw;cases hw;omega);have HWA:Hid (wall X.data.toList d=.ok rs):=hid (by unfold y8 at hw;split at hw;cases hw;exact hw);have HLL:Hid (rs.length<=X.size):=hid (by have:=kd HWA.out;simpa using this);have HRAW:Hid (rs.flatMap Rec.raw=X.data.toList):=hid (xh _ (Nat.le_refl _) HWA.out).1;have HREC:Hid (∀r∈rs,zt d r):=hid (xp _ (Nat.le_refl _) HWA.out);have HW:=hid hw;clear hw hs1;go_enter Tryz.func111,Tryz.ntmps111;go_wp2_with fail;rw[HBX.out,HW1.out,HW0.out];refine HF.out.mono ?_;intro e w1 hpost;unfold xe at hpost
  rw[HW.out]at hpost;obtain⟨hb1,u,rfl,hown⟩:=hpost;obtain⟨lo,lcap,rfl⟩:=zh hown;have HB1:=hid (zb HB0.out hb1);have HO1:=hid hown;have HG1:=hid ((hb1.block _ (z8 HG0.out)).trans HG0.out);have HX1:=hid ((hb1.block _ (z8 HX0.out)).trans HX0.out);clear hb1 hown;go_wp2_with fail
  go_loopg [9,10] rs.length (fun k b i wr=>∃(j:Nat) (v:Value) (I:ByteArray) (xs:List KV),i=.int .i64 j/\j+k=rs.length/\Upd (fun k=>k=bx) w1 wr/\wr.heap[bx]?=some (.cells #[.int .i64 6,.string ⟨#[]⟩,.bool false,.int .u64 0,.slice none 0 0,v,.string I,.string U] 53 (0,0))/\KLB w1.heap.size v xs wr/\Hid (I.size<=((rs.take j).flatMap Rec.raw).length)/\xs.length<=j/\(b=.bool true/\Hid (zg itk (yc (zm f) (d-1)) [] (rs.take j)=.ok xs/\I.data.toList=munk itk (rs.take j))∨b=.bool false/\∃c,zg itk (yc (zm f) (d-1)) [] rs=.error c))
  case atStart=>exact⟨0,.slice none 0 0,⟨#[]⟩,[],rfl,by omega,Upd.refl _ _,HX1.out,KLB.nil _ _,hid (by simp[ByteArray.size]),Nat.le_refl _,.inl ⟨rfl,hid ⟨rfl,rfl⟩⟩⟩
  case round =>
   obtain⟨j,v,I,xs,rfl,hj,hur,hx,hlb,HSZ,hxl,hcase⟩:=hrel;have HU1:=hid hur;have HXR:=hid hx;have HJ:=hid hj;have HLB:=hid hlb;have HN:Hid (w1.heap.size<=wr.heap.size):=hid hur.size;have hjl:j<=1000000:=by have:=HLL.out;have:=HSS.out;omega
   have HGR:=hid ((hur.block _ (z8 HG1.out) (by omega)).trans HG1.out);have HWB:Hid (Below w.heap.size w wr):=hid (HB1.out.trans (hur.below (by have:=HB1.out.size;omega) (fun k _ h=>by have h:k=bx:=h;have:=HBX.out;omega)));clear hur hx hj hlb
   rcases hcase with ⟨rfl,hst⟩|⟨rfl,c,hm⟩
   case inr =>
    have HBE:Hid (RES=.error c):=hid (by rw[<-HRES.out,HBR.out,hm];rfl);clear hm;have hg0:=rc0 HGR.out;have fg0:=z7 HGR.out 0;have hg1:=rc1 HGR.out;have fg1:=z7 HGR.out 1;have hg2:=rc2 HGR.out;have fg2:=z7 HGR.out 2;have hg3:=rc3 HGR.out;have fg3:=z7 HGR.out 3;have hg4:=rc4 HGR.out;have fg4:=z7 HGR.out 4;have hg5:=rc5 HGR.out;have fg5:=z7 HGR.out 5;have hg6:=rc6 HGR.out;have fg6:=z7 HGR.out 6;have hg7:=rc7 HGR.out;have fg7:=z7 HGR.out 7
    by_cases hlt:j<rs.length
    all_goals
     go_wp2_with fail;have hua:=y5 wr (bx+1) (.int .i64 0) (.string ⟨#[]⟩) (.bool false) (.int .u64 0) (.slice none 0 0) (.slice none 0 0) (.string ⟨#[]⟩) (.string ⟨#[]⟩);refine zi rfl rfl (ye (y4 HGR.out _ _ _ _ _ _ _ _) rfl) rfl ?_;refine⟨HWB.out.trans (hua.below (by have:=HWB.out.size;omega) (fun k _ h=>by have h:k=bx+1:=h;have:=HBX.out;omega)),?_⟩;rw[HBE.out];exact rfl
   case inl =>
    have HST:=hid hst.out.1;have HIN:=hid hst.out.2;clear hst
    by_cases hlt:j<rs.length
    ·have HO:=hid (HU1.out.own HO1.out (fun k hk e=>by have e:k=bx:=e;have:=(HO1.out.lt k hk).1;have:=HS0.out;omega))
     obtain⟨gr,cg,hv,hg1,hg2,_,_⟩:=yj HO.out (by omega)
     simp only[Value.slice.injEq]at hv
     obtain⟨rfl,_,rfl⟩:=hv;obtain⟨r,HRJ⟩:∃r,Hid (rs[j]=r):=⟨_,hid rfl⟩
     have HRA:Hid (xg wr gr (j*5) r):=hid (by rw[<-HRJ.out];exact z45 HO.out hlt);have HGN:Hid (gr<w1.heap.size):=hid (HO1.out.lt gr rfl).2;have HGX:Hid (gr≠bx):=hid (by have:=HS0.out;omega);have HTK:Hid (rs.take (j+1)=rs.take j++[r]):=hid (by rw[List.take_succ_eq_append_getElem hlt,HRJ.out]);have HRR:Hid (zt d r):=hid (HREC.out r (HRJ.out ▸ List.getElem_mem hlt))
     have HSUM:Hid (I.size+r.raw.length<=((rs.take (j+1)).flatMap Rec.raw).length/\((rs.take (j+1)).flatMap Rec.raw).length<=X.size/\r.s.length+1<=r.raw.length):=hid (by
      have h1:=jr HRAW.out (j+1);have h2:=HSZ.out;have h5:X.data.toList.length=X.size:=by simp
      have h6:=q5 HRR.out;rw[HTK.out,List.flatMap_append,List.length_append]at h1 ⊢;have h4:([r].flatMap Rec.raw).length=r.raw.length:=by simp
      omega)
     clear hg1;go_wp2_with fail;obtain⟨D,hD⟩:=nmd (wr.drew)
     have HBD:Hid (Below wr.heap.size wr D):=hid (by rw[<-hD];exact(Below.refl _ _).drew);have Hkread:Hid (xg D gr (j*5) r):=hid (HRA.out.below HBD.out hg2);have hne:Nonempty {w':World // xg w' gr (j*5) r}:=⟨⟨_,Hkread.out⟩⟩
     refine zj (S:=fun w'=>xg w' gr (j*5) r) [(1,true),(2,true),(3,true),(4,true),(0,false),(5,false),(6,true)] (by kernel_rfl) (by kernel_rfl) (by kernel_rfl) (by kernel_rfl) (by rw[hD];exact Hkread.out) ?_;rw[hD];clear hD
     iterate 2 (refine zf _ rfl (fun K2 hK=>?_);go_simp;(first|refine hK _ ?_|refine⟨_,fun _ _=>rfl,hK _ ?_⟩);clear hK K2)
     refine zf _ rfl (fun K2 hK=>?_);go_simp
     (first|refine hK _ ?_|refine⟨.pointer (some ⟨gr,j*5,none⟩),fun _ _=>if_pos (by omega),hK _ ?_⟩)
     clear hK K2;refine zf _ rfl (fun K2 hK=>?_);go_simp;refine⟨.agg #[.int .i64 r.num,.int .i64 r.ty,.int .u64 r.n,.string ⟨r.s.toArray⟩,.string ⟨r.raw.toArray⟩],fun a ha=>by(obtain⟨e0,e1,e2,e3,e4⟩:=ha);simp only[e0,e1,e2,e3,e4,Result.andThen],hK _ ?_⟩;clear hK K2;refine zo _ rfl (fun K2 hK=>?_);go_simp;refine(z5v D).mono ?_;rintro e w4 ⟨to,rfl,HNT,hb4⟩;have HB4:=hid (zb HBD.out hb4);have HR4:Hid (xg w4 gr (j*5) r):=hid (HRA.out.below HB4.out hg2);go_simp;refine hK.out _ _ HR4.out ?_;clear hK K2 hb4;refine zo _ rfl (fun K2 hK=>?_);go_simp;refine(kz [10] to 1 r w4 HNT (by decide) (by decide)).mono ?_;rintro e w5 ⟨rfl,hb5⟩;rw[<-z9h];have HB5:=hid (zb HB4.out hb5);have HR5:Hid (xg w5 gr (j*5) r):=hid (HRA.out.below HB5.out hg2);go_simp;refine hK.out _ _ HR5.out ?_;clear hK K2 hb5
     iterate 1 (refine zf _ rfl (fun K2 hK=>?_);go_simp;(first|refine hK _ ?_|refine⟨_,fun _ _=>rfl,hK _ ?_⟩);clear hK K2)
     refine zw ?_;have HX5:=hid ((HB5.out.block _ (z8 HXR.out)).trans HXR.out);have HU5:Hid (Upd (fun k=>k=bx) w1 w5):=hid (HU1.out.trans (Upd.of_new HB5.out));have HL5:Hid (KLB w1.heap.size v xs w5):=hid (HLB.out.upd (Upd.of_new (S:=fun _=>False) HB5.out) (fun _ _ _ h=>h));have hxb:=z8 HX5.out;have hN5:w1.heap.size<=w5.heap.size:=HU5.out.size;obtain⟨S,hS⟩:∃S:ByteArray,(⟨r.s.toArray⟩:ByteArray)=S:=⟨_,rfl⟩
     obtain⟨R,hR⟩:∃S:ByteArray,(⟨r.raw.toArray⟩:ByteArray)=S:=⟨_,rfl⟩
     have HSD:Hid (S.data.toList=r.s):=hid (by rw[<-hS]);have Hkread2:Hid (R.data.toList=r.raw):=hid (by rw[<-hR]);have HS2:=hid hS;have HR2:=hid hR;rw[hS,hR];clear hS hR hne;have HSZ1:Hid (S.size=r.s.length):=hid (by rw[<-HSD.out];simp);have HRZ:Hid (R.size=r.raw.length):=hid (by rw[<-Hkread2.out];simp)
     cases htk:itk r with
     | false =>
      have HTN:=hid htk;have hsum:=HSUM.out;have hss:=HSS.out;have hsz:¬9223372036854775807<I.size+R.size:=by have:=HRZ.out;omega
      obtain⟨D2,hD2⟩:∃D,w5.drew=D:=⟨_,rfl⟩
      have HBD2:Hid (Below w5.heap.size w5 D2):=hid (by rw[<-hD2];exact(Below.refl _ _).drew);have HX6:=hid ((HBD2.out.block _ hxb).trans HX5.out);have hS:xg D2 gr (j*5) r/\D2.heap[bx]?=some (.cells #[.int .i64 6,.string ⟨#[]⟩,.bool false,.int .u64 0,.slice none 0 0,v,.string I,.string U] 53 (0,0)):=⟨HR5.out.below HBD2.out (by have:=HB5.out.size;omega),HX6.out⟩
      have hne:Nonempty {w':World // xg w' gr (j*5) r/\w'.heap[bx]?=some (.cells #[.int .i64 6,.string ⟨#[]⟩,.bool false,.int .u64 0,.slice none 0 0,v,.string I,.string U] 53 (0,0))}:=⟨⟨_,hS⟩⟩
      have hx6:∀t:{w':World // xg w' gr (j*5) r/\w'.heap[bx]?=some (.cells #[.int .i64 6,.string ⟨#[]⟩,.bool false,.int .u64 0,.slice none 0 0,v,.string I,.string U] 53 (0,0))},t.1.cell? ⟨bx,6,none⟩=some (.string I):=fun t=>za t.2.2 (j:=6) rfl
      have hr4:∀t:{w':World // xg w' gr (j*5) r/\w'.heap[bx]?=some (.cells #[.int .i64 6,.string ⟨#[]⟩,.bool false,.int .u64 0,.slice none 0 0,v,.string I,.string U] 53 (0,0))},t.1.cell? ⟨gr,j*5+4,none⟩=some (.string R):=fun t=>by rw[t.2.1.2.2.2.2,HR2.out]
      have hfz:=z7 HX6.out 6;have hc6:=rc6 HX6.out;clear htk;go_wp2_with fail;refine Zl (fun w'=>xg w' gr (j*5) r/\w'.heap[bx]?=some (.cells #[.int .i64 6,.string ⟨#[]⟩,.bool false,.int .u64 0,.slice none 0 0,v,.string I,.string U] 53 (0,0))) [9] [(0,true),(1,true),(2,true),(3,true),(4,true),(5,true),(6,true),(7,true),(8,true),(9,false)] (by kernel_rfl) (by kernel_rfl) (by kernel_rfl) (by kernel_rfl) ?_;rw[hD2]
      iterate 9 (refine X7 _ rfl hS (fun K hK=>?_);go_simp;(first|refine hK _ ?_|refine⟨_,fun _ _=>rfl,hK _ ?_⟩|refine⟨.pointer (some ⟨gr,j*5,none⟩),fun _ _=>if_pos (by omega),hK _ ?_⟩);clear hK K)
      refine Yc _ rfl (fun K hK=>?_);go_simp;refine hK.out _ _ (fun h=>by cases h) ?_;clear hK K;refine Qv ?_;have hu:=Upd.set D2 ⟨bx,6,none⟩ (.string (I++R));go_wp2_with fail;have hj:=HJ.out
      go_roundg (gk-1)
      case measure=>omega
      case rel =>
       refine⟨j+1,v,I++R,xs,by simp,by omega,(HU5.out.trans (Upd.of_new HBD2.out)).trans hu,ze HX6.out 6 _,(HL5.out.upd (Upd.of_new (S:=fun _=>False) HBD2.out) (fun _ _ _ h=>h)).upd hu (fun k hk _ h=>by have h:k=bx:=h;have:=z8 HX1.out;omega),hid (by rw[ByteArray.size_append];have:=HRZ.out;omega),by omega,.inl ⟨rfl,hid ⟨by rw[HTK.out];exact Y8 HST.out HTN.out,by rw[HTK.out,Yx HTN.out,ByteArray.data_append,Array.toList_append,HIN.out,Hkread2.out]⟩⟩⟩
     | true =>
      have HTN:=hid htk;have HMU:Hid (munk itk (rs.take (j+1))=munk itk (rs.take j)):=hid (by rw[HTK.out,Ya HTN.out]);have HMY:Hid (zg itk (yc (zm f) (d-1)) [] (rs.take (j+1))=yc (zm f) (d-1) xs r):=hid (by rw[HTK.out];exact kq HST.out HTN.out);have hx0:=rc0 HX5.out;have hr3:w5.cell? ⟨gr,j*5+3,none⟩=some (.string S):=by rw[HR5.out.2.2.2.1,HS2.out]
      have q1:IntKind.i64.wrap (d-1)=d-1:=IntWalk.i64_in _ (by have:=HDD.out;have:=HD0.out;omega);have HCV:=hid (hrv.out S (d-1) w5 (by have:=HSZ1.out;have:=HSUM.out;omega) (by have:=HDD.out;have:=HD0.out;omega));clear htk;go_wp2_with fail;refine HCV.out.mono ?_;intro e w6 hpost;obtain⟨hb6,hcase⟩:=hpost;obtain⟨gb,x,cs,rfl,hrel,hok,hno⟩:=kres hcase;rw[HSD.out]at hok hno;have HB6:=hid hb6;have HOK:=hid hok;have HNO:=hid hno;have HREL:=hid hrel;obtain⟨K0,h0,k,S1,b0,n,l1,ln,lc,mo,mn,mc,I0,U0,U1,hcs⟩:=hrel.form;have HCS:=hid hcs;rw[hcs];clear hcs hrel hok hno hb6 hx0 hr3;obtain⟨css,Q,h1,h2,h3,h4⟩:=HL5.out;obtain⟨ao,cap,rfl⟩:=zh h1;have HO5:=hid h1;have H2:=hid h2;have H3:=hid h3;have H4:=hid h4;clear h1 h2 h3 h4;have HO6:=hid (y6 HO5.out HB6.out);have HX6:=hid ((HB6.out.block _ (z8 HX5.out)).trans HX5.out);have hxlt:=z8 HX6.out;have hx4:(w6.alloc (.cells #[.string K0,.bool h0,.int .i64 k,.string S1,.bool b0,.int .u64 n,.slice l1 ln lc,.slice mo mn mc,.string I0,.string U0,.string U1] 55)).cell? ⟨bx,5,none⟩=some (.slice ao xs.length cap):=za ((Below.heap_alloc _ _ _ hxlt).trans HX6.out) (j:=5) rfl;have hN7:w1.heap.size<=(w6.alloc (.cells #[.string K0,.bool h0,.int .i64 k,.string S1,.bool b0,.int .u64 n,.slice l1 ln lc,.slice mo mn mc,.string I0,.string U0,.string U1] 55)).heap.size:=by have:=HB6.out.size;simp;omega
      have hxm:xs.length<=1000000:=by omega
      have hnb:¬(Value.slice ao xs.length cap).ownBlock=some bx:=fun h=>by have:=(HO6.out.lt _ h).1;have:=z8 HX1.out;omega
      have HX8:Hid ((w6.alloc (.cells #[.string K0,.bool h0,.int .i64 k,.string S1,.bool b0,.int .u64 n,.slice l1 ln lc,.slice mo mn mc,.string I0,.string U0,.string U1] 55)).heap[bx]?=some (.cells #[.int .i64 6,.string ⟨#[]⟩,.bool false,.int .u64 0,.slice none 0 0,.slice ao xs.length cap,.string I,.string U] 53 (0,0))):=hid ((Below.heap_alloc _ _ _ hxlt).trans HX6.out);go_wp2_with (at_builtin;(refine xw (c:=1) (cs:=[.string K0,.bool h0,.int .i64 k,.string S1,.bool b0,.int .u64 n,.slice l1 ln lc,.slice mo mn mc,.string I0,.string U0,.string U1]) rfl _ _ 23 rfl Tryz.elKL (by decide) (HO6.out.alloc _) rfl (by show Value.slice (some ⟨w6.heap.size+1,0,none⟩) 1 1=_;simp) rfl (by simp[Value.oneCell']) (by unfold maxLen;omega) (by omega) hN7 ?_);intro g2 cap2 w9 hown9 hgrow9 hg9;have HX9:=hid ((hgrow9.block _ (z8 HX8.out) (fun e=>hnb e.symm)).trans HX8.out);have hf9:=z7 HX9.out 5;have hc9:=rc5 HX9.out);have hgu:Upd (fun k=>(Value.slice ao xs.length cap).ownBlock=some k) (w6.alloc (.cells #[.string K0,.bool h0,.int .i64 k,.string S1,.bool b0,.int .u64 n,.slice l1 ln lc,.slice mo mn mc,.string I0,.string U0,.string U1] 55)) w9:=Upd.of_grown hgrow9;have hu6:Upd (fun k=>(Value.slice ao xs.length cap).ownBlock=some k) w6 w9:=(Upd.alloc _ _ _).trans hgu;have HL9:Hid (KLB w1.heap.size (.slice (some ⟨g2,0,none⟩) (xs.length+1) cap2) (xs++[x]) w9):=hid (KLB.add HO5.out H2.out H3.out H4.out hN5 HB6.out HREL.out hu6 (by rw[HCS.out];exact hown9) (hg9.imp id (fun h=>Nat.le_trans (Upd.alloc (fun _=>False) w6 _).size h)));have hu:=Upd.set w9 ⟨bx,5,none⟩ (.slice (some ⟨g2,0,none⟩) (xs.length+1) cap2);have HL10:=hid (HL9.out.upd hu (fun k hk _ h=>by have h:k=bx:=h;have:=z8 HX1.out;omega));have HU9:Hid (Upd (fun k=>k=bx) w1 (w9.setCell ⟨bx,5,none⟩ (.slice (some ⟨g2,0,none⟩) (xs.length+1) cap2))):=hid ((HU5.out.trans' (((Upd.of_new HB6.out).trans hu6)) (fun k hk h=>by have:=(HO5.out.lt k h).1;omega)).trans hu);have hj:=HJ.out
      go_roundg (gk-1)
      case measure=>omega
      case rel =>
       refine⟨j+1,.slice (some ⟨g2,0,none⟩) (xs.length+1) cap2,I,xs++[x],by simp,by omega,HU9.out,ze HX9.out 5 _,HL10.out,hid (by have:=HSUM.out;omega),by simp;omega,?_⟩
       cases gb with
       | true=>exact .inl ⟨rfl,hid ⟨by rw[HMY.out];unfold yc;rw[HOK.out rfl],by rw[HMU.out];exact HIN.out⟩⟩
       | false =>
        obtain⟨c,hc⟩:=HNO.out rfl;exact .inr ⟨rfl,c,k8 (j:=j+1) (by rw[HMY.out];unfold yc;rw[hc])⟩
    ·have hjn:j=rs.length:=by have:=HJ.out;omega
     have hg0:=rc0 HGR.out;have fg0:=z7 HGR.out 0;have hg1:=rc1 HGR.out;have fg1:=z7 HGR.out 1;have hg2:=rc2 HGR.out;have fg2:=z7 HGR.out 2;have hg3:=rc3 HGR.out;have fg3:=z7 HGR.out 3;have hg4:=rc4 HGR.out;have fg4:=z7 HGR.out 4;have hg5:=rc5 HGR.out;have fg5:=z7 HGR.out 5;have hg6:=rc6 HGR.out;have fg6:=z7 HGR.out 6;have hg7:=rc7 HGR.out;have fg7:=z7 HGR.out 7;have hm:=HST.out;have hI:=HIN.out;rw[hjn,List.take_length]at hm hI;have HBE:Hid (RES=.ok (.mk 6 [] false 0 [] xs I.data.toList U.data.toList)):=hid (by rw[<-HRES.out,HBR.out,hm,<-hI];rfl);obtain⟨ao,cap,rfl⟩:=HLB.out.slice;have hx0:=rc0 HXR.out;have fx0:=z7 HXR.out 0;have hx1:=rc1 HXR.out;have fx1:=z7 HXR.out 1;have hx2:=rc2 HXR.out;have fx2:=z7 HXR.out 2;have hx3:=rc3 HXR.out;have fx3:=z7 HXR.out 3;have hx4:=rc4 HXR.out;have fx4:=z7 HXR.out 4;have hx5:=rc5 HXR.out;have fx5:=z7 HXR.out 5;have hx6:=rc6 HXR.out;have fx6:=z7 HXR.out 6;have hx7:=rc7 HXR.out;have fx7:=z7 HXR.out 7;clear hm hI hjn;go_wp2_with fail;have hua:=y5 wr (bx+1) (.int .i64 6) (.string ⟨#[]⟩) (.bool false) (.int .u64 0) (.slice none 0 0) (.slice ao xs.length cap) (.string I) (.string U);refine zi rfl rfl (ye (y4 HGR.out _ _ _ _ _ _ _ _) rfl) rfl ?_;refine⟨HWB.out.trans (hua.below (by have:=HWB.out.size;omega) (fun k _ h=>by have h:k=bx+1:=h;have:=HBX.out;omega)),?_⟩;rw[HBE.out];refine⟨_,rfl,?_⟩;rw[VRel];refine⟨none,0,ao,cap,by unfold strV;simp only[J8];rfl,?_,?_⟩
     ·rw[yv];trivial
     ·exact y7.upd hua (fun k hk h=>by have h:k=bx+1:=h;have:=z8 HG1.out;omega) (fun k hk=>by have:=HB1.out.size;omega) _ _ _ HLB.out.rels
end Go.Proofs.YtmlghmjjlpioeaaGreatDoor
