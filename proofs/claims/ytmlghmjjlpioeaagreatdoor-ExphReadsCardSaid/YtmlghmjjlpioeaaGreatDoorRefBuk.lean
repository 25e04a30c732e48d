/-
  hygref13.buckets, ReadBuckets, MayBuckets, Buckets.
-/
import Derived.Test.YtmlghmjjlpioeaaGreatDoorRefMsg
import Derived.Test.YtmlghmjjlpioeaaGreatDoorBukRef
set_option maxRecDepth 1000000
set_option maxHeartbeats 16000000
namespace Go.Proofs.YtmlghmjjlpioeaaGreatDoor
open Go.RowKit
open Lib (hid)
theorem nats3 (w:World)(a b c:Nat):Nats .i64 (w.alloc (.cells #[.int .i64 a,.int .i64 b,.int .i64 c] 3)) (some ⟨w.heap.size,0,none⟩) [a,b,c]:=by
 intro _;refine⟨w.heap.size,0,rfl,by simp,fun j hj=>?_⟩;have:j=0∨j=1∨j=2:=by simp at hj;omega
 rcases this with rfl|rfl|rfl
 ·exact za (heap_alloc_new w _) (j:=0) rfl
 ·exact za (heap_alloc_new w _) (j:=1) rfl
 ·exact za (heap_alloc_new w _) (j:=2) rfl
theorem zbp (w:World):Calls Tryz.prog 73 #[] w fun e w'=>∃ao,e=.returned (.slice ao 3 3)/\Hid (Nats .i64 w' ao [8,16,18])/\Below w.heap.size w w':=by
 have HN:=hid (nats3 w 8 16 18);go_enter Tryz.func73,Tryz.ntmps73;go_wp2_with fail;go_ret;exact⟨_,rfl,HN,zd _ _⟩
theorem btk_rtk (r:Rec):btk r=rtk [8,16,18] r:=by
 unfold btk rtk;rw[Bool.eq_iff_iff]
 simp
 omega
def RbAt (b:Nat)(x:Bk)(U:ByteArray)(w:World):Prop:=∃v,w.heap[b]?=some (.cells #[.int .i32 x.off,v,.string U] 29 (0,0))/\w.ownsRow (b+1) 24 1 v x.cs.length (y9 x.cs)
def RBPost (s:ByteArray)(d:Int)(w:World)(e:Ending)(w':World):Prop :=
 Below w.heap.size w w'/\match yx s.data.toList d with
  | .error _=>e=.returned (.tuple #[bukV ⟨0,[]⟩ (.slice none 0 0) [],.bool false])
  | .ok (x,u)=>∃v,e=.returned (.tuple #[bukV x v u,.bool true])/\w'.ownsRow w.heap.size 24 1 v x.cs.length (y9 x.cs)
theorem z02 {l:List UInt8}{d:Int}:yx l d=match y8 l d with
  | .error c => .error c
  | .ok rs=>match zg btk x9 ⟨0,[]⟩ rs with
   | .error c => .error c
   | .ok x => .ok (x,munk btk rs):=by
 unfold yx zq y8
 split
 ·rfl
 ·cases wall l d with
  | error c=>rfl
  | ok rs =>
   dsimp only
   cases zg btk x9 ⟨0,[]⟩ rs<;>rfl
theorem zeo {σ:Type}{tk:Rec->Bool}{step:σ->Rec->Except Nat σ}{st y:σ}{rs:List Rec}{r:Rec}(h:zg tk step st rs=.ok y)(ht:tk r=false):zg tk step st (rs++[r])=.ok y:=by
 rw[yr,h]
 simp[zg,ht]
theorem zdb {σ:Type}{tk:Rec->Bool}{step:σ->Rec->Except Nat σ}{st y:σ}{rs:List Rec}{r:Rec}(h:zg tk step st rs=.ok y)(ht:tk r=true):zg tk step st (rs++[r])=step y r:=by
 rw[yr,h]
 simp only[zg,ht,if_true]
 cases step y r<;>rfl
theorem munk_no {tk:Rec->Bool}{rs:List Rec}{r:Rec}(ht:tk r=false):munk tk (rs++[r])=munk tk rs++r.raw:=by
 unfold munk q7
 simp[List.filter_append,ht]
theorem zeh {tk:Rec->Bool}{rs:List Rec}{r:Rec}(ht:tk r=true):munk tk (rs++[r])=munk tk rs:=by
 unfold munk q7
 simp[List.filter_append,ht]
theorem zbo {σ:Type}{tk:Rec->Bool}{step:σ->Rec->Except Nat σ}{st:σ}{rs:List Rec}{j c:Nat}(h:zg tk step st (rs.take j)=.error c):zg tk step st rs=.error c:=by
 conv=>lhs;rw[<-List.take_append_drop j rs]
 rw[yr,h]
theorem z6w:∀(f:Nat) {l:List UInt8} {c:Nat},wvs f l=.error c->c=1∨c=4
 | 0,l,c,h=>by
  rw[wvs]at h
  first|(cases h)|(split at h<;>cases h)
 | f + 1,l,c,h=>by
  rw[wvs]at h
  split at h
  ·cases h
  ·cases hv:wv l with
   | error c' =>
    rw[hv]at h
    simp only[Except.error.injEq]at h
    subst h;exact Yh hv
   | ok x =>
    rw[hv]at h;dsimp only at h
    cases hk:wvs f (l.drop x.2)with
    | error c' =>
     rw[hk]at h
     simp only[Except.error.injEq]at h
     subst h;exact z6w f hk
    | ok ns=>rw[hk]at h;cases h
theorem X4 {w w1:World}(h:Below w.heap.size w w1){b:Nat}(hb:w.heap.size<=b)(x y z:Value):Below w.heap.size w (((w1.setCell ⟨b,0,none⟩ x).setCell ⟨b,1,none⟩ y).setCell ⟨b,2,none⟩ z) :=
 kl (kl (kl h hb 0 x) hb 1 y) hb 2 z
theorem z7n (s:ByteArray)(d:Int)(w:World)(hs:s.size<=1000000)(hd:d<=9223372036854775807) :
  Calls Tryz.prog 28 #[.string s,.int .i64 d] w (RBPost s d w):=by
 obtain⟨g,hg⟩:=nmd (w.heap.size)
 obtain⟨W0,hW0⟩:=nmd (w.alloc (.cells #[.int .i32 0,.slice none 0 0,.string ⟨#[]⟩] 29))
 have HB0:Hid (Below w.heap.size w W0):=hid (by rw[<-hW0];exact zd _ _);have HR0:Hid (W0.heap[g]?=some (.cells #[.int .i32 0,.slice none 0 0,.string ⟨#[]⟩] 29 (0,0))):=hid (by rw[<-hW0,<-hg];exact heap_alloc_new w _);have HF:=hid (kx s d W0 (by omega) hd);have HW0:=hid hW0;have HGG:=hid hg;clear hW0
 cases hw:y8 s.data.toList d with
 | error c =>
  have HBR:Hid (yx s.data.toList d=.error c):=hid (by rw[z02,hw]);have HW:=hid hw;clear hw hd hs;go_enter Tryz.func28,Tryz.ntmps28;go_wp2_with fail;rw[HW0.out];refine HF.out.mono ?_;intro e w1 hpost;unfold xe at hpost
  rw[HW.out]at hpost;obtain⟨hb1,rfl⟩:=hpost;have HB1:=hid (zb HB0.out hb1);have HR1:Hid (w1.heap[g]?=some (.cells #[.int .i32 0,.slice none 0 0,.string ⟨#[]⟩] 29 (0,0))):=hid ((hb1.block _ (z8 HR0.out)).trans HR0.out);clear hb1;go_wp2_with fail;obtain⟨W2,hW2⟩:=nmd (w1.alloc (.cells #[.int .i32 0,.slice none 0 0,.string ⟨#[]⟩] 29))
  have HB2:Hid (Below w.heap.size w W2):=hid (by rw[<-hW2];exact zb HB1.out (zd _ _));have HR2:Hid (W2.heap[g]?=some (.cells #[.int .i32 0,.slice none 0 0,.string ⟨#[]⟩] 29 (0,0))):=hid (by rw[<-hW2];exact(Below.heap_alloc _ _ _ (z8 HR1.out)).trans HR1.out);rw[hW2];clear hW2;have hfz:=z7 HR2.out 0;have hfz1:=z7 HR2.out 1;have hfz2:=z7 HR2.out 2;have hc0:=rc0 HR2.out;have hc1:=rc1 HR2.out;have hc2:=rc2 HR2.out
  go_loopg [7,9] 0 (fun k b i wr=>b=.bool false/\i=.int .i64 0/\wr=W2)
  case atStart=>exact⟨rfl,rfl,rfl⟩
  case round =>
   obtain⟨rfl,rfl,rfl⟩:=hrel;go_wp2_with fail;refine kv rfl rfl (jj (j2 HR2.out _ _ _) rfl) rfl ?_;refine⟨X4 HB2.out (by have:=HGG.out;omega) _ _ _,?_⟩;rw[HBR.out];exact rfl
 | ok rs =>
  have HBR:Hid (yx s.data.toList d=match zg btk x9 ⟨0,[]⟩ rs with | .error c => .error c | .ok x => .ok (x,munk btk rs)):=hid (by rw[z02,hw]);have HWA:Hid (wall s.data.toList d=.ok rs):=hid (by unfold y8 at hw;split at hw;cases hw;exact hw);have HLL:Hid (rs.length<=s.size):=hid (by have:=kd HWA.out;simpa using this);have HRAW:Hid (rs.flatMap Rec.raw=s.data.toList):=hid (xh _ (Nat.le_refl _) HWA.out).1;have HREC:Hid (∀r∈rs,zt d r):=hid (xp _ (Nat.le_refl _) HWA.out);have HW:=hid hw;have HSS:=hid hs;clear hw hd hs;go_enter Tryz.func28,Tryz.ntmps28;go_wp2_with fail;rw[HW0.out];refine HF.out.mono ?_;intro e w1 hpost;unfold xe at hpost
  rw[HW.out]at hpost;obtain⟨hb1,u,rfl,hown⟩:=hpost;obtain⟨lo,lcap,rfl⟩:=zh hown;have HB1:=hid (zb HB0.out hb1);have HO1:=hid hown;have HR1:Hid (w1.heap[g]?=some (.cells #[.int .i32 0,.slice none 0 0,.string ⟨#[]⟩] 29 (0,0))):=hid ((hb1.block _ (z8 HR0.out)).trans HR0.out);clear hb1 hown;go_wp2_with fail;obtain⟨bx,hbx⟩:=nmd (w1.heap.size)
  obtain⟨W2,hW2⟩:=nmd (w1.alloc (.cells #[.int .i32 0,.slice none 0 0,.string ⟨#[]⟩] 29))
  have HB2:Hid (Below bx w1 W2):=hid (by rw[<-hW2,<-hbx];exact zd _ _);have HX2:Hid (RbAt bx ⟨0,[]⟩ ⟨#[]⟩ W2):=hid ⟨.slice none 0 0,by rw[<-hW2,<-hbx];exact heap_alloc_new w1 _,World.ownsRow_nil _ _ _ _⟩;rw[hW2,hbx];have HBX:=hid hbx;clear hW2 hbx
  go_loopg [7,9] rs.length (fun k b i wr=>∃(j:Nat) (x:Bk) (U:ByteArray),i=.int .i64 j/\Below bx w1 wr/\RbAt bx x U wr/\(b=.bool true/\j+k=rs.length/\Hid (zg btk x9 ⟨0,[]⟩ (rs.take j)=.ok x)/\Hid (U.data.toList=munk btk (rs.take j))∨b=.bool false/\∃c,zg btk x9 ⟨0,[]⟩ rs=.error c))
  case atStart=>exact⟨0,⟨0,[]⟩,⟨#[]⟩,rfl,HB2.out,HX2.out,.inl ⟨rfl,by omega,hid rfl,hid rfl⟩⟩
  case round =>
   obtain⟨j,x,U,rfl,hbr,hx,hcase⟩:=hrel;have HBR1:=hid hbr;obtain⟨v,hx1,hx2⟩:=hx;obtain⟨ao,cap,rfl⟩:=zh hx2;have HX1:=hid hx1;have HX2:=hid hx2;have HG1:Hid (wr.heap[g]?=some (.cells #[.int .i32 0,.slice none 0 0,.string ⟨#[]⟩] 29 (0,0))):=hid ((hbr.block _ (by have:=z8 HR1.out;rw[HBX.out]at this;exact this)).trans HR1.out);have HWB:Hid (Below w.heap.size w wr):=hid (HB1.out.trans (hbr.mono (by have:=HB1.out.size;rw[HBX.out]at this;exact this)));clear hbr hx1 hx2;have hfz:=z7 HG1.out 0;have hfz1:=z7 HG1.out 1;have hfz2:=z7 HG1.out 2;have hc0:=rc0 HG1.out;have hc1:=rc1 HG1.out;have hc2:=rc2 HG1.out
   rcases hcase with ⟨rfl,hj,HM,HU⟩|⟨rfl,c,hm⟩
   case inr =>
    have HBE:Hid (yx s.data.toList d=.error c):=hid (by rw[HBR.out,hm]);clear hm
    by_cases hlt:j<rs.length
    ·go_wp2_with fail
     refine kv rfl rfl (jj (j2 HG1.out _ _ _) rfl) rfl ?_;refine⟨X4 HWB.out (by have:=HGG.out;omega) _ _ _,?_⟩;rw[HBE.out];exact rfl
    ·go_wp2_with fail
     refine kv rfl rfl (jj (j2 HG1.out _ _ _) rfl) rfl ?_;refine⟨X4 HWB.out (by have:=HGG.out;omega) _ _ _,?_⟩;rw[HBE.out];exact rfl
   have HJ:=hid hj;have hjl:j<=1000000:=by have:=HLL.out;have:=HSS.out;omega
   clear hj
   by_cases hlt:j<rs.length
   case neg =>
    have hjn:j=rs.length:=by have:=HJ.out;omega
    have HMR:Hid (zg btk x9 ⟨0,[]⟩ rs=.ok x):=hid (by rw[<-HM.out,hjn,List.take_length]);have HUR:Hid (U=⟨(munk btk rs).toArray⟩):=hid (ByteArray.ext (Array.ext' (by rw[HU.out,hjn,List.take_length])));have HBE:Hid (yx s.data.toList d=.ok (x,munk btk rs)):=hid (by rw[HBR.out,HMR.out]);have hx0:=rc0 HX1.out;have hx1:=rc1 HX1.out;have hx2:=rc2 HX1.out;clear hjn;go_wp2_with fail;have hu3:=km wr g (.int .i32 x.off) (.slice ao x.cs.length cap) (.string U);refine kv rfl rfl (jj (j2 HG1.out _ _ _) rfl) rfl ?_;refine⟨X4 HWB.out (by have:=HGG.out;omega) _ _ _,?_⟩;rw[HBE.out];have h9:=hu3.own HX2.out (fun k hk e=>by have:=(HX2.out.lt k hk).1;have:=z8 HR1.out;have:=HBX.out;omega);exact⟨_,by unfold bukV;rw[<-HUR.out];rfl,Xm h9 (by have:=HB1.out.size;have:=HBX.out;omega)⟩
   have HO:=hid (y6 HO1.out (by rw[HBX.out];exact HBR1.out));obtain⟨gr,cg,hv,hg1,hg2,_,_⟩:=yj HO.out (by omega)
   simp only[Value.slice.injEq]at hv
   obtain⟨rfl,_,rfl⟩:=hv;obtain⟨r,HRJ⟩:∃r,Hid (rs[j]=r):=⟨_,hid rfl⟩
   have hr0:wr.cell? ⟨gr,j*5,none⟩=some (.int .i64 r.num):=by rw[HO.out.cellAt (j*5) (by omega),show j*5=5*j+0 by omega,y0 hlt (by omega),HRJ.out];rfl
   have hr1:wr.cell? ⟨gr,j*5+1,none⟩=some (.int .i64 r.ty):=by rw[HO.out.cellAt (j*5+1) (by omega),show j*5+1=5*j+1 by omega,y0 hlt (by omega),HRJ.out];rfl
   have hr2:wr.cell? ⟨gr,j*5+2,none⟩=some (.int .u64 r.n):=by rw[HO.out.cellAt (j*5+2) (by omega),show j*5+2=5*j+2 by omega,y0 hlt (by omega),HRJ.out];rfl
   have hr3:wr.cell? ⟨gr,j*5+3,none⟩=some (.string ⟨r.s.toArray⟩):=by rw[HO.out.cellAt (j*5+3) (by omega),show j*5+3=5*j+3 by omega,y0 hlt (by omega),HRJ.out];rfl
   have hr4:wr.cell? ⟨gr,j*5+4,none⟩=some (.string ⟨r.raw.toArray⟩):=by rw[HO.out.cellAt (j*5+4) (by omega),show j*5+4=5*j+4 by omega,y0 hlt (by omega),HRJ.out];rfl
   clear hfz hfz1 hfz2 hc0 hc1 hc2;have HTK:Hid (rs.take (j+1)=rs.take j++[r]):=hid (by rw[List.take_succ_eq_append_getElem hlt,HRJ.out]);have HRR:Hid (zt d r):=hid (HREC.out r (HRJ.out ▸ List.getElem_mem hlt))
   have HSUM:Hid (U.size+r.raw.length<=s.size/\r.raw.length<=s.size/\x.cs.length+r.raw.length<=s.size):=hid (by
    have h1:=jr HRAW.out (j+1);rw[HTK.out,List.flatMap_append,List.length_append]at h1;have h2:=Xy btk (rs.take j);have h3:U.size=(munk btk (rs.take j)).length:=by rw[<-HU.out];simp
    have h4:([r].flatMap Rec.raw).length=r.raw.length:=by simp
    have h5:s.data.toList.length=s.size:=by simp
    have h6:=(Xd (d:=d) (rs.take j) (fun z hz=>HREC.out z (List.mem_of_mem_take hz)) HM.out).1;dsimp only[List.length_nil]at h6;omega)
   go_wp2_with fail;obtain⟨rb,hrb⟩:=nmd (wr.heap.size)
   obtain⟨W3,hW3⟩:=nmd (wr.alloc (.cells #[.int .i64 r.num,.int .i64 r.ty,.int .u64 r.n,.string ⟨r.s.toArray⟩,.string ⟨r.raw.toArray⟩] 88))
   have HB3:Hid (Below wr.heap.size wr W3):=hid (by rw[<-hW3];exact zd _ _);have HR3:Hid (W3.heap[rb]?=some (.cells #[.int .i64 r.num,.int .i64 r.ty,.int .u64 r.n,.string ⟨r.s.toArray⟩,.string ⟨r.raw.toArray⟩] 88 (0,0))):=hid (by rw[<-hW3,<-hrb];exact heap_alloc_new wr _);rw[hW3,hrb];clear hW3;obtain⟨D,hD⟩:=nmd (W3.drew)
   have HBD:Hid (Below wr.heap.size wr D):=hid (by rw[<-hD];exact HB3.out.drew);have HRD:Hid (D.heap[rb]?=some (.cells #[.int .i64 r.num,.int .i64 r.ty,.int .u64 r.n,.string ⟨r.s.toArray⟩,.string ⟨r.raw.toArray⟩] 88 (0,0))):=hid (by rw[<-hD];exact HR3.out);have hne:Nonempty {w':World // w'.heap[rb]?=some (.cells #[.int .i64 r.num,.int .i64 r.ty,.int .u64 r.n,.string ⟨r.s.toArray⟩,.string ⟨r.raw.toArray⟩] 88 (0,0))}:=⟨⟨_,HRD.out⟩⟩
   refine zj (S:=fun w'=>w'.heap[rb]?=some (.cells #[.int .i64 r.num,.int .i64 r.ty,.int .u64 r.n,.string ⟨r.s.toArray⟩,.string ⟨r.raw.toArray⟩] 88 (0,0))) [(1,true),(0,false),(2,false),(3,true),(4,true)] (by kernel_rfl) (by kernel_rfl) (by kernel_rfl) (by kernel_rfl) (by rw[hD];exact HRD.out) ?_;rw[hD];clear hD hr0 hr1 hr2 hr3 hr4;refine zf _ rfl (fun K hK=>?_);go_simp;refine⟨.agg #[.int .i64 r.num,.int .i64 r.ty,.int .u64 r.n,.string ⟨r.s.toArray⟩,.string ⟨r.raw.toArray⟩],fun a ha=>by(have e0:=rc0 ha);(have e1:=rc1 ha);(have e2:=rc2 ha);(have e3:a.cell? ⟨rb,3,none⟩=some (.string ⟨r.s.toArray⟩):=za ha (j:=3) rfl);(have e4:a.cell? ⟨rb,4,none⟩=some (.string ⟨r.raw.toArray⟩):=za ha (j:=4) rfl);simp only[e0,e1,e2,e3,e4,Result.andThen],hK _ ?_⟩;clear hK K;refine zo _ rfl (fun K hK=>?_);go_simp;refine(zbp D).mono ?_;rintro e w4 ⟨to,rfl,HNT,hb4⟩;have HB4:=hid (zb HBD.out hb4);have HR4:Hid (w4.heap[rb]?=some (.cells #[.int .i64 r.num,.int .i64 r.ty,.int .u64 r.n,.string ⟨r.s.toArray⟩,.string ⟨r.raw.toArray⟩] 88 (0,0))):=hid ((hb4.block _ (z8 HRD.out)).trans HRD.out);go_simp;refine hK.out _ _ HR4.out ?_;clear hK K hb4;refine zo _ rfl (fun K hK=>?_);go_simp;refine(kz [8,16,18] to 3 r w4 HNT (by decide) (by decide)).mono ?_;rintro e w5 ⟨rfl,hb5⟩;rw[<-btk_rtk];have HB5:=hid (zb HB4.out hb5);have HR5:Hid (w5.heap[rb]?=some (.cells #[.int .i64 r.num,.int .i64 r.ty,.int .u64 r.n,.string ⟨r.s.toArray⟩,.string ⟨r.raw.toArray⟩] 88 (0,0))):=hid ((hb5.block _ (z8 HR4.out)).trans HR4.out);go_simp;refine hK.out _ _ HR5.out ?_;clear hK K hb5
   iterate 2 (refine zf _ rfl (fun K hK=>?_);go_simp;(first|refine hK _ ?_|refine⟨_,fun _ _=>rfl,hK _ ?_⟩);clear hK K)
   refine zw ?_;have HX5:Hid (w5.heap[bx]?=some (.cells #[.int .i32 x.off,.slice ao x.cs.length cap,.string U] 29 (0,0))):=hid ((HB5.out.block _ (z8 HX1.out)).trans HX1.out);have HO5:Hid (w5.ownsRow (bx+1) 24 1 (.slice ao x.cs.length cap) x.cs.length (y9 x.cs)):=hid (y6 HX2.out HB5.out);have HBR5:Hid (Below bx w1 w5):=hid (HBR1.out.trans (HB5.out.mono (by have:=z8 HX1.out;omega)));have hxb:=z8 HX5.out;obtain⟨S,hS⟩:∃S:ByteArray,(⟨r.s.toArray⟩:ByteArray)=S:=⟨_,rfl⟩
   obtain⟨R,hR⟩:∃S:ByteArray,(⟨r.raw.toArray⟩:ByteArray)=S:=⟨_,rfl⟩
   have HSD:Hid (S.data.toList=r.s):=hid (by rw[<-hS]);have HRD2:Hid (R.data.toList=r.raw):=hid (by rw[<-hR]);rw[hS,hR]at HR5 ⊢;clear hS hR hne
   cases htk:btk r with
   | false =>
    have HTN:=hid htk
    have hsz:¬9223372036854775807<U.size+R.size:=by
     have h1:R.size=r.raw.length:=by rw[<-HRD2.out];simp
     have h2:=HSUM.out;have h3:=HSS.out;omega
    have hx2:=rc2 HX5.out;have hxf:=z7 HX5.out 2;have hr4:w5.cell? ⟨rb,4,none⟩=some (.string R):=za HR5.out (j:=4) rfl;clear htk;go_wp2_with fail;have hj:=HJ.out;have hu:=Upd.set w5 ⟨bx,2,none⟩ (.string (U++R))
    go_roundg (gk-1)
    case measure=>omega
    case rel =>
     refine⟨j+1,x,U++R,by simp,HBR5.out.trans (hu.below (by omega) (fun k _ h=>by have h:k=bx:=h;omega)),⟨_,ze HX5.out 2 _,hu.own HO5.out (fun k hk e=>by have e:k=bx:=e;have:=(HO5.out.lt k hk).1;omega)⟩,.inl ⟨rfl,by omega,hid ?_,hid ?_⟩⟩
     ·rw[HTK.out];exact zeo HM.out HTN.out
     ·rw[HTK.out,munk_no HTN.out,ByteArray.data_append,Array.toList_append,HU.out,HRD2.out]
   | true =>
    have HTN:=hid htk;have HMU:Hid (U.data.toList=munk btk (rs.take (j+1))):=hid (by rw[HTK.out,zeh HTN.out,HU.out]);have HMY:Hid (zg btk x9 ⟨0,[]⟩ (rs.take (j+1))=x9 x r):=hid (by rw[HTK.out];exact zdb HM.out HTN.out);have hr0:=rc0 HR5.out;have hr1:=rc1 HR5.out;have hr2:=rc2 HR5.out;have hr3:w5.cell? ⟨rb,3,none⟩=some (.string S):=za HR5.out (j:=3) rfl;have hrn:=(qj HRR.out).1
    by_cases hn:r.num=1
    ·have d1:((r.num:Int) == 1)=true:=by rw[beq_iff_eq];omega
     have HB1:Hid (x9 x r=.ok ⟨zag (r.n%2^32),x.cs⟩):=hid (if_pos hn);obtain⟨z,hz⟩:=nmd (zag (r.n%2^32))
     rw[hz]at HB1;have HZ:=hid hz;have HN:=hid hrn;have hx0:=rc0 HX5.out;have hxf:=z7 HX5.out 0;clear htk hn hz hrn;go_wp2_with fail;refine(z0h r.n w5 HN).mono ?_;rintro e w6 ⟨rfl,rfl⟩;rw[HZ.out];go_wp2_with fail;have hj:=HJ.out;have hu:=Upd.set w5 ⟨bx,0,none⟩ (.int .i32 z)
     go_roundg (gk-1)
     case measure=>omega
     case rel =>
      exact⟨j+1,⟨z,x.cs⟩,U,by simp,HBR5.out.trans (hu.below (by omega) (fun k _ h=>by have h:k=bx:=h;omega)),⟨_,ze HX5.out 0 _,hu.own HO5.out (fun k hk e=>by have e:k=bx:=e;have:=(HO5.out.lt k hk).1;omega)⟩,.inl ⟨rfl,by omega,hid (by rw[HMY.out,HB1.out]),HMU⟩⟩
    ·have d1:((r.num:Int) == 1)=false:=ibf (by omega)
     have HB1:Hid (x9 x r=match qz x.cs r with | .error c => .error c | .ok ys => .ok ⟨x.off,ys⟩):=hid (if_neg hn)
     have hty:r.ty=2∨r.ty=0:=by
      unfold btk at htk
      simp only[decide_eq_true_iff]at htk
      omega
     have hx1:=rc1 HX5.out;have hxf:=z7 HX5.out 1;have hsum:=HSUM.out;have hss:=HSS.out
     by_cases h0:r.ty=0
     ·have d2:((r.ty:Int) == 0)=true:=by rw[beq_iff_eq];omega
      have HP:Hid (x9 x r=.ok ⟨x.off,x.cs++[r.n]⟩):=hid (by rw[HB1.out];unfold qz;rw[if_pos (by omega)]);clear htk hn hty h0 hrn;go_wp2_with (at_builtin;refine xw rfl _ _ 27 rfl Tryz.elU64 (by decide) HO5.out rfl (cs:=[.int .u64 r.n]) (c:=1) rfl rfl (by simp[Value.oneCell']) (by unfold maxLen;omega) (by omega) (by omega) ?_;intro g2 cap2 w6 hown2 hgrow hnew;have HX6:=hid ((hgrow.block _ (z8 HX5.out) (fun e=>by have h7:=(HO5.out.lt _ e.symm).1;omega)).trans HX5.out);have hcb2:=rc1 HX6.out;have hfz2:=z7 HX6.out 1);have hj:=HJ.out;have hgu:Upd (fun k=>(Value.slice ao x.cs.length cap).ownBlock=some k) w5 w6:=Upd.of_grown hgrow;have hu:=Upd.set w6 ⟨bx,1,none⟩ (.slice (some ⟨g2,0,none⟩) (x.cs.length+1) cap2);have HO6:Hid (w6.ownsRow (bx+1) 24 1 (.slice (some ⟨g2,0,none⟩) (x.cs.length+1) cap2) (x.cs++[r.n]).length (y9 (x.cs++[r.n]))):=hid (by rw[List.length_append];unfold y9 at hown2 ⊢;rw[List.map_append];exact hown2);have hs6:=hgu.size
      go_roundg (gk-1)
      case measure=>omega
      case rel =>
       exact⟨j+1,⟨x.off,x.cs++[r.n]⟩,U,by simp,(HBR5.out.trans (hgu.below (by omega) (fun k _ hk=>by have:=(HO5.out.lt k hk).1;omega))).trans (hu.below (by omega) (fun k _ h=>by have h:k=bx:=h;omega)),⟨_,ze HX6.out 1 _,hu.own HO6.out (fun k hk e=>by have e:k=bx:=e;have:=(HO6.out.lt k hk).1;omega)⟩,.inl ⟨rfl,by omega,hid (by rw[HMY.out,HP.out]),HMU⟩⟩
     ·have h2:r.ty=2:=by omega
      have d2:((r.ty:Int) == 0)=false:=ibf (by omega)
      have hSz:S.size<=1000000:=by
       have h1:S.size=r.s.length:=by rw[<-HSD.out];simp
       have h3:=(qj HRR.out).2.1;omega
      have HV:=hid (z67 S w5 hSz);have HP0:Hid (qz x.cs r=match xj r.s with | .error c => .error c | .ok ns => .ok (x.cs++ns)):=hid (by unfold qz;rw[if_neg (by rw[h2];simp)];cases xj r.s<;>rfl);have hxlen:x.cs.length<=1000000:=by omega
      clear htk hn hty h0 h2 hrn hsum hss;go_wp2_with fail;refine HV.out.mono ?_;intro e w6 hpost;unfold Y9 at hpost
      rw[HSD.out]at hpost
      cases hv:xj r.s with
      | error c =>
       rw[hv]at hpost;obtain⟨rfl,hb6⟩:=hpost;have hcc:=z6w _ hv;have d3:((c:Int) == 0)=false:=ibf (by omega)
       have HBS:Hid (zg btk x9 ⟨0,[]⟩ rs=.error c):=hid (zbo (j:=j+1) (by rw[HMY.out,HB1.out,HP0.out,hv]));have HX6:Hid (w6.heap[bx]?=some (.cells #[.int .i32 x.off,.slice ao x.cs.length cap,.string U] 29 (0,0))):=hid ((hb6.block _ (z8 HX5.out)).trans HX5.out);have HO6:Hid (w6.ownsRow (bx+1) 24 1 (.slice ao x.cs.length cap) x.cs.length (y9 x.cs)):=hid (y6 HO5.out hb6);have HB6:Hid (Below bx w1 w6):=hid (HBR5.out.trans (hb6.mono (by omega)));have hs6:=hb6.size;have hx1:=rc1 HX6.out;have hxf:=z7 HX6.out 1;clear hv hb6 hcc;go_wp2_with (at_builtin;refine Zc _ _ 27 rfl rfl Tryz.elU64 HO6.out rfl (ao:=none) (cap:=0) (l:=[]) (fun h=>absurd rfl h) (fun _=>rfl) rfl (by unfold maxLen;simp;omega) (by simp;omega) (by omega) ?_;intro v' w7 hown7 hgrow hnew;obtain⟨ao',cap',rfl⟩:=zh hown7;have HX7:=hid ((hgrow.block _ (z8 HX6.out) (fun e=>by have h7:=(HO6.out.lt _ e.symm).1;omega)).trans HX6.out);have hcb2:=rc1 HX7.out;have hfz2:=z7 HX7.out 1);have hgu:Upd (fun k=>(Value.slice ao x.cs.length cap).ownBlock=some k) w6 w7:=Upd.of_grown hgrow;have hu:=Upd.set w7 ⟨bx,1,none⟩ (.slice ao' (x.cs.length+([]:List Nat).length) cap');have hs7:=hgu.size;have hj:=HJ.out;have HO7:Hid (w7.ownsRow (bx+1) 24 1 (.slice ao' x.cs.length cap') x.cs.length (y9 x.cs)):=hid (by simpa [k0] using hown7)
       go_roundg (gk-1)
       case measure=>omega
       case rel =>
        exact⟨j+1,x,U,by simp,(HB6.out.trans (hgu.below (by omega) (fun k _ hk=>by have:=(HO6.out.lt k hk).1;omega))).trans (hu.below (by omega) (fun k _ h=>by have h:k=bx:=h;omega)),⟨_,ze HX7.out 1 _,hu.own HO7.out (fun k hk e=>by have e:k=bx:=e;have:=(HO7.out.lt k hk).1;omega)⟩,.inr ⟨rfl,c,HBS.out⟩⟩
      | ok ns =>
       rw[hv]at hpost;obtain⟨uv,rfl,hown1,hnl,hb6⟩:=hpost;have hnil:=z9q hown1;obtain⟨uo,ucap,rfl⟩:=zh hown1;have HNS:Hid (Nats .u64 w6 uo ns):=hid (z1s hown1);have HNIL:Hid (uo=none->ucap=0):=hid (fun h=>hnil uo _ ucap rfl h);have HP:Hid (x9 x r=.ok ⟨x.off,x.cs++ns⟩):=hid (by rw[HB1.out,HP0.out,hv]);have HX6:Hid (w6.heap[bx]?=some (.cells #[.int .i32 x.off,.slice ao x.cs.length cap,.string U] 29 (0,0))):=hid ((hb6.block _ (z8 HX5.out)).trans HX5.out);have HO6:Hid (w6.ownsRow (bx+1) 24 1 (.slice ao x.cs.length cap) x.cs.length (y9 x.cs)):=hid (y6 HO5.out hb6);have HB6:Hid (Below bx w1 w6):=hid (HBR5.out.trans (hb6.mono (by omega)));have hs6:=hb6.size;have hx1:=rc1 HX6.out;have hxf:=z7 HX6.out 1;have hnl2:ns.length<=1000000:=by omega
       clear hv hb6 hown1 hnil;go_wp2_with (at_builtin;refine Zc _ _ 27 rfl rfl Tryz.elU64 HO6.out rfl HNS.out HNIL.out rfl (by unfold maxLen;omega) (by omega) (by omega) ?_;intro v' w7 hown7 hgrow hnew;obtain⟨ao',cap',rfl⟩:=zh hown7;have HX7:=hid ((hgrow.block _ (z8 HX6.out) (fun e=>by have h7:=(HO6.out.lt _ e.symm).1;omega)).trans HX6.out);have hcb2:=rc1 HX7.out;have hfz2:=z7 HX7.out 1);have hgu:Upd (fun k=>(Value.slice ao x.cs.length cap).ownBlock=some k) w6 w7:=Upd.of_grown hgrow;have hu:=Upd.set w7 ⟨bx,1,none⟩ (.slice ao' (x.cs.length+ns.length) cap');have hs7:=hgu.size;have hj:=HJ.out;have HO7:Hid (w7.ownsRow (bx+1) 24 1 (.slice ao' (x.cs.length+ns.length) cap') (x.cs++ns).length (y9 (x.cs++ns))):=hid (by rw[List.length_append];unfold y9 at hown7 ⊢;rw[List.map_append];exact hown7)
       go_roundg (gk-1)
       case measure=>omega
       case rel =>
        exact⟨j+1,⟨x.off,x.cs++ns⟩,U,by simp,(HB6.out.trans (hgu.below (by omega) (fun k _ hk=>by have:=(HO6.out.lt k hk).1;omega))).trans (hu.below (by omega) (fun k _ h=>by have h:k=bx:=h;omega)),⟨_,ze HX7.out 1 _,hu.own HO7.out (fun k hk e=>by have e:k=bx:=e;have:=(HO7.out.lt k hk).1;omega)⟩,.inl ⟨rfl,by omega,hid (by rw[HMY.out,HP.out]),HMU⟩⟩
end Go.Proofs.YtmlghmjjlpioeaaGreatDoor
