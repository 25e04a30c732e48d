/-
  hyglaw14.BucketsJoins.
-/
import Derived.Test.YtmlghmjjlpioeaaGreatDoorFirst14
import Derived.Deep.Strs
import Derived.IntWalk
set_option maxRecDepth 1000000
set_option maxHeartbeats 16000000
namespace Go.Proofs.YtmlghmjjlpioeaaGreatDoor
open Go.RowKit
open Lib (hid)
theorem zdh {l:List UInt8}{d:Int}{x:Bk}{u:List UInt8}(h:yx l d=.ok (x,u)):u.length<=l.length:=by
 unfold yx zq at h
 split at h
 ·cases h
 ·cases hw:wall l d with
  | error c=>rw[hw]at h;cases h
  | ok rs =>
   rw[hw]at h;dsimp only at h
   cases hf:zg btk x9 ⟨0,[]⟩ rs with
   | error c=>rw[hf]at h;cases h
   | ok x' =>
    rw[hf]at h
    simp only[Except.ok.injEq,Prod.mk.injEq]at h
    rw[<-h.2];have:=Xy btk rs;rw[(xh _ (Nat.le_refl _) hw).1]at this;exact this
theorem zfr {l:List UInt8}{d:Int}{x:Bk}{u:List UInt8}(h:yx l d=.ok (x,u)):x.cs.length<=l.length/\BkOk x:=by
 unfold yx zq at h
 split at h
 ·cases h
 ·cases hw:wall l d with
  | error c=>rw[hw]at h;cases h
  | ok rs =>
   rw[hw]at h;dsimp only at h
   cases hf:zg btk x9 ⟨0,[]⟩ rs with
   | error c=>rw[hf]at h;cases h
   | ok x' =>
    rw[hf]at h
    simp only[Except.ok.injEq,Prod.mk.injEq]at h
    rw[<-h.1];have h1:=Xd rs (xp _ (Nat.le_refl _) hw) hf;rw[(xh _ (Nat.le_refl _) hw).1]at h1;exact⟨by have:=h1.1;simpa using this,h1.2 ⟨by decide,by decide,by simp⟩⟩
theorem zb0 (n:Int)(h1:-2147483648<=n)(h2:n<=2147483647):∃z:Nat,zig n=z/\z<2^64/\zag (z%2^32)=n:=by
 refine⟨(zig n).toNat,?_,?_,?_⟩<;>unfold zig<;>(try unfold zag)<;>split<;>(try split)<;>omega
def Ym (x:Bk):List Rec :=
 (if(zig x.off).toNat=0 then []else [⟨1,0,(zig x.off).toNat,[],vput (8*1+0)++vput (zig x.off).toNat⟩]) ++
 (if qu x.cs=[]then []else [⟨2,2,0,qu x.cs,vput (8*2+2)++(vput (qu x.cs).length++qu x.cs)⟩])
theorem z99 {num kind:Nat}(h1:1<=num)(h2:num<=536870911)(h3:kind<=5)(t:List UInt8):wrec num kind t=vput (8*num+kind)++t:=by
 unfold wrec;rw[z8w h1 h2 h3,if_neg (z9v _)]
theorem Jv (x:Bk):(Ym x).flatMap Rec.raw=(z3j x).flatten:=by
 have e1:=z99 (num:=1) (kind:=0) (by omega) (by omega) (by omega);have e2:=z99 (num:=2) (kind:=2) (by omega) (by omega) (by omega);unfold Ym z3j Qu Z5;rw[List.flatMap_append,List.flatten_append]
 congr 1
 ·split
  ·rfl
  ·rw[show wrec ((1:Nat):Int) 0 (vput (zig x.off).toNat)=_ from e1 _]
   simp
 ·rw[show x.cs.flatMap vput=qu x.cs from rfl]
  split
  ·rfl
  ·rw[show wrec ((2:Nat):Int) 2 (vput (qu x.cs).length++qu x.cs)=_ from e2 _]
   simp
theorem z3h {x:Bk}(hx:BkOk x)(hl:(qu x.cs).length<2^64):∀r∈Ym x,∀d,zt d r:=by
 have hz:=(za0 hx.lo hx.hi).2;intro r hr d;unfold Ym at hr
 rcases List.mem_append.1 hr with h|h
 ·split at h
  ·cases h
  ·rw[List.mem_singleton]at h
   subst h;exact Xj (z8n (by omega) (by omega) (by omega)) d
 ·split at h
  ·cases h
  ·rw[List.mem_singleton]at h
   subst h;exact Xj (z4z (by omega) (by omega) hl) d
theorem z4q (x:Bk):((Ym x).all fun r=>btk r)=true:=by
 unfold Ym;rw[List.all_append]
 split<;>split<;>simp[btk]
theorem zas {l:List Nat}(h:qu l=[]):l=[]:=by
 cases l with
 | nil=>rfl
 | cons n l =>
  have e:qu (n::l)=vput n++qu l:=rfl;rw[e]at h;exact absurd (List.append_eq_nil_iff.1 h).1 (z9v n)
theorem z1q {x:Bk}(hx:BkOk x):zg btk x9 ⟨0,[]⟩ (Ym x)=.ok x:=by
 obtain⟨z,hz,hz1,hz2⟩:=zb0 x.off hx.lo hx.hi;have hzn:(zig x.off).toNat=z:=by omega
 have hw:=z1g x.cs hx.each;unfold Ym;rw[hzn,yr]
 have e1:zg btk x9 ⟨0,[]⟩ (if z=0 then []else [⟨1,0,z,[],vput (8*1+0)++vput z⟩])=.ok ⟨x.off,[]⟩:=by
  split
  ·rename_i h
   subst h;have:x.off=0:=by rw[<-hz2];rfl
   rw[this];rfl
  ·simp[zg,btk,x9,hz2]
 rw[e1];dsimp only
 split
 ·rename_i h
  have:=zas h;rw[zg,<-this]
 ·simp[zg,btk,x9,qz,hw]
theorem zcd {x:Bk}{u:List UInt8}{d:Int}(hx:BkOk x)(hl:(qu x.cs).length<2^64)(hm:bmay u d=true):yx (bput x u) d=.ok (x,u):=by
 unfold bmay at hm
 rw[Bool.and_eq_true,decide_eq_true_iff]at hm;have:=jl hm.1 (z3h hx hl) (z1q hx) (z4q x) hm.2;rw[Jv]at this;unfold yx bput;rw[List.flatten_append]
 simpa using this
theorem zbe {l:List UInt8}{d:Int}{x:Bk}{u:List UInt8}(h:yx l d=.ok (x,u)):bmay u d=true:=by
 unfold yx zq at h
 split at h
 ·cases h
 ·rename_i hd
  unfold bmay;rw[Bool.and_eq_true,decide_eq_true_iff];refine⟨by omega,?_⟩
  cases hw:wall l d with
  | error c=>rw[hw]at h;cases h
  | ok rs =>
   rw[hw]at h;dsimp only at h
   cases hf:zg btk x9 ⟨0,[]⟩ rs with
   | error c=>rw[hf]at h;cases h
   | ok y =>
    rw[hf]at h
    simp only[Except.ok.injEq,Prod.mk.injEq]at h
    rw[<-h.2];exact munk_ok hw
theorem Yz:∀(l:List Nat),(qu l).length<=10*l.length
 | []=>by simp[qu]
 | n::l=>by
  have e:qu (n::l)=vput n++qu l:=rfl;have h1:=Yz l;have h2:=(zu n).2;rw[e,List.length_append,List.length_cons];omega
theorem zep (x:Bk)(u:List UInt8):(bput x u).length<=10*x.cs.length+60+u.length:=by
 have h1:=Yz x.cs;have h2:=(zu (zig x.off).toNat).2;have h3:=(zu (qu x.cs).length).2;have h4:(vput 8).length<=10:=(zu _).2;have h5:(vput 18).length<=10:=(zu _).2;unfold bput;rw[List.flatten_append,<-Jv];unfold Ym;rw[List.flatMap_append]
 split<;>split<;>simp<;>omega
open Go.ChangeShapes Go.WideShapes Go.ChangeAt Go.RowKit Go.Deep
theorem z46 {x:Bk}{u:List UInt8}{d d':Int}(hx:BkOk x)(hl:(qu x.cs).length<2^64)(hm:bmay u d=true)(hle:d'<=d)(hn:bmay u d'=false):∃c,yx (bput x u) d'=.error c:=by
 unfold bmay at hm hn
 rw[Bool.and_eq_true,decide_eq_true_iff]at hm
 have hn2:d' < 0∨zp btk u d'=false:=by
  by_cases h:0<=d'
  ·rw[decide_eq_true h,Bool.true_and]at hn
   exact .inr hn
  ·exact .inl (by omega)
 have:=kh (z3h hx hl) (z1q hx) (z4q x) hm.2 hle hn2;rw[Jv]at this;unfold yx bput;rw[List.flatten_append]
 simpa using this
theorem zfk (ao bo:Option Addr)(cap bcap:Nat)(a b:List Nat)(w:World)(ha:Hid (Nats .u64 w ao a))(hb:Hid (Nats .u64 w bo b))(hla:a.length<=1000000000){r:Bool}(hr:Hid (decide (a=b)=r)) :
  Calls Tryz.prog 77 #[.slice ao a.length cap,.slice bo b.length bcap] w fun e w'=>e=.returned (.bool r)/\Below w.heap.size w w':=by
 by_cases hne:a.length=b.length
 case neg =>
  have hr2:r=false:=by rw[<-hr.out];exact decide_eq_false (fun h=>hne (by rw[h]))
  subst hr2;have d1:((a.length:Int) == (b.length:Int))=false:=ibf (by omega)
  have d2:((a.length:Int) != (b.length:Int))=true:=by rw[bne_iff_ne];omega
  clear hr;go_enter Tryz.func77,Tryz.ntmps77;go_wp2_with fail;go_ret;exact⟨rfl,Below.refl _ _⟩
 case pos =>
 obtain⟨n,hn⟩:=nmd (a.length)
 have hnb:b.length=n:=by omega
 have HA0:=hid hn;have HB0:=hid hnb;rw[hn,hnb];have hn9:n<=1000000000:=by omega
 clear hne hn hnb hla;go_enter Tryz.func77,Tryz.ntmps77;go_wp2_with fail
 go_loopg [5] n (fun k i wr=>∃j:Nat,j+k=n/\i=.int .i64 j/\Hid (∀m (h1:m<a.length) (h2:m<b.length),m<j->a[m]=b[m])/\Below w.heap.size w wr)
 case atStart=>exact⟨0,by omega,rfl,hid (fun m _ _ h=>by omega),Below.refl _ _⟩
 case round =>
  obtain⟨j,hj,rfl,HM,hbr⟩:=hrel;have HB:=hid hbr;have HJ:=hid hj;have HA:=hid (ha.out.below hbr);have HBB:=hid (hb.out.below hbr);have hjl:j<=n:=by omega
  clear hj hbr
  by_cases hlt:j<n
  ·obtain⟨g,off,x,HX,rfl,hbl,hc⟩:=HA.out.at (i:=j) (by rw[HA0.out];exact hlt)
   obtain⟨g2,off2,y,HY,rfl,hbl2,hc2⟩:=HBB.out.at (i:=j) (by rw[HB0.out];exact hlt)
   have hI:Below wr.heap.size wr wr.drew:=(Below.refl _ _).drew;have hne:Nonempty { w':World // Below wr.heap.size wr w' }:=⟨⟨_,hI⟩⟩
   have hc3:∀t:{ w':World // Below wr.heap.size wr w' },t.1.cell? ⟨g,off+j,none⟩=some (.int .u64 x):=fun t=>(t.2.cell (p:=⟨g,off+j,none⟩) hbl).trans hc
   have hc4:∀t:{ w':World // Below wr.heap.size wr w' },t.1.cell? ⟨g2,off2+j,none⟩=some (.int .u64 y):=fun t=>(t.2.cell (p:=⟨g2,off2+j,none⟩) hbl2).trans hc2
   by_cases hxy:x=y
   ·have d1:((x:Int) == (y:Int))=true:=by rw[beq_iff_eq];omega
    have HM2:Hid (∀m (h1:m<a.length) (h2:m<b.length),m<j+1->a[m]=b[m]):=hid (fun m h1 h2 hm=>by
     by_cases hmj:m=j
     ·subst hmj;rw[<-HX.out,<-HY.out,hxy]
     ·exact HM.out m h1 h2 (by omega))
    subst hxy;go_wp2_with fail;refine zj (S:=fun w'=>Below wr.heap.size wr w') [(0,true),(1,true),(2,true),(3,true),(4,true),(5,true),(6,true),(7,true),(8,true)] (by kernel_rfl) (by kernel_rfl) (by kernel_rfl) (by kernel_rfl) hI ?_
    iterate 9 (refine zf _ rfl (fun K hK=>?_);go_simp;refine hK _ ?_;clear hK K)
    refine zw ?_;clear hc3 hc4;go_wp2_with fail;have hj:=HJ.out
    go_roundg (gk-1)
    case measure=>omega
    case rel=>exact⟨j+1,by omega,by simp,HM2,HB.out.trans (hI.mono HB.out.size)⟩
   ·have hr2:r=false:=by
     rw[<-hr.out];refine decide_eq_false (fun h=>?_);subst h;exact hxy (by rw[HX.out,HY.out])
    subst hr2;have d1:((x:Int) == (y:Int))=false:=ibf (by omega)
    have d2:((x:Int) != (y:Int))=true:=by rw[bne,d1];rfl
    clear hxy;go_wp2_with fail;refine zj (S:=fun w'=>Below wr.heap.size wr w') [(0,true),(1,true),(2,true),(3,true),(4,true),(5,true),(6,true),(7,true),(8,true)] (by kernel_rfl) (by kernel_rfl) (by kernel_rfl) (by kernel_rfl) hI ?_
    iterate 9 (refine zf _ rfl (fun K hK=>?_);go_simp;refine hK _ ?_;clear hK K)
    refine zw ?_;clear hc3 hc4;go_wp2_with fail;go_ret;exact⟨rfl,HB.out.trans (hI.mono HB.out.size)⟩
  ·have hjn:j=n:=by have:=HJ.out;omega
   have hr2:r=true:=by
    rw[<-hr.out];exact decide_eq_true (List.ext_getElem (by rw[HA0.out,HB0.out]) (fun m h1 h2=>HM.out m h1 h2 (by rw[HA0.out]at h1;omega)))
   subst hr2;go_wp2_with fail;go_ret;exact⟨rfl,HB.out⟩
theorem zf5 (x y:Bk)(u v:List UInt8)(ao bo:Option Addr)(cap bcap:Nat)(w:World)(ha:Hid (Nats .u64 w ao x.cs))(hb:Hid (Nats .u64 w bo y.cs))(hla:x.cs.length<=1000000000){r:Bool}(hr:Hid (decide (x.off=y.off/\u=v/\x.cs=y.cs)=r)) :
  Calls Tryz.prog 33 #[.agg #[.int .i32 x.off,.slice ao x.cs.length cap,.string ⟨u.toArray⟩],.agg #[.int .i32 y.off,.slice bo y.cs.length bcap,.string ⟨v.toArray⟩]] w fun e w'=>e=.returned (.bool r)/\Below w.heap.size w w':=by
 obtain⟨X,hX⟩:∃X:ByteArray,(⟨u.toArray⟩:ByteArray)=X:=⟨_,rfl⟩
 obtain⟨Y,hY⟩:∃X:ByteArray,(⟨v.toArray⟩:ByteArray)=X:=⟨_,rfl⟩
 have hXY:X=Y↔u=v:=by rw[<-hX,<-hY];simp
 rw[hX,hY];obtain⟨W0,hW0⟩:∃W,(w.alloc (.cells #[.int .i32 x.off,.slice ao x.cs.length cap,.string X] 29)).alloc (.cells #[.int .i32 y.off,.slice bo y.cs.length bcap,.string Y] 29)=W:=⟨_,rfl⟩
 have HB0:Hid (Below w.heap.size w W0):=hid (by rw[<-hW0];exact zb (zd _ _) (zd _ _));have HR0:Hid (W0.heap[w.heap.size]?=some (.cells #[.int .i32 x.off,.slice ao x.cs.length cap,.string X] 29 (0,0))):=hid (by rw[<-hW0];exact(Below.heap_alloc _ _ _ (z8 (heap_alloc_new w _))).trans (heap_alloc_new w _));have HS0:Hid (W0.heap[(w.alloc (.cells #[.int .i32 x.off,.slice ao x.cs.length cap,.string X] 29)).heap.size]?=some (.cells #[.int .i32 y.off,.slice bo y.cs.length bcap,.string Y] 29 (0,0))):=hid (by rw[<-hW0];exact heap_alloc_new _ _);have HW0:=hid hW0;have HNA:=hid (ha.out.below HB0.out);have HNB:=hid (hb.out.below HB0.out);obtain⟨r1,hr1⟩:=nmd (decide (x.cs=y.cs))
 have HP:=hid (zfk ao bo cap bcap x.cs y.cs W0 HNA HNB hla (hid hr1));clear hX hY hW0 ha hb
 by_cases ho:x.off=y.off
 case neg =>
  have hr2:r=false:=by rw[<-hr.out];exact decide_eq_false (fun h=>ho h.1)
  subst hr2;have d1:(x.off == y.off)=false:=by rw[beq_eq_false_iff_ne];exact ho
  clear hr ho hXY hr1;go_enter Tryz.func33,Tryz.ntmps33;go_wp2_with fail;go_ret;rw[HW0.out];exact⟨rfl,HB0.out⟩
 case pos =>
  have d1:(x.off == y.off)=true:=by rw[beq_iff_eq];exact ho
  have HRR:Hid ((r1&&decide (u=v))=r):=hid (by
   rw[<-hr.out,<-hr1,<-Bool.decide_and];exact decide_eq_decide.2 ⟨fun h=>⟨ho,h.2,h.1⟩,fun h=>⟨h.2.2,h.2.1⟩⟩)
  have HXY:=hid hXY;clear hr ho hr1 hXY;go_enter Tryz.func33,Tryz.ntmps33;go_wp2_with fail;rw[HW0.out];refine HP.out.mono ?_;rintro e w1 ⟨rfl,hb1⟩;have HB1:=hid (zb HB0.out hb1);have hc0:=za ((hb1.block _ (z8 HR0.out)).trans HR0.out) (j:=2) rfl;have hc1:=za ((hb1.block _ (z8 HS0.out)).trans HS0.out) (j:=2) rfl;rw[show(w.alloc (.cells #[.int .i32 x.off,.slice ao x.cs.length cap,.string X] 29)).heap.size=w.heap.size+1 from Array.size_push ..]at hc1;clear hb1
  cases r1 with
  | false =>
   have hr2:r=false:=by rw[<-HRR.out];rfl
   subst hr2;clear hc0 hc1;go_wp2_with fail;go_ret;exact⟨rfl,HB1.out⟩
  | true =>
   by_cases hu:u=v
   ·have hr2:r=true:=by rw[<-HRR.out];simp[hu]
    subst hr2;have d2:(X.toList == Y.toList)=true:=by rw[HXY.out.2 hu];simp
    clear hu;go_wp2_with fail;go_ret;exact⟨rfl,HB1.out⟩
   ·have hr2:r=false:=by rw[<-HRR.out];simp[hu]
    subst hr2
    have d2:(X.toList == Y.toList)=false:=by
     rw[beq_eq_false_iff_ne,ByteArray.toList_eq,ByteArray.toList_eq];intro h;exact hu (HXY.out.1 (ByteArray.ext (Array.ext' h)))
    clear hu;go_wp2_with fail;go_ret;exact⟨rfl,HB1.out⟩
end Go.Proofs.YtmlghmjjlpioeaaGreatDoor
