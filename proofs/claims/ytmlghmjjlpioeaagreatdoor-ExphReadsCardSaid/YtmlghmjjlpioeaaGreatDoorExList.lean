/-
  ExEqf, ExList
-/
import Derived.Test.YtmlghmjjlpioeaaGreatDoorRowL
import Derived.Test.YtmlghmjjlpioeaaGreatDoorExSame
set_option maxRecDepth 1000000
set_option maxHeartbeats 16000000
namespace Go.Proofs.YtmlghmjjlpioeaaGreatDoor
open Go.RowKit
open Lib (hid)
theorem z8o {num:Nat}(hn:num<=15)(n:Nat):(rF num n).raw.length<=9:=by
 show(vput (8*num+1)++Yo 8 n).length<=9
 rw[List.length_append,z65 (by omega)];have:=Xc 8 n;omega
theorem zeg {num:Nat}(hn:num<=15)(n:Nat):(if n=0 then []else(rF num n).raw).length<=9:=by
 split
 ·simp
 ·exact z8o hn n
theorem z57 {num:Nat}(hn:num<=15)(n:Nat)(c k:Int):(if k=c then(rF num n).raw else []).length<=9:=by
 split
 ·exact z8o hn n
 ·simp
theorem z1n {num:Nat}(hn:num<=15)(a:List UInt8):(if a=[]then []else(rB num a).raw).length<=11+a.length:=by
 split
 ·simp
 ·show(vput (8*num+2)++(vput a.length++a)).length<=_
  rw[List.length_append,List.length_append,z65 (by omega)];have:=qq a.length;omega
def exSb:Sub Ex where
 rd d t:=exrd t d
 out:=z0l
 may d x:=Q2 d x
 fit x:=exF.fit x.1
 wt:=Xn
theorem z17 (x:Ex)(d:Int):Q2 d x=(decide (0<=d)&&(exF.may d x.1&&zp exF.tk x.2 d)):=by
 obtain⟨⟨t,⟨⟨⟨k,n⟩,⟨a,b⟩⟩,l⟩⟩,u⟩:=x;exact ex_mayF d
theorem z90 (x:Ex):(exF.out x.1).flatMap Rec.raw++x.2=z0l x:=by
 obtain⟨⟨t,⟨⟨⟨k,n⟩,⟨a,b⟩⟩,l⟩⟩,u⟩:=x;exact ex_outF
theorem z7b (x:Ex):Xn x=60+(exF.wt x.1+x.2.length):=by
 obtain⟨⟨t,⟨⟨⟨k,n⟩,⟨a,b⟩⟩,l⟩⟩,u⟩:=x
 show 60+(a.length+b.length+ksw l+u.length)=60+((0+((0+(a.length+b.length))+(zy 7 kvS).wt l))+u.length)
 rw[z2n];omega
theorem ex_wlen (x:Ex):(z0l x).length+11<=Xn x:=by
 obtain⟨⟨t,⟨⟨⟨k,n⟩,⟨a,b⟩⟩,l⟩⟩,u⟩:=x;have g0:=zeg (num:=2) (by omega) t;have g1:=z57 (num:=3) (by omega) n 1 k;have g2:=z57 (num:=6) (by omega) n 2 k;have g3:=z1n (num:=4) (by omega) a;have g4:=z1n (num:=5) (by omega) b;have g5:=Q0 7 (by omega) l
 show((if t=0 then []else(rF 2 t).raw)++(if k=1 then(rF 3 n).raw else [])++(if a=[]then []else(rB 4 a).raw)++(if b=[]then []else(rB 5 b).raw)++(if k=2 then(rF 6 n).raw else [])++zx 7 l++u).length+11<=60+(a.length+b.length+ksw l+u.length)
 simp only[List.length_append]
 omega
theorem z8x:exSb.Ok where
 len:=fun x=>by have:=ex_wlen x;show(z0l x).length<=Xn x+1000;omega
 back:=fun (x:Ex) d hf hw hd hm=>by
  have hm:Q2 d x=true:=hm;have hw:Xn x<=1000000:=hw;rw[z17]at hm
  simp only[Bool.and_eq_true,decide_eq_true_eq]at hm
  rw[z7b]at hw;have h:=zej z0f (s:=x.1) (u:=x.2) hf (by omega) hd hm.2.1 hm.2.2;rw[z90]at h;exact h
 less:=fun (x:Ex) d d' hf hw hd hm hle hn=>by
  have hm:Q2 d x=true:=hm;have hw:Xn x<=1000000:=hw;rw[z17]at hm
  simp only[Bool.and_eq_true,decide_eq_true_eq]at hm
  rw[z7b]at hw
  obtain ⟨c,h⟩:=zen z0f (s:=x.1) (u:=x.2) (d:=d) (d':=d') hf (by omega) hm.2.1 hm.2.2 hle (by
   rcases hn with h0|h0
   ·exact .inl h0
   ·have h0:Q2 d' x=false:=h0
    by_cases h1:d' < 0
    ·exact .inl h1
    ·rw[z17,decide_eq_true (by omega:0<=d'),Bool.true_and,Bool.and_eq_false_iff]at h0
     exact .inr h0)
  rw[z90]at h;exact⟨c,h⟩
 twice:=fun t (x:Ex) d ht h=>by
  obtain⟨h0,h1,h2,h3,h4⟩:=ze0 z0f (s:=x.1) (u:=x.2) ht h;have h4:exF.wt x.1+x.2.length<=(0+((0+(0+0))+0))+51*t.length:=h4;refine⟨h0,?_,h3,?_⟩
  ·show Q2 d x=true
   rw[z17,h1,h2,decide_eq_true h0];rfl
  ·show Xn x<=_
   rw[z7b];omega
theorem zai {x:Ex}(h:z01 x):z09 x:=by
 obtain⟨⟨t,⟨⟨⟨k,n⟩,⟨a,b⟩⟩,l⟩⟩,u⟩:=x;exact zd2 h
theorem z8a {x:Ex}(h:exF.fit x.1)(hw:Xn x<=400000):z01 x:=by
 obtain⟨⟨t,⟨⟨⟨k,n⟩,⟨a,b⟩⟩,l⟩⟩,u⟩:=x;have hw:60+(a.length+b.length+ksw l+u.length)<=400000:=hw;exact⟨h.1,h.2.1.1,z9y h.2.2,by omega⟩
theorem zcu {l:List Ex}{x:Ex}{n:Nat}(hx:x∈l)(hw:lwt exSb l<=n):Xn x<=n:=Nat.le_trans (lwt_mem (S:=exSb) hx) hw
theorem exs_fit {num:Nat}{l:List Ex}(h:(zy num exSb).fit l)(hw:lwt exSb l<=400000):∀x∈l,z01 x:=fun x hx=>z8a (h x hx) (zcu hx hw)
theorem z9k:∀l:List Ex,l.length*60<=lwt exSb l:=z9u (S:=exSb) (k:=60) fun x=>by
 obtain⟨⟨t,⟨⟨⟨k,n⟩,⟨a,b⟩⟩,l⟩⟩,u⟩:=x
 show 60<=60+_
 omega
theorem ze6 (num:Nat):(zy num exSb).Code:=zfc (fun _ _ _ h=>ex_code h) num
theorem Kk.form {w:World}{P:Nat->Prop}:∀{x:Ex} {c:List Value},Kk w P x c->∃(lo:Option Addr) (llo lc:Nat) (jt:Int) (jk:Int) (jn:Int) (Xa:ByteArray) (Xb:ByteArray) (Xu:ByteArray),c=[.slice lo llo lc,.int .u64 jt,.int .i64 jk,.int .u64 jn,.string Xa,.string Xb,.string Xu]
 | ((t,(((k,n),(a,b)),l)),u),c,h=>by
  obtain⟨lo,lc,rfl,_⟩:=h;exact⟨_,_,_,_,_,_,_,_,_,rfl⟩
theorem zc0 {w:World}{g o j:Nat}{c0 c1 c2 c3 c4 c5 c6:Value}(h:j6 w g (o+7*j) [c0,c1,c2,c3,c4,c5,c6]):w.cell? ⟨g,o+j*7,none⟩=some c0/\w.cell? ⟨g,o+j*7+1,none⟩=some c1/\w.cell? ⟨g,o+j*7+2,none⟩=some c2/\w.cell? ⟨g,o+j*7+3,none⟩=some c3/\w.cell? ⟨g,o+j*7+4,none⟩=some c4/\w.cell? ⟨g,o+j*7+5,none⟩=some c5/\w.cell? ⟨g,o+j*7+6,none⟩=some c6:=by
 refine⟨?_,?_,?_,?_,?_,?_,?_⟩
 ·have:=h 0 (by simp);rw[show o+j*7=o+7*j+0 by omega,this];rfl
 ·have:=h 1 (by simp);rw[show o+j*7+1=o+7*j+1 by omega,this];rfl
 ·have:=h 2 (by simp);rw[show o+j*7+2=o+7*j+2 by omega,this];rfl
 ·have:=h 3 (by simp);rw[show o+j*7+3=o+7*j+3 by omega,this];rfl
 ·have:=h 4 (by simp);rw[show o+j*7+4=o+7*j+4 by omega,this];rfl
 ·have:=h 5 (by simp);rw[show o+j*7+5=o+7*j+5 by omega,this];rfl
 ·have:=h 6 (by simp);rw[show o+j*7+6=o+7*j+6 by omega,this];rfl
theorem zay (l:List Ex)(hargs:∀x∈l,z09 x)(m:List Ex)(lo mo:Option Addr)(lc mc:Nat)(P Q:Nat->Prop)(w:World)(hl:l.length<=9223372036854775807)(ha:y2 qg w P l lo)(hb:y2 qg w Q m mo) :
  Calls Tryz.prog 34 #[.slice lo l.length lc,.slice mo m.length mc] w fun e w'=>e=.returned (.bool (alike l m))/\Below w.heap.size w w':=by
 have HA:=hid ha;have HB:=hid hb;have HLIM:=hid hargs;clear ha hb hargs
 by_cases hlen:l.length=m.length
 case neg =>
  have HR:Hid (alike l m=false):=hid (zr fun h=>hlen (by rw[h]));have d1:((l.length:Int) != (m.length:Int))=true:=by rw[bne_iff_ne];omega
  rw[HR.out];clear hlen;go_enter Tryz.func34,Tryz.ntmps34;go_wp2_with fail;go_ret;exact⟨rfl,Below.refl _ _⟩
 case pos =>
  obtain⟨r,HR⟩:∃r,Hid (alike l m=r):=⟨_,hid rfl⟩
  rw[HR.out];have d1:((l.length:Int) != (m.length:Int))=false:=by rw[bne_eq_false_iff_eq];omega
  have HLEN:=hid hlen;clear hlen;go_enter Tryz.func34,Tryz.ntmps34;go_wp2_with fail
  go_loopg [5] l.length (fun k i wr=>∃j:Nat,i=.int .i64 j/\j+k=l.length/\Below w.heap.size w wr/\Hid (l.take j=m.take j))
  case atStart=>exact⟨0,rfl,by omega,Below.refl _ _,hid rfl⟩
  case round =>
   obtain⟨j,rfl,hj,hbr,HEQ⟩:=hrel;have HBR:=hid hbr;have HJ:=hid hj;clear hbr hj
   by_cases hlt:j<l.length
   ·have hltm:j<m.length:=by have:=HLEN.out;omega
    obtain⟨ga,oa,ca,rfl,_,hga,hca,hra⟩:=(HA.out.below HBR.out) j hlt;obtain⟨gb,ob,cb,rfl,_,hgb,hcb,hrb⟩:=(HB.out.below HBR.out) j hltm;have hca:j6 wr ga (oa+7*j) ca:=hca;have hcb:j6 wr gb (ob+7*j) cb:=hcb;have HRA:=hid hra;have HRB:=hid hrb;obtain⟨lo1,llo1,lc1,jt1,jk1,jn1,Xa1,Xb1,Xu1,rfl⟩:=Kk.form hra;obtain⟨lo2,llo2,lc2,jt2,jk2,jn2,Xa2,Xb2,Xu2,rfl⟩:=Kk.form hrb;have HCA:=hid hca;have HCB:=hid hcb;clear hra hrb hca hcb;go_wp2_with fail;obtain⟨D,hD⟩:=nmd (wr.drew)
    have HBD:Hid (Below wr.heap.size wr D):=hid (by rw[<-hD];exact(Below.refl _ _).drew);have hS:Two D ga (oa+7*j) [.slice lo1 llo1 lc1,.int .u64 jt1,.int .i64 jk1,.int .u64 jn1,.string Xa1,.string Xb1,.string Xu1] gb (ob+7*j) [.slice lo2 llo2 lc2,.int .u64 jt2,.int .i64 jk2,.int .u64 jn2,.string Xa2,.string Xb2,.string Xu2]:=⟨HCA.out.below HBD.out hga,HCB.out.below HBD.out hgb⟩
    have hne:Nonempty {w':World // Two w' ga (oa+7*j) [.slice lo1 llo1 lc1,.int .u64 jt1,.int .i64 jk1,.int .u64 jn1,.string Xa1,.string Xb1,.string Xu1] gb (ob+7*j) [.slice lo2 llo2 lc2,.int .u64 jt2,.int .i64 jk2,.int .u64 jn2,.string Xa2,.string Xb2,.string Xu2]}:=⟨⟨_,hS⟩⟩
    refine zj (S:=fun w'=>Two w' ga (oa+7*j) [.slice lo1 llo1 lc1,.int .u64 jt1,.int .i64 jk1,.int .u64 jn1,.string Xa1,.string Xb1,.string Xu1] gb (ob+7*j) [.slice lo2 llo2 lc2,.int .u64 jt2,.int .i64 jk2,.int .u64 jn2,.string Xa2,.string Xb2,.string Xu2]) [(0,true),(1,true),(2,true),(3,true),(4,true),(5,true),(6,true),(7,true),(8,false),(9,true)] (by kernel_rfl) (by kernel_rfl) (by kernel_rfl) (by kernel_rfl) (by rw[hD];exact hS) ?_;rw[hD];clear hD
    iterate 2 (refine zf _ rfl (fun K2 hK=>?_);go_simp;(first|refine hK _ ?_|refine⟨_,fun _ _=>rfl,hK _ ?_⟩);clear hK K2)
    refine zf _ rfl (fun K2 hK=>?_);go_simp
    (first|refine hK _ ?_|refine⟨.pointer (some ⟨ga,oa+j*7,none⟩),fun _ _=>if_pos (by omega),hK _ ?_⟩)
    clear hK K2;refine zf _ rfl (fun K2 hK=>?_);go_simp;refine⟨.agg #[.slice lo1 llo1 lc1,.int .u64 jt1,.int .i64 jk1,.int .u64 jn1,.string Xa1,.string Xb1,.string Xu1],fun a ha=>by obtain⟨ea0,ea1,ea2,ea3,ea4,ea5,ea6⟩:=zc0 ha.1;simp only[ea0,ea1,ea2,ea3,ea4,ea5,ea6,Result.andThen],hK _ ?_⟩;clear hK K2
    iterate 2 (refine zf _ rfl (fun K2 hK=>?_);go_simp;(first|refine hK _ ?_|refine⟨_,fun _ _=>rfl,hK _ ?_⟩);clear hK K2)
    refine zf _ rfl (fun K2 hK=>?_);go_simp
    (first|refine hK _ ?_|refine⟨.pointer (some ⟨gb,ob+j*7,none⟩),fun _ _=>if_pos (by omega),hK _ ?_⟩)
    clear hK K2;refine zf _ rfl (fun K2 hK=>?_);go_simp;refine⟨.agg #[.slice lo2 llo2 lc2,.int .u64 jt2,.int .i64 jk2,.int .u64 jn2,.string Xa2,.string Xb2,.string Xu2],fun a ha=>by obtain⟨eb0,eb1,eb2,eb3,eb4,eb5,eb6⟩:=zc0 ha.2;simp only[eb0,eb1,eb2,eb3,eb4,eb5,eb6,Result.andThen],hK _ ?_⟩;clear hK K2;refine zo _ rfl (fun K2 hK=>?_);go_simp;refine(ex_ref l[j] m[j] [.slice lo1 llo1 lc1,.int .u64 jt1,.int .i64 jk1,.int .u64 jn1,.string Xa1,.string Xb1,.string Xu1] [.slice lo2 llo2 lc2,.int .u64 jt2,.int .i64 jk2,.int .u64 jn2,.string Xa2,.string Xb2,.string Xu2] P Q D (HLIM.out _ (List.getElem_mem hlt)) (qg.upd (Upd.of_new (S:=fun _=>False) HBD.out) (fun _ _ h=>h) (fun _ h=>h) HRA.out) (qg.upd (Upd.of_new (S:=fun _=>False) HBD.out) (fun _ _ h=>h) (fun _ h=>h) HRB.out)).mono ?_;rintro e w4 ⟨rfl,hb4⟩;obtain⟨bb,hbb⟩:=nmd (alike l[j] m[j])
    have HBB:=hid hbb;rw[hbb];clear hbb;have HB4:=hid (zb HBD.out hb4);have hS4:Two w4 ga (oa+7*j) [.slice lo1 llo1 lc1,.int .u64 jt1,.int .i64 jk1,.int .u64 jn1,.string Xa1,.string Xb1,.string Xu1] gb (ob+7*j) [.slice lo2 llo2 lc2,.int .u64 jt2,.int .i64 jk2,.int .u64 jn2,.string Xa2,.string Xb2,.string Xu2]:=⟨HCA.out.below HB4.out hga,HCB.out.below HB4.out hgb⟩
    go_simp;refine hK.out _ _ hS4 ?_;clear hK K2 hb4
    (refine zf _ rfl (fun K2 hK=>?_);go_simp;(first|refine hK _ ?_|refine⟨_,fun _ _=>rfl,hK _ ?_⟩);clear hK K2)
    refine zw ?_;clear hne hS hS4;have HBW:=hid (zb HBR.out HB4.out)
    cases bb with
    | true =>
     have HE:=hid (qr.1 HBB.out);go_wp2_with fail;have hj:=HJ.out
     go_roundg (gk-1)
     case measure=>omega
     case rel=>exact⟨j+1,by simp,by omega,HBW.out,hid (by rw[List.take_succ_eq_append_getElem hlt,List.take_succ_eq_append_getElem hltm,HEQ.out,HE.out])⟩
    | false =>
     have hr:r=false:=by rw[<-HR.out];exact zr (fun h=>by have:=HBB.out;subst h;rw[yh rfl]at this;cases this)
     subst hr;go_wp2_with fail;go_ret;exact⟨rfl,HBW.out⟩
   ·have hjn:j=l.length:=by have:=HJ.out;omega
    have hr:r=true:=by
     rw[<-HR.out];refine yh ?_;have h:=HEQ.out;rw[hjn,List.take_length,HLEN.out,List.take_length]at h;exact h
    subst hr;clear hjn;go_wp2_with fail;go_ret;exact⟨rfl,HBR.out⟩
theorem Tryz.elExL:Elem Tryz.prog 30 96 (.agg #[.slice none 0 0,.int .u64 0,.int .i64 0,.int .u64 0,.string ⟨#[]⟩,.string ⟨#[]⟩,.string ⟨#[]⟩]) 7 96:=⟨Tryz.underlying30,by kernel_rfl,by decide⟩
theorem zd3 (b o base:Nat)(cs0:Array Value)(T0:TypeId)(v:Value)(xs:List Ex)(P:Nat->Prop)(F:Nat)(X:ByteArray)(d:Int)(rd:Except Nat Ex)(w:World)(hET:∀args w,(callFunc F args).run Tryz.prog w=.ok (.enter F args) w)(hrow:Hid (w.heap[b]?=some (.cells cs0 T0 (0,0))))(hcs:cs0[o]?=some v)(hbase:b<base/\base<=w.heap.size)(h:Hid (LsAt qg 96 base v xs P w))(hl:xs.length<=1000000)(hread:Hid (∀w',Calls Tryz.prog F #[.string X,.int .i64 d] w' (Z9 qg Q3 rd X.size w'))) :
  Calls Tryz.prog 60 #[.pointer (some ⟨b,o,none⟩),.string X,.int .i64 d,.func (.func F) #[] #[]] w (Yw qg 96 T0 b o base cs0 xs P rd w):=by
 obtain⟨css,Q,h2,h3,h4,h5,rfl⟩:=h.out;obtain⟨ao,cap,rfl⟩:=zh h2;have H2:=hid h2;have H3:=hid h3;have H4:=hid h4;have H5:=hid h5;have hbw:=z8 hrow.out;clear h h2 h3 h4 h5;go_enter Tryz.func60,Tryz.ntmps60;go_wp2_with fail;refine(hread.out w).mono ?_;intro e w1 hpost;obtain⟨hb1,hcase⟩:=hpost;have HB1:=hid hb1;clear hb1
 cases rd with
 | error c =>
  obtain⟨y,q,rfl,hq,hew⟩:=hcase;obtain⟨T',z,rfl⟩:=hew.iface;have HEW:=hid hew;clear hew;unfold Q3;go_wp2_with fail;go_ret;exact⟨(Upd.of_new HB1.out).trans (Upd.alloc _ _ _),_,rfl,(HEW.out.below (zd _ _)).ec⟩
 | ok x =>
  obtain⟨cs,rfl,hrel⟩:=hcase;have HREL:=hid hrel;obtain⟨lo,llo,lc,jt,jk,jn,Xa,Xb,Xu,hcs1⟩:=Kk.form hrel;have HCS:=hid hcs1;rw[hcs1];clear hcs1 hrel;go_wp2_with fail;obtain⟨bx,hbx⟩:=nmd (w1.heap.size)
  obtain⟨W2,hW2⟩:∃W,w1.alloc (.cells #[.slice lo llo lc,.int .u64 jt,.int .i64 jk,.int .u64 jn,.string Xa,.string Xb,.string Xu] 96)=W:=⟨_,rfl⟩
  have HB2:Hid (Below w1.heap.size w1 W2):=hid (by rw[<-hW2];exact zd _ _);have HX2:Hid (W2.heap[bx]?=some (.cells #[.slice lo llo lc,.int .u64 jt,.int .i64 jk,.int .u64 jn,.string Xa,.string Xb,.string Xu] 96 (0,0))):=hid (by rw[<-hW2,<-hbx];exact heap_alloc_new _ _);have HBX:=hid hbx;rw[hW2,hbx];clear hW2 hbx;obtain⟨D,hD⟩:=nmd (W2.drew)
  have HBD:Hid (Below w1.heap.size w1 D):=hid (by rw[<-hD];exact HB2.out.drew);have HXD:Hid (D.heap[bx]?=some (.cells #[.slice lo llo lc,.int .u64 jt,.int .i64 jk,.int .u64 jn,.string Xa,.string Xb,.string Xu] 96 (0,0))):=hid (by rw[<-hD];exact HX2.out);have HWD:=hid (zb HB1.out HBD.out);have HLD:Hid (D.heap[b]?=some (.cells cs0 T0 (0,0))):=hid ((HWD.out.block _ hbw).trans hrow.out);have HOD:Hid (D.ownsRow base 96 7 (.slice ao xs.length cap) xs.length css.flatten):=hid (y6 H2.out HWD.out);have hcb:D.cell? ⟨b,o,none⟩=some (.slice ao xs.length cap):=za HLD.out hcs;have hne:Nonempty {w':World // w'.heap[bx]?=some (.cells #[.slice lo llo lc,.int .u64 jt,.int .i64 jk,.int .u64 jn,.string Xa,.string Xb,.string Xu] 96 (0,0))}:=⟨⟨_,HXD.out⟩⟩
  have hsz:=HWD.out.size;have hxlt:=z8 HXD.out;refine Yv (S:=fun w'=>w'.heap[bx]?=some (.cells #[.slice lo llo lc,.int .u64 jt,.int .i64 jk,.int .u64 jn,.string Xa,.string Xb,.string Xu] 96 (0,0))) (.take 0 (.take 1 (.take 2 (.take 4 (.two 3 5 (.come 5 (.come 6 (.take 7 (.come 8 .done)))) (.come 3 (.come 6 (.take 7 (.come 8 .done))))))))) (by kernel_rfl) (by kernel_rfl) (by kernel_rfl) (by kernel_rfl) (by rw[hD];exact HXD.out) ?_;rw[hD];clear hD
  iterate 3 (refine yu _ rfl (fun K hK=>?_);go_simp;(first|refine hK _ ?_|refine⟨_,fun _ _=>rfl,hK _ ?_⟩);clear hK K)
  refine yu _ rfl (fun K hK=>?_);go_simp;refine⟨.agg #[.slice lo llo lc,.int .u64 jt,.int .i64 jk,.int .u64 jn,.string Xa,.string Xb,.string Xu],fun a ha=>by(have e0:=za ha (j:=0) rfl;have e1:=za ha (j:=1) rfl;have e2:=za ha (j:=2) rfl;have e3:=za ha (j:=3) rfl;have e4:=za ha (j:=4) rfl;have e5:=za ha (j:=5) rfl;have e6:=za ha (j:=6) rfl);simp only[e0,e1,e2,e3,e4,e5,e6,Result.andThen];rfl,hK _ ?_⟩;clear hK K;have HXE:Hid ((D.alloc (.cells #[.slice lo llo lc,.int .u64 jt,.int .i64 jk,.int .u64 jn,.string Xa,.string Xb,.string Xu] 96)).heap[bx]?=some (.cells #[.slice lo llo lc,.int .u64 jt,.int .i64 jk,.int .u64 jn,.string Xa,.string Xb,.string Xu] 96 (0,0))):=hid ((Below.heap_alloc _ _ _ hxlt).trans HXD.out);have hcbE:(D.alloc (.cells #[.slice lo llo lc,.int .u64 jt,.int .i64 jk,.int .u64 jn,.string Xa,.string Xb,.string Xu] 96)).cell? ⟨b,o,none⟩=some (.slice ao xs.length cap):=za ((Below.heap_alloc _ _ _ (z8 HLD.out)).trans HLD.out) hcs;refine Y4 _ _ rfl rfl (fun K hK=>?_) (fun K hK=>?_)
  all_goals go_simp
  ·refine hK.out _ _ HXD.out ?_;clear hK K
   refine qa _ rfl (fun K hK=>?_);go_simp;refine hK.out _ _ HXE.out ?_;clear hK K;refine Z6 _ rfl rfl (fun K hK=>?_);refine Zg _ _ 30 rfl Tryz.elExL (by decide) (HOD.out.alloc _) rfl (b:=D.heap.size) (off:=0) (m:=1) (c:=1) (news:=[.slice lo llo lc,.int .u64 jt,.int .i64 jk,.int .u64 jn,.string Xa,.string Xb,.string Xu]) rfl rfl (fun j u hj=>by rw[Nat.zero_add];exact za (heap_alloc_new D _) (by simpa using hj)) (by simp[Value.oneCell']) (by unfold maxLen;omega) (by omega) (by simp;omega) (fun v' w3 hown3 hgrow hnew=>?_);obtain⟨g,cap',hv',hg1,hg2,_,_⟩:=yj hown3 (by omega);subst hv';have hgu:Upd (fun k=>(Value.slice ao xs.length cap).ownBlock=some k) (D.alloc (.cells #[.slice lo llo lc,.int .u64 jt,.int .i64 jk,.int .u64 jn,.string Xa,.string Xb,.string Xu] 96)) w3:=Upd.of_grown hgrow;have HGU:=hid hgu;have HO3:=hid hown3;have HNEW:Hid (∀k,(Value.slice (some ⟨g,0,none⟩) (xs.length+1) cap').ownBlock=some k->(Value.slice ao xs.length cap).ownBlock=some k∨k=D.heap.size+1):=hid (fun k hk=>(hnew k hk).imp id (fun h=>by rw[h];exact Array.size_push ..));have HGB:Hid (¬(Value.slice ao xs.length cap).ownBlock=some bx):=hid (fun h=>by have:=(H2.out.lt bx h).2;have:=HB1.out.size;have:=HBX.out;omega);have HGL:Hid (¬(Value.slice ao xs.length cap).ownBlock=some b):=hid (fun h=>by have:=(H2.out.lt b h).1;omega);have HX3:Hid (w3.heap[bx]?=some (.cells #[.slice lo llo lc,.int .u64 jt,.int .i64 jk,.int .u64 jn,.string Xa,.string Xb,.string Xu] 96 (0,0))):=hid ((hgu.block bx (z8 HXE.out) HGB.out).trans HXE.out);have HL3:Hid (w3.heap[b]?=some (.cells cs0 T0 (0,0))):=hid ((hgu.block b (by have:=z8 HLD.out;simp;omega) HGL.out).trans ((Below.heap_alloc _ _ _ (z8 HLD.out)).trans HLD.out));refine hK.out _ _ HX3.out ?_;clear hK K;clear hgu hown3 hnew hgrow
   (refine yu _ rfl (fun K hK=>?_);go_simp;(first|refine hK _ ?_|refine⟨_,fun _ _=>rfl,hK _ ?_⟩);clear hK K)
   have hbxb:bx≠b:=by have:=HBX.out;have:=HB1.out.size;omega
   refine qa _ rfl (fun K hK=>?_);have hcb:w3.cell? ⟨b,o,none⟩=some (.slice ao xs.length cap):=za HL3.out hcs;have hfb:w3.frozen? ⟨b,o,none⟩=false:=z7 HL3.out o;go_simp;obtain⟨W4,hW4⟩:∃W,w3.setCell ⟨b,o,none⟩ (.slice (some ⟨g,0,none⟩) (xs.length+1) cap')=W:=⟨_,rfl⟩
   have hu4:=Upd.set w3 ⟨b,o,none⟩ (.slice (some ⟨g,0,none⟩) (xs.length+1) cap');have hl4:=ze HL3.out o (.slice (some ⟨g,0,none⟩) (xs.length+1) cap');rw[hW4]at hu4 hl4 ⊢;clear hW4 hcb hfb;have HU4:=hid hu4;have HL4:=hid hl4;have HO4:=hid (hu4.own HO3.out (fun k hk e=>by have e:k=b:=e;have:=(HO3.out.lt k hk).1;omega));have HX4:Hid (W4.heap[bx]?=some (.cells #[.slice lo llo lc,.int .u64 jt,.int .i64 jk,.int .u64 jn,.string Xa,.string Xb,.string Xu] 96 (0,0))):=hid ((hu4.block bx (z8 HX3.out) (fun e=>hbxb e)).trans HX3.out);clear hu4 hl4;refine hK.out _ _ HX4.out ?_;clear hK K;refine je ?_;go_wp2_with fail;go_ret;refine js hbase HB1.out H3.out H4.out H5.out HREL.out (g:=g) (hb0:=fun k hk=>(H2.out.lt k hk).2) (cap':=cap') (W:=W4) HL4.out ?_ ?_ ?_
   ·exact HCS.out ▸ HO4.out
   ·refine((Upd.of_new HBD.out).trans ((Upd.alloc _ _ _).trans (HGU.out.mono fun k _ h => .inr h))).trans' (S':=fun k=>k=b) (HU4.out.mono fun k _ h=>h) (fun k hk h => .inl h)
   ·rcases HNEW.out g rfl with h|h
    ·exact .inl h
    ·exact .inr (by have:=HBD.out.size;omega)
  ·refine hK.out _ _ HXE.out ?_;clear hK K
   refine qa _ rfl (fun K hK=>?_);go_simp;refine hK.out _ _ HXE.out ?_;clear hK K;refine Z6 _ rfl rfl (fun K hK=>?_);refine Zg _ _ 30 rfl Tryz.elExL (by decide) (HOD.out.alloc _) rfl (b:=D.heap.size) (off:=0) (m:=1) (c:=1) (news:=[.slice lo llo lc,.int .u64 jt,.int .i64 jk,.int .u64 jn,.string Xa,.string Xb,.string Xu]) rfl rfl (fun j u hj=>by rw[Nat.zero_add];exact za (heap_alloc_new D _) (by simpa using hj)) (by simp[Value.oneCell']) (by unfold maxLen;omega) (by omega) (by simp;omega) (fun v' w3 hown3 hgrow hnew=>?_);obtain⟨g,cap',hv',hg1,hg2,_,_⟩:=yj hown3 (by omega);subst hv';have hgu:Upd (fun k=>(Value.slice ao xs.length cap).ownBlock=some k) (D.alloc (.cells #[.slice lo llo lc,.int .u64 jt,.int .i64 jk,.int .u64 jn,.string Xa,.string Xb,.string Xu] 96)) w3:=Upd.of_grown hgrow;have HGU:=hid hgu;have HO3:=hid hown3;have HNEW:Hid (∀k,(Value.slice (some ⟨g,0,none⟩) (xs.length+1) cap').ownBlock=some k->(Value.slice ao xs.length cap).ownBlock=some k∨k=D.heap.size+1):=hid (fun k hk=>(hnew k hk).imp id (fun h=>by rw[h];exact Array.size_push ..));have HGB:Hid (¬(Value.slice ao xs.length cap).ownBlock=some bx):=hid (fun h=>by have:=(H2.out.lt bx h).2;have:=HB1.out.size;have:=HBX.out;omega);have HGL:Hid (¬(Value.slice ao xs.length cap).ownBlock=some b):=hid (fun h=>by have:=(H2.out.lt b h).1;omega);have HX3:Hid (w3.heap[bx]?=some (.cells #[.slice lo llo lc,.int .u64 jt,.int .i64 jk,.int .u64 jn,.string Xa,.string Xb,.string Xu] 96 (0,0))):=hid ((hgu.block bx (z8 HXE.out) HGB.out).trans HXE.out);have HL3:Hid (w3.heap[b]?=some (.cells cs0 T0 (0,0))):=hid ((hgu.block b (by have:=z8 HLD.out;simp;omega) HGL.out).trans ((Below.heap_alloc _ _ _ (z8 HLD.out)).trans HLD.out));refine hK.out _ _ HX3.out ?_;clear hK K;clear hgu hown3 hnew hgrow
   (refine yu _ rfl (fun K hK=>?_);go_simp;(first|refine hK _ ?_|refine⟨_,fun _ _=>rfl,hK _ ?_⟩);clear hK K)
   have hbxb:bx≠b:=by have:=HBX.out;have:=HB1.out.size;omega
   refine qa _ rfl (fun K hK=>?_);have hcb:w3.cell? ⟨b,o,none⟩=some (.slice ao xs.length cap):=za HL3.out hcs;have hfb:w3.frozen? ⟨b,o,none⟩=false:=z7 HL3.out o;go_simp;obtain⟨W4,hW4⟩:∃W,w3.setCell ⟨b,o,none⟩ (.slice (some ⟨g,0,none⟩) (xs.length+1) cap')=W:=⟨_,rfl⟩
   have hu4:=Upd.set w3 ⟨b,o,none⟩ (.slice (some ⟨g,0,none⟩) (xs.length+1) cap');have hl4:=ze HL3.out o (.slice (some ⟨g,0,none⟩) (xs.length+1) cap');rw[hW4]at hu4 hl4 ⊢;clear hW4 hcb hfb;have HU4:=hid hu4;have HL4:=hid hl4;have HO4:=hid (hu4.own HO3.out (fun k hk e=>by have e:k=b:=e;have:=(HO3.out.lt k hk).1;omega));have HX4:Hid (W4.heap[bx]?=some (.cells #[.slice lo llo lc,.int .u64 jt,.int .i64 jk,.int .u64 jn,.string Xa,.string Xb,.string Xu] 96 (0,0))):=hid ((hu4.block bx (z8 HX3.out) (fun e=>hbxb e)).trans HX3.out);clear hu4 hl4;refine hK.out _ _ HX4.out ?_;clear hK K;refine je ?_;go_wp2_with fail;go_ret;refine js hbase HB1.out H3.out H4.out H5.out HREL.out (g:=g) (hb0:=fun k hk=>(H2.out.lt k hk).2) (cap':=cap') (W:=W4) HL4.out ?_ ?_ ?_
   ·exact HCS.out ▸ HO4.out
   ·refine((Upd.of_new HBD.out).trans ((Upd.alloc _ _ _).trans (HGU.out.mono fun k _ h => .inr h))).trans' (S':=fun k=>k=b) (HU4.out.mono fun k _ h=>h) (fun k hk h => .inl h)
   ·rcases HNEW.out g rfl with h|h
    ·exact .inl h
    ·exact .inr (by have:=HBD.out.size;omega)
end Go.Proofs.YtmlghmjjlpioeaaGreatDoor
