/-
  ExSub, ExEqf
-/
import Derived.Test.YtficgfemmijaaaaGreatRowL
import Derived.Test.YtficgfemmijaaaaGreatExRoom
import Derived.Test.YtficgfemmijaaaaGreatExSame
set_option maxRecDepth 1000000
set_option maxHeartbeats 16000000
namespace Go.Proofs.YtficgfemmijaaaaGreat
open Go.RowKit
open Lib (hid)
theorem rF_len9 {num:Nat}(hn:num≤15)(n:Nat):(rF num n).raw.length≤9:=by
 show (vput (8 * num+1)++eight 8 n).length≤9
 rw[List.length_append,vput_one (by omega)];have:=eight_len 8 n;omega
theorem num_seg9 {num:Nat}(hn:num≤15)(n:Nat):(if n=0 then [] else (rF num n).raw).length≤9:=by
 split
 ·simp
 ·exact rF_len9 hn n
theorem kind_seg9 {num:Nat}(hn:num≤15)(n:Nat)(c k:Int):(if k=c then (rF num n).raw else []).length≤9:=by
 split
 ·exact rF_len9 hn n
 ·simp
theorem bytes_seg11 {num:Nat}(hn:num≤15)(a:List UInt8):(if a=[] then [] else (rB num a).raw).length≤11+a.length:=by
 split
 ·simp
 ·show (vput (8 * num+2)++(vput a.length++a)).length≤_
  rw[List.length_append,List.length_append,vput_one (by omega)];have:=vput_le10 a.length;omega
def exSb:Sub Ex where
 rd d t:=exrd t d
 out:=ex_out
 may d x:=ex_may d x
 fit x:=exF.fit x.1
 wt:=ex_wt
theorem ex_mayx (x:Ex)(d:Int):ex_may d x=(decide (0≤d)&&(exF.may d x.1&&munkOk exF.tk x.2 d)):=by
 obtain ⟨⟨t,⟨⟨⟨k,n⟩,⟨a,b⟩⟩,l⟩⟩,u⟩:=x;exact ex_mayF d
theorem ex_outx (x:Ex):(exF.out x.1).flatMap Rec.raw++x.2=ex_out x:=by
 obtain ⟨⟨t,⟨⟨⟨k,n⟩,⟨a,b⟩⟩,l⟩⟩,u⟩:=x;exact ex_outF
theorem ex_wtx (x:Ex):ex_wt x=60+(exF.wt x.1+x.2.length):=by
 obtain ⟨⟨t,⟨⟨⟨k,n⟩,⟨a,b⟩⟩,l⟩⟩,u⟩:=x
 show 60+(a.length+b.length+ksw l+u.length)=60+((0+((0+(a.length+b.length))+(listF 7 kvS).wt l))+u.length)
 rw[kvs_wt];omega
theorem ex_wlen (x:Ex):(ex_out x).length+11≤ex_wt x:=by
 obtain ⟨⟨t,⟨⟨⟨k,n⟩,⟨a,b⟩⟩,l⟩⟩,u⟩:=x;have g0:=num_seg9 (num:=2) (by omega) t;have g1:=kind_seg9 (num:=3) (by omega) n 1 k;have g2:=kind_seg9 (num:=6) (by omega) n 2 k;have g3:=bytes_seg11 (num:=4) (by omega) a;have g4:=bytes_seg11 (num:=5) (by omega) b;have g5:=kouts_le 7 (by omega) l
 show ((if t=0 then [] else (rF 2 t).raw)++(if k=1 then (rF 3 n).raw else [])++(if a=[] then [] else (rB 4 a).raw)++(if b=[] then [] else (rB 5 b).raw)++(if k=2 then (rF 6 n).raw else [])++kouts 7 l++u).length+11≤60+(a.length+b.length+ksw l+u.length)
 simp only[List.length_append]
 omega
theorem exSb_ok:exSb.Ok where
 len:=fun x=>by have:=ex_wlen x;show (ex_out x).length≤ex_wt x+1000;omega
 back:=fun (x:Ex) d hf hw hd hm=>by
  have hm:ex_may d x=true:=hm;have hw:ex_wt x≤1000000:=hw;rw[ex_mayx] at hm
  simp only[Bool.and_eq_true,decide_eq_true_eq] at hm
  rw[ex_wtx] at hw;have h:=fld_back exF_ok (s:=x.1) (u:=x.2) hf (by omega) hd hm.2.1 hm.2.2;rw[ex_outx] at h;exact h
 less:=fun (x:Ex) d d' hf hw hd hm hle hn=>by
  have hm:ex_may d x=true:=hm;have hw:ex_wt x≤1000000:=hw;rw[ex_mayx] at hm
  simp only[Bool.and_eq_true,decide_eq_true_eq] at hm
  rw[ex_wtx] at hw
  obtain ⟨c,h⟩:=fld_less exF_ok (s:=x.1) (u:=x.2) (d:=d) (d':=d') hf (by omega) hm.2.1 hm.2.2 hle (by
   rcases hn with h0|h0
   ·exact .inl h0
   ·have h0:ex_may d' x=false:=h0
    by_cases h1:d' < 0
    ·exact .inl h1
    ·rw[ex_mayx,decide_eq_true (by omega:0≤d'),Bool.true_and,Bool.and_eq_false_iff] at h0
     exact .inr h0)
  rw[ex_outx] at h;exact ⟨c,h⟩
 twice:=fun t (x:Ex) d ht h=>by
  obtain ⟨h0,h1,h2,h3,h4⟩:=fld_twice exF_ok (s:=x.1) (u:=x.2) ht h;have h4:exF.wt x.1+x.2.length≤(0+((0+(0+0))+0))+51 * t.length:=h4;refine ⟨h0,?_,h3,?_⟩
  ·show ex_may d x=true
   rw[ex_mayx,h1,h2,decide_eq_true h0];rfl
  ·show ex_wt x≤_
   rw[ex_wtx];omega
theorem ex_may_neg (x:Ex)(d:Int):ex_may d x=(decide (0≤d)&&ex_may d x):=by
 rw[ex_mayx]
 cases decide (0≤d)<;>rfl
theorem exs_fit2 {num:Nat}{l:List Ex}(h:∀ x∈l,ex_fit x):(listF num exSb).fit l:=fun x hx=>by
 have h1:=h x hx;obtain ⟨⟨t,⟨⟨⟨k,n⟩,⟨a,b⟩⟩,l⟩⟩,u⟩:=x;exact (ex_fitF h1).1
theorem exs_wt_le {l:List Ex}{x:Ex}{n:Nat}(hx:x∈l)(hw:lwt exSb l≤n):ex_wt x≤n:=Nat.le_trans (lwt_mem (S:=exSb) hx) hw
theorem exs_fit_of {l:List Ex}(h:∀ x∈l,ex_arg x)(hw:lwt exSb l≤12000):∀ x∈l,ex_fit x:=fun x hx=>by
 have h1:=h x hx;have h2:=exs_wt_le hx hw;obtain ⟨⟨t,⟨⟨⟨k,n⟩,⟨a,b⟩⟩,l⟩⟩,u⟩:=x;exact ex_fit_of h1 h2
theorem exs_len:∀ l:List Ex,l.length * 60≤lwt exSb l:=lwt_len (S:=exSb) (k:=60) fun x=>by
 obtain ⟨⟨t,⟨⟨⟨k,n⟩,⟨a,b⟩⟩,l⟩⟩,u⟩:=x
 show 60≤60+_
 omega
theorem exs_olen {num:Nat}(hn:1≤num∧num≤15)(l:List Ex):(louts exSb num l).length≤lwt exSb l:=louts_le hn ex_wlen l
theorem ExRel.form {w:World}{P:Nat→Prop}:∀ {x:Ex} {c:List Value},ExRel w P x c→∃ (lo:Option Addr) (llo lc:Nat) (jt:Int) (jk:Int) (jn:Int) (Xa:ByteArray) (Xb:ByteArray) (Xu:ByteArray),c=[.slice lo llo lc,.int .u64 jt,.int .i64 jk,.int .u64 jn,.string Xa,.string Xb,.string Xu]
 | ((t,(((k,n),(a,b)),l)),u),c,h=>by
  obtain ⟨lo,lc,rfl,_⟩:=h;exact ⟨_,_,_,_,_,_,_,_,_,rfl⟩
theorem rowx7 {w:World}{g:Nat}{c0 c1 c2 c3 c4 c5 c6:Value}{T:TypeId}{fr:Nat × Nat}(h:w.heap[g]? = some (.cells #[c0,c1,c2,c3,c4,c5,c6] T fr)):w.cell? ⟨g,0,none⟩=some c0∧w.cell? ⟨g,1,none⟩=some c1∧w.cell? ⟨g,2,none⟩=some c2∧w.cell? ⟨g,3,none⟩=some c3∧w.cell? ⟨g,4,none⟩=some c4∧w.cell? ⟨g,5,none⟩=some c5∧w.cell? ⟨g,6,none⟩=some c6:=⟨row_cell h (j:=0) rfl,row_cell h (j:=1) rfl,row_cell h (j:=2) rfl,row_cell h (j:=3) rfl,row_cell h (j:=4) rfl,row_cell h (j:=5) rfl,row_cell h (j:=6) rfl⟩
theorem cells7 {w:World}{g o j:Nat}{c0 c1 c2 c3 c4 c5 c6:Value}(h:Cells w g (o+7 * j) [c0,c1,c2,c3,c4,c5,c6]):w.cell? ⟨g,o+j * 7,none⟩=some c0∧w.cell? ⟨g,o+j * 7+1,none⟩=some c1∧w.cell? ⟨g,o+j * 7+2,none⟩=some c2∧w.cell? ⟨g,o+j * 7+3,none⟩=some c3∧w.cell? ⟨g,o+j * 7+4,none⟩=some c4∧w.cell? ⟨g,o+j * 7+5,none⟩=some c5∧w.cell? ⟨g,o+j * 7+6,none⟩=some c6:=by
 refine ⟨?_,?_,?_,?_,?_,?_,?_⟩
 ·have:=h 0 (by simp);rw[show o+j * 7=o+7 * j+0 by omega,this];rfl
 ·have:=h 1 (by simp);rw[show o+j * 7+1=o+7 * j+1 by omega,this];rfl
 ·have:=h 2 (by simp);rw[show o+j * 7+2=o+7 * j+2 by omega,this];rfl
 ·have:=h 3 (by simp);rw[show o+j * 7+3=o+7 * j+3 by omega,this];rfl
 ·have:=h 4 (by simp);rw[show o+j * 7+4=o+7 * j+4 by omega,this];rfl
 ·have:=h 5 (by simp);rw[show o+j * 7+5=o+7 * j+5 by omega,this];rfl
 ·have:=h 6 (by simp);rw[show o+j * 7+6=o+7 * j+6 by omega,this];rfl
open Go.RowKit
theorem eqfex_any (l:List Ex)(hargs:∀ x∈l,ex_arg x)(m:List Ex)(lo mo:Option Addr)(lc mc:Nat)(P Q:Nat→Prop)(w:World)(hl:l.length≤9223372036854775807)(ha:CRels exCel w P l lo)(hb:CRels exCel w Q m mo) :
  Calls Tryz.prog 20 #[.slice lo l.length lc,.slice mo m.length mc,.func (.func 21) #[] #[]] w fun e w'=>e = .returned (.bool (alike l m))∧Below w.heap.size w w':=by
 have HA:=hid ha;have HB:=hid hb;have HLIM:=hid hargs;clear ha hb hargs
 by_cases hlen:l.length=m.length
 case neg =>
  have HR:Hid (alike l m=false):=hid (alike_no fun h=>hlen (by rw[h]));have d1:((l.length:Int) != (m.length:Int))=true:=by rw[bne_iff_ne];omega
  rw[HR.out];clear hlen;go_enter Tryz.func20,Tryz.ntmps20;go_wp2_with fail;go_ret;exact ⟨rfl,Below.refl _ _⟩
 case pos =>
  obtain ⟨r,HR⟩:∃ r,Hid (alike l m=r):=⟨_,hid rfl⟩
  rw[HR.out];have d1:((l.length:Int) != (m.length:Int))=false:=by rw[bne_eq_false_iff_eq];omega
  have HLEN:=hid hlen;clear hlen;go_enter Tryz.func20,Tryz.ntmps20;go_wp2_with fail
  go_loopg [17] l.length (fun k i wr=>∃ j:Nat,i = .int .i64 j∧j+k=l.length∧Below w.heap.size w wr∧Hid (l.take j=m.take j))
  case atStart=>exact ⟨0,rfl,by omega,Below.refl _ _,hid rfl⟩
  case round =>
   obtain ⟨j,rfl,hj,hbr,HEQ⟩:=hrel;have HBR:=hid hbr;have HJ:=hid hj;clear hbr hj
   by_cases hlt:j<l.length
   ·have hltm:j<m.length:=by have:=HLEN.out;omega
    obtain ⟨ga,oa,ca,rfl,_,hga,hca,hra⟩:=(HA.out.below HBR.out) j hlt;obtain ⟨gb,ob,cb,rfl,_,hgb,hcb,hrb⟩:=(HB.out.below HBR.out) j hltm;have hca:Cells wr ga (oa+7 * j) ca:=hca;have hcb:Cells wr gb (ob+7 * j) cb:=hcb;have HRA:=hid hra;have HRB:=hid hrb;obtain ⟨lo1,llo1,lc1,jt1,jk1,jn1,Xa1,Xb1,Xu1,rfl⟩:=ExRel.form hra;obtain ⟨lo2,llo2,lc2,jt2,jk2,jn2,Xa2,Xb2,Xu2,rfl⟩:=ExRel.form hrb;have HCA:=hid hca;have HCB:=hid hcb;have HB1:Hid (Below wr.heap.size wr (wr.alloc (.cells #[.slice lo1 llo1 lc1,.int .u64 jt1,.int .i64 jk1,.int .u64 jn1,.string Xa1,.string Xb1,.string Xu1] 54))):=hid (below_new _ _);have HCB1:=hid (hcb.below HB1.out hgb);have HB2:Hid (Below wr.heap.size wr ((wr.alloc (.cells #[.slice lo1 llo1 lc1,.int .u64 jt1,.int .i64 jk1,.int .u64 jn1,.string Xa1,.string Xb1,.string Xu1] 54)).alloc (.cells #[.slice lo2 llo2 lc2,.int .u64 jt2,.int .i64 jk2,.int .u64 jn2,.string Xa2,.string Xb2,.string Xu2] 54))):=hid (below_step HB1.out (below_new _ _));clear hra hrb hca hcb;obtain ⟨ea0,ea1,ea2,ea3,ea4,ea5,ea6⟩:=cells7 HCA.out;obtain ⟨eb0,eb1,eb2,eb3,eb4,eb5,eb6⟩:=cells7 HCB1.out;go_wp2_with fail;refine (ex_same l[j] m[j] [.slice lo1 llo1 lc1,.int .u64 jt1,.int .i64 jk1,.int .u64 jn1,.string Xa1,.string Xb1,.string Xu1] [.slice lo2 llo2 lc2,.int .u64 jt2,.int .i64 jk2,.int .u64 jn2,.string Xa2,.string Xb2,.string Xu2] P Q _ (HLIM.out _ (List.getElem_mem hlt)) (exCel.upd (Upd.of_new (S:=fun _=>False) HB2.out) (fun _ _ h=>h) (fun _ h=>h) HRA.out) (exCel.upd (Upd.of_new (S:=fun _=>False) HB2.out) (fun _ _ h=>h) (fun _ h=>h) HRB.out)).mono ?_;rintro e w4 ⟨rfl,hb4⟩;obtain ⟨bb,hbb⟩:∃ bb,alike l[j] m[j]=bb:=⟨_,rfl⟩
    have HBB:=hid hbb;rw[hbb];clear hbb;have HBW:=hid (below_step HBR.out (below_step HB2.out hb4));clear hb4 ea0 ea1 ea2 ea3 ea4 ea5 ea6 eb0 eb1 eb2 eb3 eb4 eb5 eb6
    cases bb with
    | true =>
     have HE:=hid (alike_iff.1 HBB.out);go_wp2_with fail;have hj:=HJ.out
     go_roundg (gk - 1)
     case measure=>omega
     case rel=>exact ⟨j+1,by simp,by omega,HBW.out,hid (by rw[List.take_succ_eq_append_getElem hlt,List.take_succ_eq_append_getElem hltm,HEQ.out,HE.out])⟩
    | false =>
     have hr:r=false:=by rw[←HR.out];exact alike_no (fun h=>by have:=HBB.out;subst h;rw[alike_yes rfl] at this;cases this)
     subst hr;go_wp2_with fail;go_ret;exact ⟨rfl,HBW.out⟩
   ·have hjn:j=l.length:=by have:=HJ.out;omega
    have hr:r=true:=by
     rw[←HR.out];refine alike_yes ?_;have h:=HEQ.out;rw[hjn,List.take_length,HLEN.out,List.take_length] at h;exact h
    subst hr;clear hjn;go_wp2_with fail;go_ret;exact ⟨rfl,HBR.out⟩
end Go.Proofs.YtficgfemmijaaaaGreat
