/-
  ExLOut, ExPart
-/
import Derived.Test.YtficgfemmijaaaaGreatDoorRowL
import Derived.Test.YtficgfemmijaaaaGreatDoorExRoom
import Derived.Test.YtficgfemmijaaaaGreatDoorExOut
import Derived.Test.YtficgfemmijaaaaGreatDoorPartK
set_option maxRecDepth 1000000
set_option maxHeartbeats 16000000
namespace Go.Proofs.YtficgfemmijaaaaGreatDoor
open Go.RowKit
open Lib (hid)
theorem rF_len9 {num:Nat}(hn:num≤15)(n:Nat):(rF num n).raw.length≤9:=by
  show (vput (8 * num+1)++eight 8 n).length≤9
  rw[List.length_append,vput_one (by omega)];have:=eight_len 8 n;omega
theorem num_seg9 {num:Nat}(hn:num≤15)(n:Nat):(if n=0 then [] else (rF num n).raw).length≤9:=by
  split
  · simp
  · exact rF_len9 hn n
theorem kind_seg9 {num:Nat}(hn:num≤15)(n:Nat)(c k:Int):(if k=c then (rF num n).raw else []).length≤9:=by
  split
  · exact rF_len9 hn n
  · simp
theorem bytes_seg11 {num:Nat}(hn:num≤15)(a:List UInt8):(if a=[] then [] else (rB num a).raw).length≤11+a.length:=by
  split
  · simp
  · show (vput (8 * num+2)++(vput a.length++a)).length≤_
    rw[List.length_append,List.length_append,vput_one (by omega)];have:=vput_le10 a.length;omega
def exSb:Sub Ex where
  rd d t:=exrd t d
  out:=ex_out
  may d x:=ex_may d x
  fit x:=exF.fit x.1
  wt:=ex_wt
theorem ex_mayx (x:Ex)(d:Int):ex_may d x=(decide (0≤d)&&(exF.may d x.1&&munkOk exF.tk x.2 d)):=by
  obtain ⟨⟨t,⟨⟨⟨k,n⟩,⟨a,b⟩⟩,l⟩⟩,u⟩:=x;exact ex_mayF d
theorem ex_wlen (x:Ex):(ex_out x).length+11≤ex_wt x:=by
  obtain ⟨⟨t,⟨⟨⟨k,n⟩,⟨a,b⟩⟩,l⟩⟩,u⟩:=x;have g0:=num_seg9 (num:=2) (by omega) t;have g1:=kind_seg9 (num:=3) (by omega) n 1 k;have g2:=kind_seg9 (num:=6) (by omega) n 2 k;have g3:=bytes_seg11 (num:=4) (by omega) a;have g4:=bytes_seg11 (num:=5) (by omega) b;have g5:=kouts_le 7 (by omega) l
  show ((if t=0 then [] else (rF 2 t).raw)++(if k=1 then (rF 3 n).raw else [])++(if a=[] then [] else (rB 4 a).raw)++(if b=[] then [] else (rB 5 b).raw)++(if k=2 then (rF 6 n).raw else [])++kouts 7 l++u).length+11≤60+(a.length+b.length+ksw l+u.length)
  simp only[List.length_append]
  omega
theorem ex_may_neg (x:Ex)(d:Int):ex_may d x=(decide (0≤d)&&ex_may d x):=by
  rw[ex_mayx]
  cases decide (0≤d)<;>rfl
theorem ex_arg_ofx {x:Ex}(h:ex_fit x):ex_arg x:=by
  obtain ⟨⟨t,⟨⟨⟨k,n⟩,⟨a,b⟩⟩,l⟩⟩,u⟩:=x;exact ex_arg_of h
theorem exs_wt_le {l:List Ex}{x:Ex}{n:Nat}(hx:x∈l)(hw:lwt exSb l≤n):ex_wt x≤n:=Nat.le_trans (lwt_mem (S:=exSb) hx) hw
theorem exs_fit_of {l:List Ex}(h:∀ x∈l,ex_arg x)(hw:lwt exSb l≤12000):∀ x∈l,ex_fit x:=fun x hx=>by
  have h1:=h x hx;have h2:=exs_wt_le hx hw;obtain ⟨⟨t,⟨⟨⟨k,n⟩,⟨a,b⟩⟩,l⟩⟩,u⟩:=x;exact ex_fit_of h1 h2
theorem exs_len:∀ l:List Ex,l.length * 60≤lwt exSb l:=lwt_len (S:=exSb) (k:=60) fun x=>by
  obtain ⟨⟨t,⟨⟨⟨k,n⟩,⟨a,b⟩⟩,l⟩⟩,u⟩:=x
  show 60≤60+_
  omega
theorem exs_olen {num:Nat}(hn:1≤num∧num≤15)(l:List Ex):(louts exSb num l).length≤lwt exSb l:=louts_le hn ex_wlen l
theorem ExRel.form {w:World}{P:Nat→Prop}:∀ {x:Ex} {c:List Value},ExRel w P x c→∃ (lo:Option Addr) (llo lc:Nat) (jt:Int) (jk:Int) (jn:Int) (Xa:ByteArray) (Xb:ByteArray) (Xu:ByteArray),c=[.slice lo llo lc,.int .u64 jt,.int .i64 jk,.int .u64 jn,.string Xa,.string Xb,.string Xu]
  | ((t,(((k,n),(a,b)),l)),u),c,h=>by
    obtain ⟨lo,lc,rfl,_⟩:=h;exact ⟨_,_,_,_,_,_,_,_,_,rfl⟩
theorem rowx7 {w:World}{g:Nat}{c0 c1 c2 c3 c4 c5 c6:Value}{T:TypeId}{fr:Nat × Nat}(h:w.heap[g]? = some (.cells #[c0,c1,c2,c3,c4,c5,c6] T fr)):w.cell? ⟨g,0,none⟩=some c0∧w.cell? ⟨g,1,none⟩=some c1∧w.cell? ⟨g,2,none⟩=some c2∧w.cell? ⟨g,3,none⟩=some c3∧w.cell? ⟨g,4,none⟩=some c4∧w.cell? ⟨g,5,none⟩=some c5∧w.cell? ⟨g,6,none⟩=some c6:=⟨row_cell h (j:=0) rfl,row_cell h (j:=1) rfl,row_cell h (j:=2) rfl,row_cell h (j:=3) rfl,row_cell h (j:=4) rfl,row_cell h (j:=5) rfl,row_cell h (j:=6) rfl⟩
theorem cells7 {w:World}{g o j:Nat}{c0 c1 c2 c3 c4 c5 c6:Value}(h:Cells w g (o+7 * j) [c0,c1,c2,c3,c4,c5,c6]):w.cell? ⟨g,o+j * 7,none⟩=some c0∧w.cell? ⟨g,o+j * 7+1,none⟩=some c1∧w.cell? ⟨g,o+j * 7+2,none⟩=some c2∧w.cell? ⟨g,o+j * 7+3,none⟩=some c3∧w.cell? ⟨g,o+j * 7+4,none⟩=some c4∧w.cell? ⟨g,o+j * 7+5,none⟩=some c5∧w.cell? ⟨g,o+j * 7+6,none⟩=some c6:=by
  refine ⟨?_,?_,?_,?_,?_,?_,?_⟩
  · have:=h 0 (by simp);rw[show o+j * 7=o+7 * j+0 by omega,this];rfl
  · have:=h 1 (by simp);rw[show o+j * 7+1=o+7 * j+1 by omega,this];rfl
  · have:=h 2 (by simp);rw[show o+j * 7+2=o+7 * j+2 by omega,this];rfl
  · have:=h 3 (by simp);rw[show o+j * 7+3=o+7 * j+3 by omega,this];rfl
  · have:=h 4 (by simp);rw[show o+j * 7+4=o+7 * j+4 by omega,this];rfl
  · have:=h 5 (by simp);rw[show o+j * 7+5=o+7 * j+5 by omega,this];rfl
  · have:=h 6 (by simp);rw[show o+j * 7+6=o+7 * j+6 by omega,this];rfl
open Go.RowKit
theorem lmays_ex (d:Int)(_:0≤d)(l:List Ex):(l.all fun x=>ex_may (d - 1) x)=lmays exSb l d:=by
  unfold lmays
  congr 1
  funext x
  exact (ex_may_neg x (d - 1)).trans (congrArg (·&&ex_may (d - 1) x) (decide_eq_decide.2 (by omega)))
theorem mayexs8_any (l:List Ex)(lo:Option Addr)(lc:Nat)(Q:Nat→Prop)(w:World)(d:Int)(hfit:∀ x∈l,ex_fit x)(hw:lwt exSb l≤12000)(ha:CRels exCel w Q l lo)(hd:-9223372036854775808≤d∧d≤9223372036854775807) :
 Calls Tryz.prog 46 #[.slice lo l.length lc,.int .i64 d] w fun e w'=>e = .returned (.bool (l.all fun x=>ex_may d x))∧Below w.heap.size w w':=by
 have HA:=hid ha;have HFIT:=hid hfit;have HWT:=hid hw;have HD:=hid hd;have hlen:l.length≤12000:=by have:=exs_len l;omega
 obtain ⟨r,HR⟩:∃ r,Hid ((l.all fun x=>ex_may d x)=r):=⟨_,hid rfl⟩
 rw[HR.out];clear ha hfit hw hd;go_enter Tryz.func46,Tryz.ntmps46;go_wp2_with fail
 go_loopg [5] l.length (fun k i wr=>∃ j:Nat,i = .int .i64 j∧j+k=l.length∧Below w.heap.size w wr∧Hid (((l.take j).all fun x=>ex_may d x)=true))
 case atStart=>exact ⟨0,rfl,by omega,Below.refl _ _,hid rfl⟩
 case round =>
  obtain ⟨j,rfl,hj,hbr,HAL⟩:=hrel;have HBR:=hid hbr;have HJ:=hid hj;clear hbr hj
  by_cases hlt:j<l.length
  · obtain ⟨ga,oa,ca,rfl,_,hga,hca,hra⟩:=(HA.out.below HBR.out) j hlt
    have hca:Cells wr ga (oa+7 * j) ca:=hca;have HRA:=hid hra;obtain ⟨lo,llo,lc,jt,jk,jn,Xa,Xb,Xu,rfl⟩:=ExRel.form hra;have HCA:=hid hca;clear hra hca;obtain ⟨ea0,ea1,ea2,ea3,ea4,ea5,ea6⟩:=cells7 HCA.out;go_wp2_with fail;refine (ex_rmay l[j] [.slice lo llo lc,.int .u64 jt,.int .i64 jk,.int .u64 jn,.string Xa,.string Xb,.string Xu] Q d wr (ex_arg_ofx (HFIT.out _ (List.getElem_mem hlt))) (exs_wt_le (List.getElem_mem hlt) HWT.out) HRA.out HD.out).mono ?_;rintro e w4 ⟨rfl,hb4⟩;obtain ⟨bb,hbb⟩:∃ bb,ex_may d l[j]=bb:=⟨_,rfl⟩
    have HBB:=hid hbb;rw[hbb];clear hbb ea0 ea1 ea2 ea3 ea4 ea5 ea6;have HBW:=hid (below_step HBR.out hb4);clear hb4
    cases bb with
    | true =>
      go_wp2_with fail;have hj:=HJ.out
      go_roundg (gk - 1)
      case measure=>omega
      case rel=>exact ⟨j+1,by simp,by omega,HBW.out,hid (by rw[List.take_succ_eq_append_getElem hlt,List.all_append,HAL.out];simp[HBB.out])⟩
    | false =>
      have hr:r=false:=by
        rw[←HR.out,List.all_eq_false];exact ⟨l[j],List.getElem_mem hlt,by rw[HBB.out];simp⟩
      subst hr;go_wp2_with fail;go_ret;exact ⟨rfl,HBW.out⟩
  · have hjn:j=l.length:=by have:=HJ.out;omega
    have hr:r=true:=by
      rw[←HR.out];have h:=HAL.out
      rwa [hjn,List.take_length] at h
    subst hr;clear hjn;go_wp2_with fail;go_ret;exact ⟨rfl,HBR.out⟩
theorem putexs8_any (l:List Ex)(num:Nat)(lo:Option Addr)(lc:Nat)(Q:Nat→Prop)(w:World)(d:Int)(hnum:1≤num∧num≤15)(hfit:∀ x∈l,ex_fit x)(hw:lwt exSb l≤12000)(ha:CRels exCel w Q l lo)(hm:lmays exSb l d=true) :
 Calls Tryz.prog 67 #[.int .i64 num,.slice lo l.length lc] w (RoPost (louts exSb num l) w):=by
 have HA:=hid ha;have HFIT:=hid hfit;have HWT:=hid hw;have HNUM:=hid hnum
 have HMM:Hid (∀ x∈l,ex_may (d - 1) x=true):=hid (fun x hx=>by
  have h:=List.all_eq_true.1 hm x hx;rw[Bool.and_eq_true] at h;exact h.2)
 have hlen:l.length≤12000:=by have:=exs_len l;omega
 clear ha hfit hw hm hnum;go_enter Tryz.func67,Tryz.ntmps67;go_wp2_with fail
 go_loopg [5,6] l.length (fun k s i wr=>∃ (j:Nat) (SS:ByteArray),s = .string SS∧i = .int .i64 j∧j+k=l.length∧Below w.heap.size w wr∧Hid (SS.data.toList=louts exSb num (l.take j)))
 case atStart=>exact ⟨0,_,rfl,rfl,by omega,Below.refl _ _,hid rfl⟩
 case round =>
  obtain ⟨j,SS,rfl,rfl,hj,hbr,HSS⟩:=hrel;have HBR:=hid hbr;have HJ:=hid hj;clear hbr hj
  by_cases hlt:j<l.length
  · obtain ⟨ga,oa,ca,rfl,_,hga,hca,hra⟩:=(HA.out.below HBR.out) j hlt
    have hca:Cells wr ga (oa+7 * j) ca:=hca;have HRA:=hid hra;obtain ⟨lo,llo,lc,jt,jk,jn,Xa,Xb,Xu,rfl⟩:=ExRel.form hra;have HCA:=hid hca
    have HZS:Hid (SS.size≤12000):=hid (by
     have h1:SS.size=SS.data.toList.length:=by simp
     have h2:=exs_olen HNUM.out (l.take j);have h3:=lwt_at (S:=exSb) hlt;have h4:=HWT.out;rw[HSS.out] at h1;omega)
    clear hra hca;have HWX:Hid ((ex_out l[j]).length≤13000):=hid (by have:=ex_wlen l[j];have:=exs_wt_le (List.getElem_mem hlt) HWT.out;omega);obtain ⟨ea0,ea1,ea2,ea3,ea4,ea5,ea6⟩:=cells7 HCA.out;go_wp2_with fail;refine (ex_rout l[j] [.slice lo llo lc,.int .u64 jt,.int .i64 jk,.int .u64 jn,.string Xa,.string Xb,.string Xu] Q (d - 1) wr (ex_arg_ofx (HFIT.out _ (List.getElem_mem hlt))) (exs_wt_le (List.getElem_mem hlt) HWT.out) HRA.out (HMM.out _ (List.getElem_mem hlt))).mono ?_;rintro e w4 ⟨rfl,hb4⟩;obtain ⟨OO,hOO⟩:∃ X:ByteArray,(⟨(ex_out l[j]).toArray⟩:ByteArray)=X:=⟨_,rfl⟩
    have HOO:Hid (OO.data.toList=ex_out l[j]):=hid (by rw[←hOO]);rw[hOO];clear hOO ea0 ea1 ea2 ea3 ea4 ea5 ea6;have HB4:=hid hb4;clear hb4;go_wp2_with fail;refine (rbytes_raw num OO (ex_out l[j]) w4 HNUM.out.1 (by have:=HNUM.out;omega) HOO.out (by have:=HWX.out;omega)).mono ?_;rintro e w5 ⟨hb5,R,rfl,HRR⟩;have HBW:=hid (below_step HBR.out (below_step HB4.out hb5));clear hb5
    have hov:¬9223372036854775807<SS.size+R.size:=by
     have h1:R.size=R.data.toList.length:=by simp
     have h2:=rB_len20 num (ex_out l[j]);have h3:=HWX.out;have h4:=HZS.out;rw[HRR.out] at h1;omega
    go_wp2_with fail;have hj:=HJ.out
    go_roundg (gk - 1)
    case measure=>omega
    case rel=>exact ⟨j+1,SS++R,rfl,by simp,by omega,HBW.out,hid (by rw[ByteArray.data_append,Array.toList_append,HSS.out,HRR.out,List.take_succ_eq_append_getElem hlt,louts_app,louts_one];rfl)⟩
  · have hjn:j=l.length:=by have:=HJ.out;omega
    have HSE:Hid (SS.data.toList=louts exSb num l):=hid (by have h:=HSS.out;rwa [hjn,List.take_length] at h);clear hjn;go_wp2_with fail;go_ret;exact ⟨HBR.out,SS,rfl,HSE⟩
theorem kmays_enm {l:List KV}{d e:Int}(he:190000≤e)(hw:ksw l≤100000)(h:kmays l d=true):kmays l e=true:=by
  induction l with
  | nil=>rw[kmays]
  | cons x l ih =>
    rw[kmays] at h ⊢;rw[ksw] at hw
    simp only[Bool.and_eq_true,decide_eq_true_eq] at h ⊢
    exact ⟨⟨by omega,kmay_enough x _ _ h.1.2 (by omega)⟩,ih (by omega) h.2⟩
theorem ex_enm {x:Ex}{d e:Int}(he:200000≤e)(hw:ex_wt x≤12000)(hm:ex_may d x=true):ex_may e x=true:=by
  obtain ⟨⟨t,⟨⟨⟨k,n⟩,⟨a,b⟩⟩,l⟩⟩,u⟩:=x;have hw:60+(a.length+b.length+ksw l+u.length)≤12000:=hw;have h:(decide (0≤d)&&((decide (k=0∧n=0∨k=1∨k=2)&&kmays l d)&&munkOk exF.tk u d))=true:=hm
  show (decide (0≤e)&&((decide (k=0∧n=0∨k=1∨k=2)&&kmays l e)&&munkOk exF.tk u e))=true
  simp only[Bool.and_eq_true,decide_eq_true_eq] at h ⊢
  exact ⟨by omega,⟨h.2.1.1,kmays_enm (by omega) (by omega) h.2.1.2⟩,munkOk_enough (by omega) h.2.2⟩
theorem exs_enm {l:List Ex}{d e:Int}(he:200001≤e)(hw:lwt exSb l≤12000)(h:lmays exSb l d=true):lmays exSb l e=true:=by
  unfold lmays at h ⊢
  rw[List.all_eq_true] at h ⊢;intro x hx;have h1:=h x hx;rw[Bool.and_eq_true,decide_eq_true_eq] at h1 ⊢;exact ⟨by omega,ex_enm (by omega) (exs_wt_le hx hw) h1.2⟩
open Go.RowKit
theorem partex_any (p:Nat)(d d1:Int)(ps:List (List UInt8))(hs:List Hole)(b:Bool)(P:Nat→Prop)(w:World)(num F:Nat)(may:Bool)(t:List UInt8)(cs:List Value)(hform:∃ (lo:Option Addr) (llo lc:Nat) (jt:Int) (jk:Int) (jn:Int) (Xa:ByteArray) (Xb:ByteArray) (Xu:ByteArray),cs=[.slice lo llo lc,.int .u64 jt,.int .i64 jk,.int .u64 jn,.string Xa,.string Xb,.string Xu])(hw:Hid (WrH p d ps hs b P w))(hET:∀ args w,(callFunc F args).run Tryz.prog w = .ok (.enter F args) w)(hM:Hid (∀ w',Below w.heap.size w w'→Calls Tryz.prog F #[.agg cs.toArray,.int .i64 d1] w' (MarPost may t w')))(hd1:IntKind.i64.wrap (d - 1)=d1)(hnum:1≤num∧num≤536870911)(ht:t.length≤1000000)(hl:ps.length≤1000000)(hf:ps.flatten.length+t.length≤9000000) :
    Calls Tryz.prog 110 #[.pointer (some ⟨p,0,none⟩),.int .i64 num,.agg cs.toArray,.func (.func F) #[] #[]] w (WvPost p d ps hs b P w may (rB num t).raw 1 (20+t.length)):=by
  obtain ⟨lo,llo,lc,jt,jk,jn,Xa,Xb,Xu,rfl⟩:=hform;obtain ⟨W0,hW0⟩:∃ W0,w.alloc (.cells #[.slice lo llo lc,.int .u64 jt,.int .i64 jk,.int .u64 jn,.string Xa,.string Xb,.string Xu] 84)=W0:=⟨_,rfl⟩
  obtain ⟨bx,hbx⟩:∃ bx,w.heap.size=bx:=⟨_,rfl⟩
  have HB0:Hid (Below w.heap.size w W0):=hid (by rw[←hW0];exact below_new _ _);have HX0:Hid (W0.heap[bx]? = some (.cells #[.slice lo llo lc,.int .u64 jt,.int .i64 jk,.int .u64 jn,.string Xa,.string Xb,.string Xu] 84 (0,0))):=hid (by rw[←hW0,←hbx];exact heap_alloc_new _ _);have HSO:=hid ((WSo.start hw.out).below HB0.out);obtain ⟨vp,L,vo,ev,hrow,hev⟩:=wrh_row (wh_below hw.out HB0.out);have HW0:=hid hW0;have HBX:=hid hbx
  have hpx:p≠bx:=by
    obtain ⟨_,_,_,_,h,_⟩:=wrh_row hw.out;have:=row_lt h;omega
  have k4:W0.cell? ⟨p,4,none⟩=some ev:=row_cell hrow (j:=4) rfl;have HROW:=hid hrow
  cases b with
  | true =>
    obtain ⟨T',y,rfl⟩:=hev.yes.iface;rw[←hW0] at k4;clear hev hrow hW0 hbx hd1;go_enter Tryz.func110,Tryz.ntmps110;go_wp2_with fail
    go_end0
    rw[HW0.out];have h1:=(HSO.out.done.le (l2:=1) (f2:=20+t.length) (by omega) (by omega)).conv (m2:=may) (t2:=(rB num t).raw) (fun h=>by cases h) (fun h=>by cases h);exact h1
  | false =>
    obtain rfl:=hev.no;clear hev hrow;have HM:=hid (fun w' hb=>hM.out w' (below_step HB0.out hb));rw[←hW0] at k4;clear hW0 hbx;go_enter Tryz.func110,Tryz.ntmps110;go_wp2_with fail;go_upto_region 2 with fail
    all_goals
      rw[HW0.out,HBX.out];obtain ⟨D,hD⟩:∃ D,W0.drew=D:=⟨_,rfl⟩
      have hB:Below W0.heap.size W0 D:=by rw[←hD];exact (Below.refl _ _).drew
      have hS:R2 bx #[.slice lo llo lc,.int .u64 jt,.int .i64 jk,.int .u64 jn,.string Xa,.string Xb,.string Xu] 84 p #[.int .i64 d,vp,L,vo,.nilIface] 167 D:=⟨(hB.block _ (row_lt HX0.out)).trans HX0.out,(hB.block _ (row_lt HROW.out)).trans HROW.out⟩
      have hne:Nonempty {w':World // R2 bx #[.slice lo llo lc,.int .u64 jt,.int .i64 jk,.int .u64 jn,.string Xa,.string Xb,.string Xu] 84 p #[.int .i64 d,vp,L,vo,.nilIface] 167 w'}:=⟨⟨_,hS⟩⟩
      refine wp_region_seq (S:=R2 bx #[.slice lo llo lc,.int .u64 jt,.int .i64 jk,.int .u64 jn,.string Xa,.string Xb,.string Xu] 84 p #[.int .i64 d,vp,L,vo,.nilIface] 167) [(0,true),(1,true),(2,true),(3,true),(4,true),(5,true),(6,true),(7,false),(8,true),(9,true),(10,true),(11,true),(12,true)] (by kernel_rfl) (by kernel_rfl) (by kernel_rfl) (by kernel_rfl) (by rw[hD];exact hS) ?_;rw[hD]
      (refine seq_take _ rfl (fun KC hK=>?_);go_simp;(first|refine hK _ ?_|refine ⟨_,fun _ _=>rfl,hK _ ?_⟩);clear hK KC)
      refine seq_take _ rfl (fun KC hK=>?_);go_simp;refine ⟨.agg #[.slice lo llo lc,.int .u64 jt,.int .i64 jk,.int .u64 jn,.string Xa,.string Xb,.string Xu],fun a ha=>by obtain ⟨p0,p1,p2,p3,p4,p5,p6⟩:=rowx7 ha.1;simp only[p0,p1,p2,p3,p4,p5,p6,Result.andThen],hK _ ?_⟩;clear hK KC
      iterate 3 (refine seq_take _ rfl (fun KC hK=>?_);go_simp;(first|refine hK _ ?_|refine ⟨_,fun _ _=>rfl,hK _ ?_⟩);clear hK KC)
      refine seq_take _ rfl (fun KC hK=>?_);go_simp;refine ⟨.int .i64 d,fun a ha=>by rw[row_cell ha.2 (j:=0) rfl];rfl,hK _ ?_⟩;clear hK KC
      (refine seq_take _ rfl (fun KC hK=>?_);go_simp;(first|refine hK _ ?_|refine ⟨_,fun _ _=>rfl,hK _ ?_⟩);clear hK KC)
      refine seq_come _ rfl (fun KC hK=>?_);go_simp;refine (HM.out D hB).mono ?_;rintro e w1 ⟨hb1,hcase⟩;have hS1:=hS.below hb1;have HSO1:=hid (HSO.out.below (below_step hB hb1))
      cases may with
      | true =>
        rw[if_pos rfl] at hcase;subst hcase;go_simp;refine hK.out _ _ hS1 ?_;clear hK KC
        iterate 5 (refine seq_take _ rfl (fun KC hK=>?_);go_simp;(first|refine hK _ ?_|refine ⟨_,fun _ _=>rfl,hK _ ?_⟩);clear hK KC)
        refine seq_done ?_;clear hne hS hS1;go_wp2_with fail;refine (bytes_rB num ⟨t.toArray⟩ hnum.1 hnum.2 (by simp[ByteArray.size];omega) w1).mono ?_;rintro e w2 ⟨rfl,hb2⟩;have HSO2:=hid (HSO1.out.below hb2);have hr20:=rB_len20 num t;go_wp2_with fail;have hwr:=HSO2.out.wr;have hput:=wv_put (rB num t).raw hwr (by rw[List.length_append];have:=HSO2.out.len;omega) (by rw[List.flatten_append,List.length_append];have:=HSO2.out.size;omega);refine hput.mono ?_;intro e w3 hpost;obtain ⟨qs2,P2,rfl,hso⟩:=HSO2.out.next hpost;have HF:=hid hso;clear hpost hput hwr hso;go_wp2_with fail
        go_end0
        exact HF.out.done.le (by omega) (by omega)
      | false =>
        rw[if_neg (by simp)] at hcase;obtain ⟨v,rfl,hec⟩:=hcase;obtain ⟨T',y,rfl⟩:=hec.iface;have HEC:=hid hec;clear hec;go_simp;refine hK.out _ _ hS1 ?_;clear hK KC
        iterate 5 (refine seq_take _ rfl (fun KC hK=>?_);go_simp;(first|refine hK _ ?_|refine ⟨_,fun _ _=>rfl,hK _ ?_⟩);clear hK KC)
        refine seq_done ?_;clear hne hS hS1;go_wp2_with fail;refine (in_any _ _ _ _).mono ?_;rintro e w2 ⟨rfl,rfl⟩;have HEF:=hid (ec_field (n:=(num:Int)) HEC.out);have HSO2:=hid (HSO1.out.below (below_new w1 (.cells #[.int .i64 num,.iface T' y] 133)));go_wp2_with fail;have hlift:=wv_lift (F:=106) (args:=#[.pointer (some ⟨p,0,none⟩),.iface 131 (.pointer (some ⟨w1.heap.size,0,none⟩))]) (g:=false) (ts:=[]) HSO2.out.wr (fun vo P0 h1=>by rw[Bool.not_false,Bool.or_true,wps_nil];exact wfail_any p d vo _ _ P0 _ _ _ (hid h1) HEF);refine hlift.mono ?_;intro e w3 hpost;obtain ⟨qs2,P2,rfl,hso⟩:=HSO2.out.next hpost;have HF:=hid hso;clear hpost hlift hso;go_wp2_with fail
        go_end0
        exact (HF.out.done.le (l2:=1) (f2:=20+t.length) (by simp) (by simp)).conv (m2:=false) (t2:=(rB num t).raw) (fun _=>rfl) (fun _ h=>by cases h)
def ExMar:Prop:=∀ (x:Ex) (cs:List Value) (Q:Nat→Prop) (d:Int) (w:World) (_:ex_fit x) (_:exCel.R w Q x cs) (_ : -9223372036854775808≤d∧d≤9223372036854775807),Calls Tryz.prog 58 #[.agg cs.toArray,.int .i64 d] w (MarPost (ex_may d x) (ex_out x) w)
theorem listex_if (l:List Ex)(hM:Hid (l≠[]→ExMar))(p:Nat)(d:Int)(ps:List (List UInt8))(hs:List Hole)(b:Bool)(P Q:Nat→Prop)(w:World)(num:Nat)(lo:Option Addr)(lc:Nat)(hfit:∀ x∈l,ex_fit x)(ha:CRels exCel w Q l lo)(hdis:∀ k,Q k→¬P k)(hw:WrH p d ps hs b P w)(hbd:b=true∨0≤d)(hd:-9223372036854775808≤d∧d≤9223372036854775807)(hnum:1≤num∧num≤536870911)(hsz:ps.length+lwt exSb l≤900000∧ps.flatten.length+2 * lwt exSb l≤5000000∧lwt exSb l≤400000) :
    Calls Tryz.prog 57 #[.pointer (some ⟨p,0,none⟩),.int .i64 num,.slice lo l.length lc,.func (.func 58) #[] #[]] w (WvPost p d ps hs b P w (lmays exSb l d) (louts exSb num l) (lwt exSb l) (2 * lwt exSb l)):=by
  have HFIT:=hid hfit;have HA:=hid (CRels.lt ha);have HDIS:=hid hdis;have HW:=hid hw;have HBD:=hid hbd;have HSZ:=hid hsz;have HNUM:=hid hnum;have hlen:l.length≤500000:=by have:=exs_len l;omega
  obtain ⟨d1,hd1⟩:∃ d1,IntKind.i64.wrap (d - 1)=d1:=⟨_,rfl⟩
  have HD1:Hid (0≤d→d1=d - 1):=hid (fun h=>by rw[←hd1,IntWalk.i64_in _ (by omega)])
  have HD1R:Hid (-9223372036854775808≤d1∧d1≤9223372036854775807):=hid (by
    rcases Int.lt_or_le (-9223372036854775808) d with h|h
    · rw[IntWalk.i64_in _ (by omega)] at hd1;omega
    · have e:d = -9223372036854775808:=by omega
      subst e;have:IntKind.i64.wrap (-9223372036854775808 - 1)=9223372036854775807:=by decide +kernel
      omega)
  have HQ1:=hid hd1;have HE:=hid (enters_of Tryz.func58 (by kernel_rfl) rfl);clear hfit ha hdis hw hbd hsz hnum hd hd1;go_enter Tryz.func57,Tryz.ntmps57;go_wp2_with fail
  go_loopg [12] l.length (fun k i wr=>∃ (j:Nat) (qs:List (List UInt8)) (P1:Nat→Prop),i = .int .i64 j∧j+k=l.length∧Hid (WSo p d ps hs b P w (lmays exSb (l.take j) d) (louts exSb num (l.take j)) (lwt exSb (l.take j)) (2 * lwt exSb (l.take j)) qs P1 wr))
  case atStart=>exact ⟨0,[],P,rfl,by omega,hid (by simpa [lmays,louts,lwt,lsum] using WSo.start HW.out)⟩
  case round =>
    obtain ⟨j,qs,P1,rfl,hj,HSO⟩:=hrel;have HJ:=hid hj;clear hj
    by_cases hlt:j<l.length
    · have HAW:Hid (CRels exCel wr (fun k=>Q k∧k<w.heap.size) l lo):=hid (CRels.upd HSO.out.upd (fun k hk hp=>HDIS.out k hk.1 hp) (fun k hk=>hk) HA.out)
      obtain ⟨ga,oa,ca,rfl,_,hga,hca,hra⟩:=HAW.out j hlt;have hca:Cells wr ga (oa+7 * j) ca:=hca;have hmem:=List.getElem_mem hlt;obtain ⟨x,hx⟩:∃ x,l[j]=x:=⟨_,rfl⟩
      have HFX:=hid (HFIT.out x (hx ▸ hmem));have HTM:Hid (lmays exSb (l.take (j+1)) d=(lmays exSb (l.take j) d&&(decide (1≤d)&&ex_may (d - 1) x))):=hid (by rw[List.take_succ_eq_append_getElem hlt,lmays_app,hx,lmays_one];rfl);have HTO:Hid (louts exSb num (l.take (j+1))=louts exSb num (l.take j)++(rB num (ex_out x)).raw):=hid (by rw[List.take_succ_eq_append_getElem hlt,louts_app,hx,louts_one];rfl);have HTW:Hid (lwt exSb (l.take (j+1))=lwt exSb (l.take j)+ex_wt x):=hid (by rw[List.take_succ_eq_append_getElem hlt,lwt_app,hx,lwt_one];rfl);have HTB:Hid (lwt exSb (l.take j)+ex_wt x≤lwt exSb l):=hid (by rw[←hx];exact lwt_at (S:=exSb) hlt);have HKO:Hid ((ex_out x).length+20≤2 * ex_wt x):=hid (by have:=ex_wlen x;have:60≤ex_wt x:=(by obtain ⟨⟨t,⟨⟨⟨k,n⟩,⟨a,b⟩⟩,l⟩⟩,u⟩:=x;show 60≤60+_;omega);omega);rw[hx] at hra;have HRA:=hid hra;obtain ⟨lo,llo,lc,jt,jk,jn,Xa,Xb,Xu,rfl⟩:=ExRel.form hra;have HCA:=hid hca;obtain ⟨wa,hwa⟩:∃ wa,wr.alloc (.cells #[.slice lo llo lc,.int .u64 jt,.int .i64 jk,.int .u64 jn,.string Xa,.string Xb,.string Xu] 84)=wa:=⟨_,rfl⟩
      have HBA:Hid (Below wr.heap.size wr wa):=hid (by rw[←hwa];exact below_new _ _);have HSA:=hid (HSO.out.below HBA.out);have HWA:=hid hwa;have Hpartex_any:=hid (partex_any p d d1 (ps++qs) hs (b||!lmays exSb (l.take j) d) P1 wa num 58 (ex_may d1 x) (ex_out x) [.slice lo llo lc,.int .u64 jt,.int .i64 jk,.int .u64 jn,.string Xa,.string Xb,.string Xu] ⟨lo,llo,lc,jt,jk,jn,Xa,Xb,Xu,rfl⟩ (hid HSA.out.wr) HE.out (hid (fun w' hb=>hM.out (fun h=>by rw[h] at hlt;simp at hlt) x [.slice lo llo lc,.int .u64 jt,.int .i64 jk,.int .u64 jn,.string Xa,.string Xb,.string Xu] _ d1 w' HFX.out (exCel.upd (Upd.of_new (S:=fun _=>False) (below_step HBA.out hb)) (fun _ _ h=>h) (fun _ h=>h) HRA.out) HD1R.out)) HQ1.out HNUM.out (by have:=HKO.out;have:=HTB.out;have:=HSZ.out;omega) (by rw[List.length_append];have:=HSA.out.len;have:=HTB.out;have:=HSZ.out;omega) (by rw[List.flatten_append,List.length_append];have:=HSA.out.size;have:=HKO.out;have:=HTB.out;have:=HSZ.out;omega));clear hx hmem hra hca hwa;obtain ⟨e0,e1,e2,e3,e4,e5,e6⟩:=cells7 HCA.out;go_wp2_with fail;rw[HWA.out];refine Hpartex_any.out.mono ?_;intro e w5 hpost
      have hp2:=hpost.conv (m2:=decide (1≤d)&&ex_may (d - 1) x) (t2:=(rB num (ex_out x)).raw) (fun hb=>by
        have h0:0≤d:=by
          rcases HBD.out with h|h
          · rw[h] at hb;cases hb
          · exact h
        rw[HD1.out h0];exact (ex_may_neg x (d - 1)).trans (congrArg (·&&ex_may (d - 1) x) (decide_eq_decide.2 (by omega)))) (fun _ _=>rfl)
      obtain ⟨qs2,P2,rfl,hso⟩:=HSA.out.next hp2;rw[←HTM.out,←HTO.out] at hso;have HS5:=hid hso;clear hpost hp2 hso e0 e1 e2 e3 e4 e5 e6;go_wp2_with fail;have hj:=HJ.out
      go_roundg (gk - 1)
      case measure=>omega
      case rel=>exact ⟨j+1,qs++qs2,P2,by simp,by omega,hid ⟨HS5.out.upd,HS5.out.wr,HS5.out.new,HS5.out.bytes,by have:=HS5.out.len;have:=HTW.out;have:=HKO.out;omega,by have:=HS5.out.size;have:=HTW.out;have:=HKO.out;omega⟩⟩
    · have hjn:j=l.length:=by have:=HJ.out;omega
      subst hjn;rw[List.take_length] at HSO;go_wp2_with fail
      go_end0
      exact HSO.out.done
end Go.Proofs.YtficgfemmijaaaaGreatDoor
