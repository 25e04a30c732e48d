/-
  hygref8.MayExemplars, PutExemplars; what may be, may be deeper.
-/
import Derived.Test.YtjbingoliffjiaaGreatDoorExOut
import Derived.Test.YtjbingoliffjiaaGreatDoorExSub
set_option maxRecDepth 1000000
set_option maxHeartbeats 16000000
namespace Go.Proofs.YtjbingoliffjiaaGreatDoor
open Go.RowKit
theorem lmays_ex (d:Int) (_:0≤d) (l:List Ex):(l.all fun x=>ex_may (d - 1) x)=lmays exSb l d:=by
  unfold lmays
  congr 1
  funext x
  exact (ex_may_neg x (d - 1)).trans (congrArg (·&&ex_may (d - 1) x) (decide_eq_decide.2 (by omega)))
theorem mayexs8_any (l:List Ex) (lo:Option Addr) (lc:Nat) (Q:Nat→Prop) (w:World) (d:Int) (hfit:∀ x∈l,ex_fit x) (hw:lwt exSb l≤12000) (ha:CRels exCel w Q l lo) (hd : -9223372036854775808≤d∧d≤9223372036854775807) :
 Calls Tryz.prog 60 #[.slice lo l.length lc,.int .i64 d] w fun e w'=>e = .returned (.bool (l.all fun x=>ex_may d x))∧Below w.heap.size w w':=by
 have HA:=Lib.hid ha
 have HFIT:=Lib.hid hfit
 have HWT:=Lib.hid hw
 have HD:=Lib.hid hd
 have hlen:l.length≤12000:=by have:=exs_len l;omega
 obtain ⟨r,HR⟩:∃ r,Hid ((l.all fun x=>ex_may d x)=r):=⟨_,Lib.hid rfl⟩
 rw[HR.out]
 clear ha hfit hw hd
 go_enter Tryz.func60,Tryz.ntmps60
 go_wp2_with fail
 go_loopg [5] l.length (fun k i wr=>∃ j:Nat,i = .int .i64 (j:Int)∧j+k=l.length∧Below w.heap.size w wr∧Hid (((l.take j).all fun x=>ex_may d x)=true))
 case atStart=>exact ⟨0,rfl,by omega,Below.refl _ _,Lib.hid rfl⟩
 case round =>
  obtain ⟨j,rfl,hj,hbr,HAL⟩:=hrel
  have HBR:=Lib.hid hbr
  have HJ:=Lib.hid hj
  clear hbr hj
  by_cases hlt:j<l.length
  · obtain ⟨ga,oa,ca,rfl,_,hga,hca,hra⟩:=(HA.out.below HBR.out) j hlt
    have hca:Cells wr ga (oa+7 * j) ca:=hca
    have HRA:=Lib.hid hra
    obtain ⟨lo,llo,lc,jt,jk,jn,Xa,Xb,Xu,rfl⟩:=ExRel.form hra
    have HCA:=Lib.hid hca
    clear hra hca
    obtain ⟨ea0,ea1,ea2,ea3,ea4,ea5,ea6⟩:=cells7 HCA.out
    go_wp2_with fail
    refine (ex_rmay l[j] [.slice lo llo lc,.int .u64 jt,.int .i64 jk,.int .u64 jn,.string Xa,.string Xb,.string Xu] Q d wr (ex_arg_ofx (HFIT.out _ (List.getElem_mem hlt))) (exs_wt_le (List.getElem_mem hlt) HWT.out) HRA.out HD.out).mono ?_;rintro e w4 ⟨rfl,hb4⟩
    obtain ⟨bb,hbb⟩:∃ bb,ex_may d l[j]=bb:=⟨_,rfl⟩
    have HBB:=Lib.hid hbb
    rw[hbb]
    clear hbb ea0 ea1 ea2 ea3 ea4 ea5 ea6
    have HBW:=Lib.hid (below_step HBR.out hb4)
    clear hb4
    cases bb with
    | true =>
      go_wp2_with fail
      have hj:=HJ.out
      go_roundg (gk - 1)
      case measure=>omega
      case rel=>exact ⟨j+1,by simp,by omega,HBW.out,Lib.hid (by rw[List.take_succ_eq_append_getElem hlt,List.all_append,HAL.out];simp[HBB.out])⟩
    | false =>
      have hr:r=false:=by
        rw[←HR.out,List.all_eq_false]
        exact ⟨l[j],List.getElem_mem hlt,by rw[HBB.out];simp⟩
      subst hr
      go_wp2_with fail
      go_ret
      exact ⟨rfl,HBW.out⟩
  · have hjn:j=l.length:=by have:=HJ.out;omega
    have hr:r=true:=by
      rw[←HR.out]
      have h:=HAL.out
      rwa [hjn,List.take_length] at h
    subst hr
    clear hjn
    go_wp2_with fail
    go_ret
    exact ⟨rfl,HBR.out⟩
theorem putexs8_any (l:List Ex) (num:Nat) (lo:Option Addr) (lc:Nat) (Q:Nat→Prop) (w:World) (d:Int) (hnum:1≤num∧num≤15) (hfit:∀ x∈l,ex_fit x) (hw:lwt exSb l≤12000) (ha:CRels exCel w Q l lo) (hm:lmays exSb l d=true) :
 Calls Tryz.prog 77 #[.int .i64 (num:Int),.slice lo l.length lc] w (RoPost (louts exSb num l) w):=by
 have HA:=Lib.hid ha
 have HFIT:=Lib.hid hfit
 have HWT:=Lib.hid hw
 have HNUM:=Lib.hid hnum
 have HMM:Hid (∀ x∈l,ex_may (d - 1) x=true):=Lib.hid (fun x hx=>by
  have h:=List.all_eq_true.1 hm x hx
  rw[Bool.and_eq_true] at h
  exact h.2)
 have hlen:l.length≤12000:=by have:=exs_len l;omega
 clear ha hfit hw hm hnum
 go_enter Tryz.func77,Tryz.ntmps77
 go_wp2_with fail
 go_loopg [5,6] l.length (fun k s i wr=>∃ (j:Nat) (SS:ByteArray),s = .string SS∧i = .int .i64 (j:Int)∧j+k=l.length∧Below w.heap.size w wr∧Hid (SS.data.toList=louts exSb num (l.take j)))
 case atStart=>exact ⟨0,_,rfl,rfl,by omega,Below.refl _ _,Lib.hid rfl⟩
 case round =>
  obtain ⟨j,SS,rfl,rfl,hj,hbr,HSS⟩:=hrel
  have HBR:=Lib.hid hbr
  have HJ:=Lib.hid hj
  clear hbr hj
  by_cases hlt:j<l.length
  · obtain ⟨ga,oa,ca,rfl,_,hga,hca,hra⟩:=(HA.out.below HBR.out) j hlt
    have hca:Cells wr ga (oa+7 * j) ca:=hca
    have HRA:=Lib.hid hra
    obtain ⟨lo,llo,lc,jt,jk,jn,Xa,Xb,Xu,rfl⟩:=ExRel.form hra
    have HCA:=Lib.hid hca
    have HZS:Hid (SS.size≤12000):=Lib.hid (by
     have h1:SS.size=SS.data.toList.length:=by simp
     have h2:=exs_olen HNUM.out (l.take j)
     have h3:=lwt_at (S:=exSb) hlt
     have h4:=HWT.out
     rw[HSS.out] at h1
     omega)
    clear hra hca
    have HWX:Hid ((ex_out l[j]).length≤13000):=Lib.hid (by have:=ex_wlen l[j];have:=exs_wt_le (List.getElem_mem hlt) HWT.out;omega)
    obtain ⟨ea0,ea1,ea2,ea3,ea4,ea5,ea6⟩:=cells7 HCA.out
    go_wp2_with fail
    refine (ex_rout l[j] [.slice lo llo lc,.int .u64 jt,.int .i64 jk,.int .u64 jn,.string Xa,.string Xb,.string Xu] Q (d - 1) wr (ex_arg_ofx (HFIT.out _ (List.getElem_mem hlt))) (exs_wt_le (List.getElem_mem hlt) HWT.out) HRA.out (HMM.out _ (List.getElem_mem hlt))).mono ?_;rintro e w4 ⟨rfl,hb4⟩
    obtain ⟨OO,hOO⟩:∃ X:ByteArray,(⟨(ex_out l[j]).toArray⟩:ByteArray)=X:=⟨_,rfl⟩
    have HOO:Hid (OO.data.toList=ex_out l[j]):=Lib.hid (by rw[←hOO])
    rw[hOO]
    clear hOO ea0 ea1 ea2 ea3 ea4 ea5 ea6
    have HB4:=Lib.hid hb4
    clear hb4
    go_wp2_with fail
    refine (rbytes_raw num OO (ex_out l[j]) w4 HNUM.out.1 (by have:=HNUM.out;omega) HOO.out (by have:=HWX.out;omega)).mono ?_;rintro e w5 ⟨hb5,R,rfl,HRR⟩
    have HBW:=Lib.hid (below_step HBR.out (below_step HB4.out hb5))
    clear hb5
    have hov:¬9223372036854775807<SS.size+R.size:=by
     have h1:R.size=R.data.toList.length:=by simp
     have h2:=rB_len20 num (ex_out l[j])
     have h3:=HWX.out
     have h4:=HZS.out
     rw[HRR.out] at h1
     omega
    go_wp2_with fail
    have hj:=HJ.out
    go_roundg (gk - 1)
    case measure=>omega
    case rel=>exact ⟨j+1,SS++R,rfl,by simp,by omega,HBW.out,Lib.hid (by rw[ByteArray.data_append,Array.toList_append,HSS.out,HRR.out,List.take_succ_eq_append_getElem hlt,louts_app,louts_one];rfl)⟩
  · have hjn:j=l.length:=by have:=HJ.out;omega
    have HSE:Hid (SS.data.toList=louts exSb num l):=Lib.hid (by have h:=HSS.out;rwa [hjn,List.take_length] at h)
    clear hjn
    go_wp2_with fail
    go_ret
    exact ⟨HBR.out,SS,rfl,HSE⟩
theorem kmays_enm {l:List KV} {d e:Int} (he:190000≤e) (hw:ksw l≤100000) (h:kmays l d=true):kmays l e=true:=by
  induction l with
  | nil=>rw[kmays]
  | cons x l ih =>
    rw[kmays] at h ⊢
    rw[ksw] at hw
    simp only[Bool.and_eq_true,decide_eq_true_eq] at h ⊢
    exact ⟨⟨by omega,kmay_enough x _ _ h.1.2 (by omega)⟩,ih (by omega) h.2⟩
theorem ex_enm {x:Ex} {d e:Int} (he:200000≤e) (hw:ex_wt x≤12000) (hm:ex_may d x=true):ex_may e x=true:=by
  obtain ⟨⟨t,⟨⟨⟨k,n⟩,⟨a,b⟩⟩,l⟩⟩,u⟩:=x
  have hw:60+(a.length+b.length+ksw l+u.length)≤12000:=hw
  have h:(decide (0≤d)&&((decide (k=0∧n=0∨k=1∨k=2)&&kmays l d)&&munkOk exF.tk u d))=true:=hm
  show (decide (0≤e)&&((decide (k=0∧n=0∨k=1∨k=2)&&kmays l e)&&munkOk exF.tk u e))=true
  simp only[Bool.and_eq_true,decide_eq_true_eq] at h ⊢
  exact ⟨by omega,⟨h.2.1.1,kmays_enm (by omega) (by omega) h.2.1.2⟩,munkOk_enough (by omega) h.2.2⟩
theorem exs_enm {l:List Ex} {d e:Int} (he:200001≤e) (hw:lwt exSb l≤12000) (h:lmays exSb l d=true):lmays exSb l e=true:=by
  unfold lmays at h ⊢
  rw[List.all_eq_true] at h ⊢
  intro x hx
  have h1:=h x hx
  rw[Bool.and_eq_true,decide_eq_true_eq] at h1 ⊢
  exact ⟨by omega,ex_enm (by omega) (exs_wt_le hx hw) h1.2⟩
end Go.Proofs.YtjbingoliffjiaaGreatDoor
