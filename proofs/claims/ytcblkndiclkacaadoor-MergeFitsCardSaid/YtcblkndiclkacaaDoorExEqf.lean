/-
  RowL, ExEqf
-/
import Derived.Test.YtcblkndiclkacaaDoorFld
import Derived.Test.YtcblkndiclkacaaDoorExSame
set_option maxRecDepth 1000000
set_option maxHeartbeats 16000000
namespace Go.Proofs.YtcblkndiclkacaaDoor
open Go.RowKit
structure LPart (σ:Type) (lo:Nat) where
 V:Type
 rel:σ→V→(Nat→Prop)→World→Prop
 lt:∀ {st v P w},rel st v P w→∀ k,P k→lo≤k∧k<w.heap.size
 kept:∀ {st v P w w'},rel st v P w→Upd (fun k=>¬P k) w w'→rel st v P w'
 same:σ→σ→Prop
 conv:∀ {st st' v P w},same st st'→rel st v P w→rel st' v P w
section
variable {σ:Type} {bx:Nat} {A:LPart σ (bx+1)} {T0:TypeId} {row:σ→A.V→Array Value} {st st':σ} {v:A.V} {P1:Nat→Prop} {w:World}
end
def lmays {α:Type} (S:Sub α) (l:List α) (d:Int):Bool:=l.all fun x=>decide (1≤d)&&S.may (d - 1) x
def lwt {α:Type} (S:Sub α) (l:List α):Nat:=lsum (l.map S.wt)
section
variable {α:Type} {S:Sub α}
theorem lwt_cons (x:α) (l:List α):lwt S (x::l)=S.wt x+lwt S l:=rfl
theorem lwt_len {k:Nat} (h:∀ x,k≤S.wt x):∀ l:List α,l.length * k≤lwt S l
 | []=>by simp
 | x::l=>by rw[lwt_cons,List.length_cons,Nat.add_mul];have:=lwt_len h l;have:=h x;omega
end
open Go.RowKit
def exSb:Sub Ex where
 rd d t:=exrd t d
 out:=ex_out
 may d x:=ex_may d x
 fit x:=exF.fit x.1
 wt:=ex_wt
theorem ExRel.form {w:World} {P:Nat→Prop}:∀ {x:Ex} {c:List Value},ExRel w P x c→∃ (lo:Option Addr) (llo lc:Nat) (jt:Int) (jk:Int) (jn:Int) (Xa:ByteArray) (Xb:ByteArray) (Xu:ByteArray),c=[.slice lo llo lc,.int .u64 jt,.int .i64 jk,.int .u64 jn,.string Xa,.string Xb,.string Xu]
 | ((t,(((k,n),(a,b)),l)),u),c,h=>by
  obtain ⟨lo,lc,rfl,_⟩:=h
  exact ⟨_,_,_,_,_,_,_,_,_,rfl⟩
theorem cells7 {w:World} {g o j:Nat} {c0 c1 c2 c3 c4 c5 c6:Value} (h:Cells w g (o+7 * j) [c0,c1,c2,c3,c4,c5,c6]):w.cell? ⟨g,o+j * 7,none⟩=some c0∧w.cell? ⟨g,o+j * 7+1,none⟩=some c1∧w.cell? ⟨g,o+j * 7+2,none⟩=some c2∧w.cell? ⟨g,o+j * 7+3,none⟩=some c3∧w.cell? ⟨g,o+j * 7+4,none⟩=some c4∧w.cell? ⟨g,o+j * 7+5,none⟩=some c5∧w.cell? ⟨g,o+j * 7+6,none⟩=some c6:=by
 refine ⟨?_,?_,?_,?_,?_,?_,?_⟩
 ·have:=h 0 (by simp);rw[show o+j * 7=o+7 * j+0 by omega,this];rfl
 ·have:=h 1 (by simp);rw[show o+j * 7+1=o+7 * j+1 by omega,this];rfl
 ·have:=h 2 (by simp);rw[show o+j * 7+2=o+7 * j+2 by omega,this];rfl
 ·have:=h 3 (by simp);rw[show o+j * 7+3=o+7 * j+3 by omega,this];rfl
 ·have:=h 4 (by simp);rw[show o+j * 7+4=o+7 * j+4 by omega,this];rfl
 ·have:=h 5 (by simp);rw[show o+j * 7+5=o+7 * j+5 by omega,this];rfl
 ·have:=h 6 (by simp);rw[show o+j * 7+6=o+7 * j+6 by omega,this];rfl
open Go.RowKit
theorem hrefex_any (l:List Ex) (hargs:∀ x∈l,ex_arg x) (m:List Ex) (lo mo:Option Addr) (lc mc:Nat) (P Q:Nat→Prop) (w:World) (hl:l.length≤9223372036854775807) (ha:CRels exCel w P l lo) (hb:CRels exCel w Q m mo) :
  Calls Tryd.prog 56 #[.slice lo l.length lc,.slice mo m.length mc] w fun e w'=>e = .returned (.bool (alike l m))∧Below w.heap.size w w':=by
 have HA:=Lib.hid ha
 have HB:=Lib.hid hb
 have HLIM:=Lib.hid hargs
 clear ha hb hargs
 by_cases hlen:l.length=m.length
 case neg =>
  have HR:Hid (alike l m=false):=Lib.hid (alike_no fun h=>hlen (by rw[h]))
  have d1:((l.length:Int) != (m.length:Int))=true:=by rw[bne_iff_ne];omega
  rw[HR.out]
  clear hlen
  go_enter Tryd.func56,Tryd.ntmps56
  go_wp2_with fail
  go_ret
  exact ⟨rfl,Below.refl _ _⟩
 case pos =>
  obtain ⟨r,HR⟩:∃ r,Hid (alike l m=r):=⟨_,Lib.hid rfl⟩
  rw[HR.out]
  have d1:((l.length:Int) != (m.length:Int))=false:=by rw[bne_eq_false_iff_eq];omega
  have HLEN:=Lib.hid hlen
  clear hlen
  go_enter Tryd.func56,Tryd.ntmps56
  go_wp2_with fail
  go_loopg [5] l.length (fun k i wr=>∃ j:Nat,i = .int .i64 (j:Int)∧j+k=l.length∧Below w.heap.size w wr∧Hid (l.take j=m.take j))
  case atStart=>exact ⟨0,rfl,by omega,Below.refl _ _,Lib.hid rfl⟩
  case round =>
   obtain ⟨j,rfl,hj,hbr,HEQ⟩:=hrel
   have HBR:=Lib.hid hbr
   have HJ:=Lib.hid hj
   clear hbr hj
   by_cases hlt:j<l.length
   ·have hltm:j<m.length:=by have:=HLEN.out;omega
    obtain ⟨ga,oa,ca,rfl,_,hga,hca,hra⟩:=(HA.out.below HBR.out) j hlt
    obtain ⟨gb,ob,cb,rfl,_,hgb,hcb,hrb⟩:=(HB.out.below HBR.out) j hltm
    have hca:Cells wr ga (oa+7 * j) ca:=hca
    have hcb:Cells wr gb (ob+7 * j) cb:=hcb
    have HRA:=Lib.hid hra
    have HRB:=Lib.hid hrb
    obtain ⟨lo1,llo1,lc1,jt1,jk1,jn1,Xa1,Xb1,Xu1,rfl⟩:=ExRel.form hra
    obtain ⟨lo2,llo2,lc2,jt2,jk2,jn2,Xa2,Xb2,Xu2,rfl⟩:=ExRel.form hrb
    have HCA:=Lib.hid hca
    have HCB:=Lib.hid hcb
    clear hra hrb hca hcb
    go_wp2_with fail
    obtain ⟨D,hD⟩:∃ D,wr.drew=D:=⟨_,rfl⟩
    have HBD:Hid (Below wr.heap.size wr D):=Lib.hid (by rw[←hD];exact (Below.refl _ _).drew)
    have hS:Two D ga (oa+7 * j) [.slice lo1 llo1 lc1,.int .u64 jt1,.int .i64 jk1,.int .u64 jn1,.string Xa1,.string Xb1,.string Xu1] gb (ob+7 * j) [.slice lo2 llo2 lc2,.int .u64 jt2,.int .i64 jk2,.int .u64 jn2,.string Xa2,.string Xb2,.string Xu2]:=⟨HCA.out.below HBD.out hga,HCB.out.below HBD.out hgb⟩
    have hne:Nonempty {w':World // Two w' ga (oa+7 * j) [.slice lo1 llo1 lc1,.int .u64 jt1,.int .i64 jk1,.int .u64 jn1,.string Xa1,.string Xb1,.string Xu1] gb (ob+7 * j) [.slice lo2 llo2 lc2,.int .u64 jt2,.int .i64 jk2,.int .u64 jn2,.string Xa2,.string Xb2,.string Xu2]}:=⟨⟨_,hS⟩⟩
    refine wp_region_seq (S:=fun w'=>Two w' ga (oa+7 * j) [.slice lo1 llo1 lc1,.int .u64 jt1,.int .i64 jk1,.int .u64 jn1,.string Xa1,.string Xb1,.string Xu1] gb (ob+7 * j) [.slice lo2 llo2 lc2,.int .u64 jt2,.int .i64 jk2,.int .u64 jn2,.string Xa2,.string Xb2,.string Xu2]) [(0,true),(1,true),(2,true),(3,true),(4,true),(5,true),(6,true),(7,true),(8,false),(9,true)] (by kernel_rfl) (by kernel_rfl) (by kernel_rfl) (by kernel_rfl) (by rw[hD];exact hS) ?_
    rw[hD]
    clear hD
    iterate 2 (refine seq_take _ rfl (fun K2 hK=>?_);go_simp;(first|refine hK _ ?_|refine ⟨_,fun _ _=>rfl,hK _ ?_⟩);clear hK K2)
    refine seq_take _ rfl (fun K2 hK=>?_);go_simp
    (first|refine hK _ ?_|refine ⟨.pointer (some ⟨ga,oa+j * 7,none⟩),fun _ _=>if_pos (by omega),hK _ ?_⟩)
    clear hK K2
    refine seq_take _ rfl (fun K2 hK=>?_);go_simp
    refine ⟨.agg #[.slice lo1 llo1 lc1,.int .u64 jt1,.int .i64 jk1,.int .u64 jn1,.string Xa1,.string Xb1,.string Xu1],fun a ha=>by obtain ⟨ea0,ea1,ea2,ea3,ea4,ea5,ea6⟩:=cells7 ha.1;simp only[ea0,ea1,ea2,ea3,ea4,ea5,ea6,Result.andThen],hK _ ?_⟩
    clear hK K2
    iterate 2 (refine seq_take _ rfl (fun K2 hK=>?_);go_simp;(first|refine hK _ ?_|refine ⟨_,fun _ _=>rfl,hK _ ?_⟩);clear hK K2)
    refine seq_take _ rfl (fun K2 hK=>?_);go_simp
    (first|refine hK _ ?_|refine ⟨.pointer (some ⟨gb,ob+j * 7,none⟩),fun _ _=>if_pos (by omega),hK _ ?_⟩)
    clear hK K2
    refine seq_take _ rfl (fun K2 hK=>?_);go_simp
    refine ⟨.agg #[.slice lo2 llo2 lc2,.int .u64 jt2,.int .i64 jk2,.int .u64 jn2,.string Xa2,.string Xb2,.string Xu2],fun a ha=>by obtain ⟨eb0,eb1,eb2,eb3,eb4,eb5,eb6⟩:=cells7 ha.2;simp only[eb0,eb1,eb2,eb3,eb4,eb5,eb6,Result.andThen],hK _ ?_⟩
    clear hK K2
    refine seq_come _ rfl (fun K2 hK=>?_);go_simp
    refine (ex_ref l[j] m[j] [.slice lo1 llo1 lc1,.int .u64 jt1,.int .i64 jk1,.int .u64 jn1,.string Xa1,.string Xb1,.string Xu1] [.slice lo2 llo2 lc2,.int .u64 jt2,.int .i64 jk2,.int .u64 jn2,.string Xa2,.string Xb2,.string Xu2] P Q D (HLIM.out _ (List.getElem_mem hlt)) (exCel.upd (Upd.of_new (S:=fun _=>False) HBD.out) (fun _ _ h=>h) (fun _ h=>h) HRA.out) (exCel.upd (Upd.of_new (S:=fun _=>False) HBD.out) (fun _ _ h=>h) (fun _ h=>h) HRB.out)).mono ?_;rintro e w4 ⟨rfl,hb4⟩
    obtain ⟨bb,hbb⟩:∃ bb,alike l[j] m[j]=bb:=⟨_,rfl⟩
    have HBB:=Lib.hid hbb
    rw[hbb]
    clear hbb
    have HB4:=Lib.hid (below_step HBD.out hb4)
    have hS4:Two w4 ga (oa+7 * j) [.slice lo1 llo1 lc1,.int .u64 jt1,.int .i64 jk1,.int .u64 jn1,.string Xa1,.string Xb1,.string Xu1] gb (ob+7 * j) [.slice lo2 llo2 lc2,.int .u64 jt2,.int .i64 jk2,.int .u64 jn2,.string Xa2,.string Xb2,.string Xu2]:=⟨HCA.out.below HB4.out hga,HCB.out.below HB4.out hgb⟩
    go_simp;refine hK.out _ _ hS4 ?_;clear hK K2 hb4
    (refine seq_take _ rfl (fun K2 hK=>?_);go_simp;(first|refine hK _ ?_|refine ⟨_,fun _ _=>rfl,hK _ ?_⟩);clear hK K2)
    refine seq_done ?_
    clear hne hS hS4
    have HBW:=Lib.hid (below_step HBR.out HB4.out)
    cases bb with
    | true =>
     have HE:=Lib.hid (alike_iff.1 HBB.out)
     go_wp2_with fail
     have hj:=HJ.out
     go_roundg (gk - 1)
     case measure=>omega
     case rel=>exact ⟨j+1,by simp,by omega,HBW.out,Lib.hid (by rw[List.take_succ_eq_append_getElem hlt,List.take_succ_eq_append_getElem hltm,HEQ.out,HE.out])⟩
    | false =>
     have hr:r=false:=by rw[←HR.out];exact alike_no (fun h=>by have:=HBB.out;subst h;rw[alike_yes rfl] at this;cases this)
     subst hr
     go_wp2_with fail
     go_ret
     exact ⟨rfl,HBW.out⟩
   ·have hjn:j=l.length:=by have:=HJ.out;omega
    have hr:r=true:=by
     rw[←HR.out]
     refine alike_yes ?_
     have h:=HEQ.out
     rw[hjn,List.take_length,HLEN.out,List.take_length] at h
     exact h
    subst hr
    clear hjn
    go_wp2_with fail
    go_ret
    exact ⟨rfl,HBR.out⟩
end Go.Proofs.YtcblkndiclkacaaDoor
