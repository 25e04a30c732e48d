/-
  slices.EqualFunc of exemplars; hygref.Exemplars.
-/
import Derived.Test.YtficgfemmijaaaaGreatExSub
import Derived.Test.YtficgfemmijaaaaGreatExSame
set_option maxRecDepth 1000000
set_option maxHeartbeats 16000000
namespace Go.Proofs.YtficgfemmijaaaaGreat
open Go.RowKit
theorem eqfex_any (l:List Ex) (hargs:∀ x∈l,ex_arg x) (m:List Ex) (lo mo:Option Addr) (lc mc:Nat) (P Q:Nat→Prop) (w:World) (hl:l.length≤9223372036854775807) (ha:CRels exCel w P l lo) (hb:CRels exCel w Q m mo) :
  Calls Tryz.prog 20 #[.slice lo l.length lc,.slice mo m.length mc,.func (.func 21) #[] #[]] w fun e w'=>e = .returned (.bool (alike l m))∧Below w.heap.size w w':=by
 have HA:=Lib.hid ha
 have HB:=Lib.hid hb
 have HLIM:=Lib.hid hargs
 clear ha hb hargs
 by_cases hlen:l.length=m.length
 case neg =>
  have HR:Hid (alike l m=false):=Lib.hid (alike_no fun h=>hlen (by rw[h]))
  have d1:((l.length:Int) != (m.length:Int))=true:=by rw[bne_iff_ne];omega
  rw[HR.out]
  clear hlen
  go_enter Tryz.func20,Tryz.ntmps20
  go_wp2_with fail
  go_ret
  exact ⟨rfl,Below.refl _ _⟩
 case pos =>
  obtain ⟨r,HR⟩:∃ r,Hid (alike l m=r):=⟨_,Lib.hid rfl⟩
  rw[HR.out]
  have d1:((l.length:Int) != (m.length:Int))=false:=by rw[bne_eq_false_iff_eq];omega
  have HLEN:=Lib.hid hlen
  clear hlen
  go_enter Tryz.func20,Tryz.ntmps20
  go_wp2_with fail
  go_loopg [17] l.length (fun k i wr=>∃ j:Nat,i = .int .i64 (j:Int)∧j+k=l.length∧Below w.heap.size w wr∧Hid (l.take j=m.take j))
  case atStart=>exact ⟨0,rfl,by omega,Below.refl _ _,Lib.hid rfl⟩
  case round =>
   obtain ⟨j,rfl,hj,hbr,HEQ⟩:=hrel
   have HBR:=Lib.hid hbr
   have HJ:=Lib.hid hj
   clear hbr hj
   by_cases hlt:j<l.length
   ·have hltm:j<m.length:=by have:=HLEN.out;omega
    obtain ⟨ga,oa,ca,rfl,_,hga,hca,hra⟩:=(HA.out.below HBR.out) j hlt
    obtain ⟨gb,ob,cb,rfl,_,hgb,hcb,hrb⟩:=(HB.out.below HBR.out) j hltm
    have hca:Cells wr ga (oa+7 * j) ca:=hca
    have hcb:Cells wr gb (ob+7 * j) cb:=hcb
    have HRA:=Lib.hid hra
    have HRB:=Lib.hid hrb
    obtain ⟨lo1,llo1,lc1,jt1,jk1,jn1,Xa1,Xb1,Xu1,rfl⟩:=ExRel.form hra
    obtain ⟨lo2,llo2,lc2,jt2,jk2,jn2,Xa2,Xb2,Xu2,rfl⟩:=ExRel.form hrb
    have HCA:=Lib.hid hca
    have HCB:=Lib.hid hcb
    have HB1:Hid (Below wr.heap.size wr (wr.alloc (.cells #[.slice lo1 llo1 lc1,.int .u64 jt1,.int .i64 jk1,.int .u64 jn1,.string Xa1,.string Xb1,.string Xu1] 54))):=Lib.hid (below_new _ _)
    have HCB1:=Lib.hid (hcb.below HB1.out hgb)
    have HB2:Hid (Below wr.heap.size wr ((wr.alloc (.cells #[.slice lo1 llo1 lc1,.int .u64 jt1,.int .i64 jk1,.int .u64 jn1,.string Xa1,.string Xb1,.string Xu1] 54)).alloc (.cells #[.slice lo2 llo2 lc2,.int .u64 jt2,.int .i64 jk2,.int .u64 jn2,.string Xa2,.string Xb2,.string Xu2] 54))):=Lib.hid (below_step HB1.out (below_new _ _))
    clear hra hrb hca hcb
    obtain ⟨ea0,ea1,ea2,ea3,ea4,ea5,ea6⟩:=cells7 HCA.out
    obtain ⟨eb0,eb1,eb2,eb3,eb4,eb5,eb6⟩:=cells7 HCB1.out
    go_wp2_with fail
    refine (ex_same l[j] m[j] [.slice lo1 llo1 lc1,.int .u64 jt1,.int .i64 jk1,.int .u64 jn1,.string Xa1,.string Xb1,.string Xu1] [.slice lo2 llo2 lc2,.int .u64 jt2,.int .i64 jk2,.int .u64 jn2,.string Xa2,.string Xb2,.string Xu2] P Q _ (HLIM.out _ (List.getElem_mem hlt)) (exCel.upd (Upd.of_new (S:=fun _=>False) HB2.out) (fun _ _ h=>h) (fun _ h=>h) HRA.out) (exCel.upd (Upd.of_new (S:=fun _=>False) HB2.out) (fun _ _ h=>h) (fun _ h=>h) HRB.out)).mono ?_;rintro e w4 ⟨rfl,hb4⟩
    obtain ⟨bb,hbb⟩:∃ bb,alike l[j] m[j]=bb:=⟨_,rfl⟩
    have HBB:=Lib.hid hbb
    rw[hbb]
    clear hbb
    have HBW:=Lib.hid (below_step HBR.out (below_step HB2.out hb4))
    clear hb4 ea0 ea1 ea2 ea3 ea4 ea5 ea6 eb0 eb1 eb2 eb3 eb4 eb5 eb6
    cases bb with
    | true =>
     have HE:=Lib.hid (alike_iff.1 HBB.out)
     go_wp2_with fail
     have hj:=HJ.out
     go_roundg (gk - 1)
     case measure=>omega
     case rel=>exact ⟨j+1,by simp,by omega,HBW.out,Lib.hid (by rw[List.take_succ_eq_append_getElem hlt,List.take_succ_eq_append_getElem hltm,HEQ.out,HE.out])⟩
    | false =>
     have hr:r=false:=by rw[←HR.out];exact alike_no (fun h=>by have:=HBB.out;subst h;rw[alike_yes rfl] at this;cases this)
     subst hr
     go_wp2_with fail
     go_ret
     exact ⟨rfl,HBW.out⟩
   ·have hjn:j=l.length:=by have:=HJ.out;omega
    have hr:r=true:=by
     rw[←HR.out]
     refine alike_yes ?_
     have h:=HEQ.out
     rw[hjn,List.take_length,HLEN.out,List.take_length] at h
     exact h
    subst hr
    clear hjn
    go_wp2_with fail
    go_ret
    exact ⟨rfl,HBR.out⟩
theorem hrefex_any (l:List Ex) (hargs:∀ x∈l,ex_arg x) (m:List Ex) (lo mo:Option Addr) (lc mc:Nat) (P Q:Nat→Prop) (w:World) (hl:l.length≤9223372036854775807) (ha:CRels exCel w P l lo) (hb:CRels exCel w Q m mo) :
  Calls Tryz.prog 25 #[.slice lo l.length lc,.slice mo m.length mc] w fun e w'=>e = .returned (.bool (alike l m))∧Below w.heap.size w w':=by
 have HA:=Lib.hid ha
 have HB:=Lib.hid hb
 have HLIM:=Lib.hid hargs
 clear ha hb hargs
 by_cases hlen:l.length=m.length
 case neg =>
  have HR:Hid (alike l m=false):=Lib.hid (alike_no fun h=>hlen (by rw[h]))
  have d1:((l.length:Int) != (m.length:Int))=true:=by rw[bne_iff_ne];omega
  rw[HR.out]
  clear hlen
  go_enter Tryz.func25,Tryz.ntmps25
  go_wp2_with fail
  go_ret
  exact ⟨rfl,Below.refl _ _⟩
 case pos =>
  obtain ⟨r,HR⟩:∃ r,Hid (alike l m=r):=⟨_,Lib.hid rfl⟩
  rw[HR.out]
  have d1:((l.length:Int) != (m.length:Int))=false:=by rw[bne_eq_false_iff_eq];omega
  have HLEN:=Lib.hid hlen
  clear hlen
  go_enter Tryz.func25,Tryz.ntmps25
  go_wp2_with fail
  go_loopg [5] l.length (fun k i wr=>∃ j:Nat,i = .int .i64 (j:Int)∧j+k=l.length∧Below w.heap.size w wr∧Hid (l.take j=m.take j))
  case atStart=>exact ⟨0,rfl,by omega,Below.refl _ _,Lib.hid rfl⟩
  case round =>
   obtain ⟨j,rfl,hj,hbr,HEQ⟩:=hrel
   have HBR:=Lib.hid hbr
   have HJ:=Lib.hid hj
   clear hbr hj
   by_cases hlt:j<l.length
   ·have hltm:j<m.length:=by have:=HLEN.out;omega
    obtain ⟨ga,oa,ca,rfl,_,hga,hca,hra⟩:=(HA.out.below HBR.out) j hlt
    obtain ⟨gb,ob,cb,rfl,_,hgb,hcb,hrb⟩:=(HB.out.below HBR.out) j hltm
    have hca:Cells wr ga (oa+7 * j) ca:=hca
    have hcb:Cells wr gb (ob+7 * j) cb:=hcb
    have HRA:=Lib.hid hra
    have HRB:=Lib.hid hrb
    obtain ⟨lo1,llo1,lc1,jt1,jk1,jn1,Xa1,Xb1,Xu1,rfl⟩:=ExRel.form hra
    obtain ⟨lo2,llo2,lc2,jt2,jk2,jn2,Xa2,Xb2,Xu2,rfl⟩:=ExRel.form hrb
    have HCA:=Lib.hid hca
    have HCB:=Lib.hid hcb
    clear hra hrb hca hcb
    go_wp2_with fail
    obtain ⟨D,hD⟩:∃ D,wr.drew=D:=⟨_,rfl⟩
    have HBD:Hid (Below wr.heap.size wr D):=Lib.hid (by rw[←hD];exact (Below.refl _ _).drew)
    have hS:Two D ga (oa+7 * j) [.slice lo1 llo1 lc1,.int .u64 jt1,.int .i64 jk1,.int .u64 jn1,.string Xa1,.string Xb1,.string Xu1] gb (ob+7 * j) [.slice lo2 llo2 lc2,.int .u64 jt2,.int .i64 jk2,.int .u64 jn2,.string Xa2,.string Xb2,.string Xu2]:=⟨HCA.out.below HBD.out hga,HCB.out.below HBD.out hgb⟩
    have hne:Nonempty {w':World // Two w' ga (oa+7 * j) [.slice lo1 llo1 lc1,.int .u64 jt1,.int .i64 jk1,.int .u64 jn1,.string Xa1,.string Xb1,.string Xu1] gb (ob+7 * j) [.slice lo2 llo2 lc2,.int .u64 jt2,.int .i64 jk2,.int .u64 jn2,.string Xa2,.string Xb2,.string Xu2]}:=⟨⟨_,hS⟩⟩
    refine wp_region_seq (S:=fun w'=>Two w' ga (oa+7 * j) [.slice lo1 llo1 lc1,.int .u64 jt1,.int .i64 jk1,.int .u64 jn1,.string Xa1,.string Xb1,.string Xu1] gb (ob+7 * j) [.slice lo2 llo2 lc2,.int .u64 jt2,.int .i64 jk2,.int .u64 jn2,.string Xa2,.string Xb2,.string Xu2]) [(0,true),(1,true),(2,true),(3,true),(4,true),(5,true),(6,true),(7,true),(8,false),(9,true)] (by kernel_rfl) (by kernel_rfl) (by kernel_rfl) (by kernel_rfl) (by rw[hD];exact hS) ?_
    rw[hD]
    clear hD
    iterate 2 (refine seq_take _ rfl (fun K2 hK=>?_);go_simp;(first|refine hK _ ?_|refine ⟨_,fun _ _=>rfl,hK _ ?_⟩);clear hK K2)
    refine seq_take _ rfl (fun K2 hK=>?_);go_simp
    (first|refine hK _ ?_|refine ⟨.pointer (some ⟨ga,oa+j * 7,none⟩),fun _ _=>if_pos (by omega),hK _ ?_⟩)
    clear hK K2
    refine seq_take _ rfl (fun K2 hK=>?_);go_simp
    refine ⟨.agg #[.slice lo1 llo1 lc1,.int .u64 jt1,.int .i64 jk1,.int .u64 jn1,.string Xa1,.string Xb1,.string Xu1],fun a ha=>by obtain ⟨ea0,ea1,ea2,ea3,ea4,ea5,ea6⟩:=cells7 ha.1;simp only[ea0,ea1,ea2,ea3,ea4,ea5,ea6,Result.andThen],hK _ ?_⟩
    clear hK K2
    iterate 2 (refine seq_take _ rfl (fun K2 hK=>?_);go_simp;(first|refine hK _ ?_|refine ⟨_,fun _ _=>rfl,hK _ ?_⟩);clear hK K2)
    refine seq_take _ rfl (fun K2 hK=>?_);go_simp
    (first|refine hK _ ?_|refine ⟨.pointer (some ⟨gb,ob+j * 7,none⟩),fun _ _=>if_pos (by omega),hK _ ?_⟩)
    clear hK K2
    refine seq_take _ rfl (fun K2 hK=>?_);go_simp
    refine ⟨.agg #[.slice lo2 llo2 lc2,.int .u64 jt2,.int .i64 jk2,.int .u64 jn2,.string Xa2,.string Xb2,.string Xu2],fun a ha=>by obtain ⟨eb0,eb1,eb2,eb3,eb4,eb5,eb6⟩:=cells7 ha.2;simp only[eb0,eb1,eb2,eb3,eb4,eb5,eb6,Result.andThen],hK _ ?_⟩
    clear hK K2
    refine seq_come _ rfl (fun K2 hK=>?_);go_simp
    refine (ex_ref l[j] m[j] [.slice lo1 llo1 lc1,.int .u64 jt1,.int .i64 jk1,.int .u64 jn1,.string Xa1,.string Xb1,.string Xu1] [.slice lo2 llo2 lc2,.int .u64 jt2,.int .i64 jk2,.int .u64 jn2,.string Xa2,.string Xb2,.string Xu2] P Q D (HLIM.out _ (List.getElem_mem hlt)) (exCel.upd (Upd.of_new (S:=fun _=>False) HBD.out) (fun _ _ h=>h) (fun _ h=>h) HRA.out) (exCel.upd (Upd.of_new (S:=fun _=>False) HBD.out) (fun _ _ h=>h) (fun _ h=>h) HRB.out)).mono ?_;rintro e w4 ⟨rfl,hb4⟩
    obtain ⟨bb,hbb⟩:∃ bb,alike l[j] m[j]=bb:=⟨_,rfl⟩
    have HBB:=Lib.hid hbb
    rw[hbb]
    clear hbb
    have HB4:=Lib.hid (below_step HBD.out hb4)
    have hS4:Two w4 ga (oa+7 * j) [.slice lo1 llo1 lc1,.int .u64 jt1,.int .i64 jk1,.int .u64 jn1,.string Xa1,.string Xb1,.string Xu1] gb (ob+7 * j) [.slice lo2 llo2 lc2,.int .u64 jt2,.int .i64 jk2,.int .u64 jn2,.string Xa2,.string Xb2,.string Xu2]:=⟨HCA.out.below HB4.out hga,HCB.out.below HB4.out hgb⟩
    go_simp;refine hK.out _ _ hS4 ?_;clear hK K2 hb4
    (refine seq_take _ rfl (fun K2 hK=>?_);go_simp;(first|refine hK _ ?_|refine ⟨_,fun _ _=>rfl,hK _ ?_⟩);clear hK K2)
    refine seq_done ?_
    clear hne hS hS4
    have HBW:=Lib.hid (below_step HBR.out HB4.out)
    cases bb with
    | true =>
     have HE:=Lib.hid (alike_iff.1 HBB.out)
     go_wp2_with fail
     have hj:=HJ.out
     go_roundg (gk - 1)
     case measure=>omega
     case rel=>exact ⟨j+1,by simp,by omega,HBW.out,Lib.hid (by rw[List.take_succ_eq_append_getElem hlt,List.take_succ_eq_append_getElem hltm,HEQ.out,HE.out])⟩
    | false =>
     have hr:r=false:=by rw[←HR.out];exact alike_no (fun h=>by have:=HBB.out;subst h;rw[alike_yes rfl] at this;cases this)
     subst hr
     go_wp2_with fail
     go_ret
     exact ⟨rfl,HBW.out⟩
   ·have hjn:j=l.length:=by have:=HJ.out;omega
    have hr:r=true:=by
     rw[←HR.out]
     refine alike_yes ?_
     have h:=HEQ.out
     rw[hjn,List.take_length,HLEN.out,List.take_length] at h
     exact h
    subst hr
    clear hjn
    go_wp2_with fail
    go_ret
    exact ⟨rfl,HBR.out⟩
end Go.Proofs.YtficgfemmijaaaaGreat
