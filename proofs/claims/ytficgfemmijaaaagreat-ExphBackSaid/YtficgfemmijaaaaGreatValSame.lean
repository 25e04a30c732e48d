/-
  value.Same, SameKey, SameKeys: are any two alike?
-/
import Derived.Test.YtficgfemmijaaaaGreatAlikeB
import Derived.Test.YtficgfemmijaaaaGreatMsgMath
import Derived.Test.YtficgfemmijaaaaGreatKit
import Derived.Test.YtficgfemmijaaaaGreatWireMath
import Derived.Test.YtficgfemmijaaaaGreatWireR5
import Derived.Test.YtficgfemmijaaaaGreatErrNew
import Derived.Test.YtficgfemmijaaaaGreatMsgRead
import Derived.Test.YtficgfemmijaaaaGreatGet
import Derived.Test.YtficgfemmijaaaaGreatMsgWrite
import Derived.Test.YtficgfemmijaaaaGreatOrd
set_option maxRecDepth 1000000
set_option maxHeartbeats 16000000
namespace Go.Proofs.YtficgfemmijaaaaGreat
open Go.RowKit
open Lib (hid)
theorem veqf_step (l:List Val)(hk:Hid (∀ x∈l,SV 84 x))(m:List Val)(lo mo:Option Addr)(lc mc:Nat)(P Q:Nat→Prop)(w:World)(hl:l.length≤9223372036854775807)(hlim:vslim l)(ha:VRels w P l lo 0)(hb:VRels w Q m mo 0) :
  Calls Tryz.prog 104 #[.slice lo l.length lc,.slice mo m.length mc,.func (.func 84) #[] #[]] w fun e w'=>e = .returned (.bool (alike l m))∧Below w.heap.size w w':=by
 have HA:=hid ha;have HB:=hid hb;have HLIM:=hid hlim;clear ha hb hlim
 by_cases hlen:l.length=m.length
 case neg =>
  have HR:Hid (alike l m=false):=hid (alike_no fun h=>hlen (by rw[h]));have d1:((l.length:Int) != (m.length:Int))=true:=by rw[bne_iff_ne];omega
  rw[HR.out];clear hlen;go_enter Tryz.func104,Tryz.ntmps104;go_wp2_with fail;go_ret;exact ⟨rfl,Below.refl _ _⟩
 case pos =>
  obtain ⟨r,HR⟩:∃ r,Hid (alike l m=r):=⟨_,hid rfl⟩
  rw[HR.out];have d1:((l.length:Int) != (m.length:Int))=false:=by rw[bne_eq_false_iff_eq];omega
  have HLEN:=hid hlen;clear hlen;go_enter Tryz.func104,Tryz.ntmps104;go_wp2_with fail
  go_loopg [17] l.length (fun k i wr=>∃ j:Nat,i = .int .i64 j∧j+k=l.length∧Below w.heap.size w wr∧Hid (l.take j=m.take j))
  case atStart=>exact ⟨0,rfl,by omega,Below.refl _ _,hid rfl⟩
  case round =>
   obtain ⟨j,rfl,hj,hbr,HEQ⟩:=hrel;have HBR:=hid hbr;have HJ:=hid hj;clear hbr hj
   by_cases hlt:j<l.length
   ·have hltm:j<m.length:=by have:=HLEN.out;omega
    obtain ⟨ga,oa,ca,rfl,hga,hca,hra⟩:=vrels_at0 (HA.out.below HBR.out) j hlt;obtain ⟨gb,ob,cb,rfl,hgb,hcb,hrb⟩:=vrels_at0 (HB.out.below HBR.out) j hltm;have HRA:=hid hra;have HRB:=hid hrb;obtain ⟨k1,S1,b1,n1,l1,ln1,lc1,m1,mn1,mc1,I1,U1,rfl⟩:=hra.form;obtain ⟨k3,S3,b3,n3,l3,ln3,lc3,m3,mn3,mc3,I3,U3,rfl⟩:=hrb.form;have HCA:=hid hca;have HB1:Hid (Below wr.heap.size wr (wr.alloc (.cells #[.int .i64 k1,.string S1,.bool b1,.int .u64 n1,.slice l1 ln1 lc1,.slice m1 mn1 mc1,.string I1,.string U1] 63))):=hid (below_new _ _);have HCB1:=hid (hcb.below HB1.out hgb);have HB2:Hid (Below wr.heap.size wr ((wr.alloc (.cells #[.int .i64 k1,.string S1,.bool b1,.int .u64 n1,.slice l1 ln1 lc1,.slice m1 mn1 mc1,.string I1,.string U1] 63)).alloc (.cells #[.int .i64 k3,.string S3,.bool b3,.int .u64 n3,.slice l3 ln3 lc3,.slice m3 mn3 mc3,.string I3,.string U3] 63))):=hid (below_step HB1.out (below_new _ _));clear hra hrb hca hcb;have ea0:wr.cell? ⟨ga,oa+j * 8,none⟩=some (.int .i64 k1):=by have:=HCA.out 0 (by simp);rw[show oa+j * 8=oa+8 * j+0 by omega,this];rfl
    have ea1:wr.cell? ⟨ga,oa+j * 8+1,none⟩=some (.string S1):=by have:=HCA.out 1 (by simp);rw[show oa+j * 8+1=oa+8 * j+1 by omega,this];rfl
    have ea2:wr.cell? ⟨ga,oa+j * 8+2,none⟩=some (.bool b1):=by have:=HCA.out 2 (by simp);rw[show oa+j * 8+2=oa+8 * j+2 by omega,this];rfl
    have ea3:wr.cell? ⟨ga,oa+j * 8+3,none⟩=some (.int .u64 n1):=by have:=HCA.out 3 (by simp);rw[show oa+j * 8+3=oa+8 * j+3 by omega,this];rfl
    have ea4:wr.cell? ⟨ga,oa+j * 8+4,none⟩=some (.slice l1 ln1 lc1):=by have:=HCA.out 4 (by simp);rw[show oa+j * 8+4=oa+8 * j+4 by omega,this];rfl
    have ea5:wr.cell? ⟨ga,oa+j * 8+5,none⟩=some (.slice m1 mn1 mc1):=by have:=HCA.out 5 (by simp);rw[show oa+j * 8+5=oa+8 * j+5 by omega,this];rfl
    have ea6:wr.cell? ⟨ga,oa+j * 8+6,none⟩=some (.string I1):=by have:=HCA.out 6 (by simp);rw[show oa+j * 8+6=oa+8 * j+6 by omega,this];rfl
    have ea7:wr.cell? ⟨ga,oa+j * 8+7,none⟩=some (.string U1):=by have:=HCA.out 7 (by simp);rw[show oa+j * 8+7=oa+8 * j+7 by omega,this];rfl
    have eb0:(wr.alloc (.cells #[.int .i64 k1,.string S1,.bool b1,.int .u64 n1,.slice l1 ln1 lc1,.slice m1 mn1 mc1,.string I1,.string U1] 63)).cell? ⟨gb,ob+j * 8,none⟩=some (.int .i64 k3):=by have:=HCB1.out 0 (by simp);rw[show ob+j * 8=ob+8 * j+0 by omega,this];rfl
    have eb1:(wr.alloc (.cells #[.int .i64 k1,.string S1,.bool b1,.int .u64 n1,.slice l1 ln1 lc1,.slice m1 mn1 mc1,.string I1,.string U1] 63)).cell? ⟨gb,ob+j * 8+1,none⟩=some (.string S3):=by have:=HCB1.out 1 (by simp);rw[show ob+j * 8+1=ob+8 * j+1 by omega,this];rfl
    have eb2:(wr.alloc (.cells #[.int .i64 k1,.string S1,.bool b1,.int .u64 n1,.slice l1 ln1 lc1,.slice m1 mn1 mc1,.string I1,.string U1] 63)).cell? ⟨gb,ob+j * 8+2,none⟩=some (.bool b3):=by have:=HCB1.out 2 (by simp);rw[show ob+j * 8+2=ob+8 * j+2 by omega,this];rfl
    have eb3:(wr.alloc (.cells #[.int .i64 k1,.string S1,.bool b1,.int .u64 n1,.slice l1 ln1 lc1,.slice m1 mn1 mc1,.string I1,.string U1] 63)).cell? ⟨gb,ob+j * 8+3,none⟩=some (.int .u64 n3):=by have:=HCB1.out 3 (by simp);rw[show ob+j * 8+3=ob+8 * j+3 by omega,this];rfl
    have eb4:(wr.alloc (.cells #[.int .i64 k1,.string S1,.bool b1,.int .u64 n1,.slice l1 ln1 lc1,.slice m1 mn1 mc1,.string I1,.string U1] 63)).cell? ⟨gb,ob+j * 8+4,none⟩=some (.slice l3 ln3 lc3):=by have:=HCB1.out 4 (by simp);rw[show ob+j * 8+4=ob+8 * j+4 by omega,this];rfl
    have eb5:(wr.alloc (.cells #[.int .i64 k1,.string S1,.bool b1,.int .u64 n1,.slice l1 ln1 lc1,.slice m1 mn1 mc1,.string I1,.string U1] 63)).cell? ⟨gb,ob+j * 8+5,none⟩=some (.slice m3 mn3 mc3):=by have:=HCB1.out 5 (by simp);rw[show ob+j * 8+5=ob+8 * j+5 by omega,this];rfl
    have eb6:(wr.alloc (.cells #[.int .i64 k1,.string S1,.bool b1,.int .u64 n1,.slice l1 ln1 lc1,.slice m1 mn1 mc1,.string I1,.string U1] 63)).cell? ⟨gb,ob+j * 8+6,none⟩=some (.string I3):=by have:=HCB1.out 6 (by simp);rw[show ob+j * 8+6=ob+8 * j+6 by omega,this];rfl
    have eb7:(wr.alloc (.cells #[.int .i64 k1,.string S1,.bool b1,.int .u64 n1,.slice l1 ln1 lc1,.slice m1 mn1 mc1,.string I1,.string U1] 63)).cell? ⟨gb,ob+j * 8+7,none⟩=some (.string U3):=by have:=HCB1.out 7 (by simp);rw[show ob+j * 8+7=ob+8 * j+7 by omega,this];rfl
    go_wp2_with fail;refine ((hk.out l[j] (List.getElem_mem hlt)) m[j] [.int .i64 k1,.string S1,.bool b1,.int .u64 n1,.slice l1 ln1 lc1,.slice m1 mn1 mc1,.string I1,.string U1] [.int .i64 k3,.string S3,.bool b3,.int .u64 n3,.slice l3 ln3 lc3,.slice m3 mn3 mc3,.string I3,.string U3] P Q _ (vslim_at HLIM.out _ (List.getElem_mem hlt)) (HRA.out.below HB2.out) (HRB.out.below HB2.out)).mono ?_;rintro e w4 ⟨rfl,hb4⟩;obtain ⟨bb,hbb⟩:∃ bb,alike l[j] m[j]=bb:=⟨_,rfl⟩
    have HBB:=hid hbb;rw[hbb];clear hbb;have HBW:=hid (below_step HBR.out (below_step HB2.out hb4));clear hb4 ea0 eb0 ea1 eb1 ea2 eb2 ea3 eb3 ea4 eb4 ea5 eb5 ea6 eb6 ea7 eb7
    cases bb with
    | true =>
     have HE:=hid (alike_iff.1 HBB.out);go_wp2_with fail;have hj:=HJ.out
     go_roundg (gk - 1)
     case measure=>omega
     case rel=>exact ⟨j+1,by simp,by omega,HBW.out,hid (by rw[List.take_succ_eq_append_getElem hlt,List.take_succ_eq_append_getElem hltm,HEQ.out,HE.out])⟩
    | false =>
     have hr:r=false:=by rw[←HR.out];exact alike_no (fun h=>by have:=HBB.out;subst h;rw[alike_yes rfl] at this;cases this)
     subst hr;go_wp2_with fail;go_ret;exact ⟨rfl,HBW.out⟩
   ·have hjn:j=l.length:=by have:=HJ.out;omega
    have hr:r=true:=by
     rw[←HR.out];refine alike_yes ?_;have h:=HEQ.out;rw[hjn,List.take_length,HLEN.out,List.take_length] at h;exact h
    subst hr;clear hjn;go_wp2_with fail;go_ret;exact ⟨rfl,HBR.out⟩
theorem keqf_step (l:List KV)(hk:Hid (∀ x∈l,SK 50 x))(m:List KV)(lo mo:Option Addr)(lc mc:Nat)(P Q:Nat→Prop)(w:World)(hl:l.length≤9223372036854775807)(hlim:kslim l)(ha:KRels w P l lo 0)(hb:KRels w Q m mo 0) :
  Calls Tryz.prog 49 #[.slice lo l.length lc,.slice mo m.length mc,.func (.func 50) #[] #[]] w fun e w'=>e = .returned (.bool (alike l m))∧Below w.heap.size w w':=by
 have HA:=hid ha;have HB:=hid hb;have HLIM:=hid hlim;clear ha hb hlim
 by_cases hlen:l.length=m.length
 case neg =>
  have HR:Hid (alike l m=false):=hid (alike_no fun h=>hlen (by rw[h]));have d1:((l.length:Int) != (m.length:Int))=true:=by rw[bne_iff_ne];omega
  rw[HR.out];clear hlen;go_enter Tryz.func49,Tryz.ntmps49;go_wp2_with fail;go_ret;exact ⟨rfl,Below.refl _ _⟩
 case pos =>
  obtain ⟨r,HR⟩:∃ r,Hid (alike l m=r):=⟨_,hid rfl⟩
  rw[HR.out];have d1:((l.length:Int) != (m.length:Int))=false:=by rw[bne_eq_false_iff_eq];omega
  have HLEN:=hid hlen;clear hlen;go_enter Tryz.func49,Tryz.ntmps49;go_wp2_with fail
  go_loopg [17] l.length (fun k i wr=>∃ j:Nat,i = .int .i64 j∧j+k=l.length∧Below w.heap.size w wr∧Hid (l.take j=m.take j))
  case atStart=>exact ⟨0,rfl,by omega,Below.refl _ _,hid rfl⟩
  case round =>
   obtain ⟨j,rfl,hj,hbr,HEQ⟩:=hrel;have HBR:=hid hbr;have HJ:=hid hj;clear hbr hj
   by_cases hlt:j<l.length
   ·have hltm:j<m.length:=by have:=HLEN.out;omega
    obtain ⟨ga,oa,ca,rfl,hga,hca,hra⟩:=krels_at0 (HA.out.below HBR.out) j hlt;obtain ⟨gb,ob,cb,rfl,hgb,hcb,hrb⟩:=krels_at0 (HB.out.below HBR.out) j hltm;have HRA:=hid hra;have HRB:=hid hrb;obtain ⟨K0,h0,k1,S1,b1,n1,l1,ln1,lc1,m1,mn1,mc1,I1,U1,Y1,rfl⟩:=hra.form;obtain ⟨K3,h2,k3,S3,b3,n3,l3,ln3,lc3,m3,mn3,mc3,I3,U3,Y3,rfl⟩:=hrb.form;have HCA:=hid hca;have HB1:Hid (Below wr.heap.size wr (wr.alloc (.cells #[.string K0,.bool h0,.int .i64 k1,.string S1,.bool b1,.int .u64 n1,.slice l1 ln1 lc1,.slice m1 mn1 mc1,.string I1,.string U1,.string Y1] 65))):=hid (below_new _ _);have HCB1:=hid (hcb.below HB1.out hgb);have HB2:Hid (Below wr.heap.size wr ((wr.alloc (.cells #[.string K0,.bool h0,.int .i64 k1,.string S1,.bool b1,.int .u64 n1,.slice l1 ln1 lc1,.slice m1 mn1 mc1,.string I1,.string U1,.string Y1] 65)).alloc (.cells #[.string K3,.bool h2,.int .i64 k3,.string S3,.bool b3,.int .u64 n3,.slice l3 ln3 lc3,.slice m3 mn3 mc3,.string I3,.string U3,.string Y3] 65))):=hid (below_step HB1.out (below_new _ _));clear hra hrb hca hcb;have ea0:wr.cell? ⟨ga,oa+j * 11,none⟩=some (.string K0):=by have:=HCA.out 0 (by simp);rw[show oa+j * 11=oa+11 * j+0 by omega,this];rfl
    have ea1:wr.cell? ⟨ga,oa+j * 11+1,none⟩=some (.bool h0):=by have:=HCA.out 1 (by simp);rw[show oa+j * 11+1=oa+11 * j+1 by omega,this];rfl
    have ea2:wr.cell? ⟨ga,oa+j * 11+2,none⟩=some (.int .i64 k1):=by have:=HCA.out 2 (by simp);rw[show oa+j * 11+2=oa+11 * j+2 by omega,this];rfl
    have ea3:wr.cell? ⟨ga,oa+j * 11+3,none⟩=some (.string S1):=by have:=HCA.out 3 (by simp);rw[show oa+j * 11+3=oa+11 * j+3 by omega,this];rfl
    have ea4:wr.cell? ⟨ga,oa+j * 11+4,none⟩=some (.bool b1):=by have:=HCA.out 4 (by simp);rw[show oa+j * 11+4=oa+11 * j+4 by omega,this];rfl
    have ea5:wr.cell? ⟨ga,oa+j * 11+5,none⟩=some (.int .u64 n1):=by have:=HCA.out 5 (by simp);rw[show oa+j * 11+5=oa+11 * j+5 by omega,this];rfl
    have ea6:wr.cell? ⟨ga,oa+j * 11+6,none⟩=some (.slice l1 ln1 lc1):=by have:=HCA.out 6 (by simp);rw[show oa+j * 11+6=oa+11 * j+6 by omega,this];rfl
    have ea7:wr.cell? ⟨ga,oa+j * 11+7,none⟩=some (.slice m1 mn1 mc1):=by have:=HCA.out 7 (by simp);rw[show oa+j * 11+7=oa+11 * j+7 by omega,this];rfl
    have ea8:wr.cell? ⟨ga,oa+j * 11+8,none⟩=some (.string I1):=by have:=HCA.out 8 (by simp);rw[show oa+j * 11+8=oa+11 * j+8 by omega,this];rfl
    have ea9:wr.cell? ⟨ga,oa+j * 11+9,none⟩=some (.string U1):=by have:=HCA.out 9 (by simp);rw[show oa+j * 11+9=oa+11 * j+9 by omega,this];rfl
    have ea10:wr.cell? ⟨ga,oa+j * 11+10,none⟩=some (.string Y1):=by have:=HCA.out 10 (by simp);rw[show oa+j * 11+10=oa+11 * j+10 by omega,this];rfl
    have eb0:(wr.alloc (.cells #[.string K0,.bool h0,.int .i64 k1,.string S1,.bool b1,.int .u64 n1,.slice l1 ln1 lc1,.slice m1 mn1 mc1,.string I1,.string U1,.string Y1] 65)).cell? ⟨gb,ob+j * 11,none⟩=some (.string K3):=by have:=HCB1.out 0 (by simp);rw[show ob+j * 11=ob+11 * j+0 by omega,this];rfl
    have eb1:(wr.alloc (.cells #[.string K0,.bool h0,.int .i64 k1,.string S1,.bool b1,.int .u64 n1,.slice l1 ln1 lc1,.slice m1 mn1 mc1,.string I1,.string U1,.string Y1] 65)).cell? ⟨gb,ob+j * 11+1,none⟩=some (.bool h2):=by have:=HCB1.out 1 (by simp);rw[show ob+j * 11+1=ob+11 * j+1 by omega,this];rfl
    have eb2:(wr.alloc (.cells #[.string K0,.bool h0,.int .i64 k1,.string S1,.bool b1,.int .u64 n1,.slice l1 ln1 lc1,.slice m1 mn1 mc1,.string I1,.string U1,.string Y1] 65)).cell? ⟨gb,ob+j * 11+2,none⟩=some (.int .i64 k3):=by have:=HCB1.out 2 (by simp);rw[show ob+j * 11+2=ob+11 * j+2 by omega,this];rfl
    have eb3:(wr.alloc (.cells #[.string K0,.bool h0,.int .i64 k1,.string S1,.bool b1,.int .u64 n1,.slice l1 ln1 lc1,.slice m1 mn1 mc1,.string I1,.string U1,.string Y1] 65)).cell? ⟨gb,ob+j * 11+3,none⟩=some (.string S3):=by have:=HCB1.out 3 (by simp);rw[show ob+j * 11+3=ob+11 * j+3 by omega,this];rfl
    have eb4:(wr.alloc (.cells #[.string K0,.bool h0,.int .i64 k1,.string S1,.bool b1,.int .u64 n1,.slice l1 ln1 lc1,.slice m1 mn1 mc1,.string I1,.string U1,.string Y1] 65)).cell? ⟨gb,ob+j * 11+4,none⟩=some (.bool b3):=by have:=HCB1.out 4 (by simp);rw[show ob+j * 11+4=ob+11 * j+4 by omega,this];rfl
    have eb5:(wr.alloc (.cells #[.string K0,.bool h0,.int .i64 k1,.string S1,.bool b1,.int .u64 n1,.slice l1 ln1 lc1,.slice m1 mn1 mc1,.string I1,.string U1,.string Y1] 65)).cell? ⟨gb,ob+j * 11+5,none⟩=some (.int .u64 n3):=by have:=HCB1.out 5 (by simp);rw[show ob+j * 11+5=ob+11 * j+5 by omega,this];rfl
    have eb6:(wr.alloc (.cells #[.string K0,.bool h0,.int .i64 k1,.string S1,.bool b1,.int .u64 n1,.slice l1 ln1 lc1,.slice m1 mn1 mc1,.string I1,.string U1,.string Y1] 65)).cell? ⟨gb,ob+j * 11+6,none⟩=some (.slice l3 ln3 lc3):=by have:=HCB1.out 6 (by simp);rw[show ob+j * 11+6=ob+11 * j+6 by omega,this];rfl
    have eb7:(wr.alloc (.cells #[.string K0,.bool h0,.int .i64 k1,.string S1,.bool b1,.int .u64 n1,.slice l1 ln1 lc1,.slice m1 mn1 mc1,.string I1,.string U1,.string Y1] 65)).cell? ⟨gb,ob+j * 11+7,none⟩=some (.slice m3 mn3 mc3):=by have:=HCB1.out 7 (by simp);rw[show ob+j * 11+7=ob+11 * j+7 by omega,this];rfl
    have eb8:(wr.alloc (.cells #[.string K0,.bool h0,.int .i64 k1,.string S1,.bool b1,.int .u64 n1,.slice l1 ln1 lc1,.slice m1 mn1 mc1,.string I1,.string U1,.string Y1] 65)).cell? ⟨gb,ob+j * 11+8,none⟩=some (.string I3):=by have:=HCB1.out 8 (by simp);rw[show ob+j * 11+8=ob+11 * j+8 by omega,this];rfl
    have eb9:(wr.alloc (.cells #[.string K0,.bool h0,.int .i64 k1,.string S1,.bool b1,.int .u64 n1,.slice l1 ln1 lc1,.slice m1 mn1 mc1,.string I1,.string U1,.string Y1] 65)).cell? ⟨gb,ob+j * 11+9,none⟩=some (.string U3):=by have:=HCB1.out 9 (by simp);rw[show ob+j * 11+9=ob+11 * j+9 by omega,this];rfl
    have eb10:(wr.alloc (.cells #[.string K0,.bool h0,.int .i64 k1,.string S1,.bool b1,.int .u64 n1,.slice l1 ln1 lc1,.slice m1 mn1 mc1,.string I1,.string U1,.string Y1] 65)).cell? ⟨gb,ob+j * 11+10,none⟩=some (.string Y3):=by have:=HCB1.out 10 (by simp);rw[show ob+j * 11+10=ob+11 * j+10 by omega,this];rfl
    go_wp2_with fail;refine ((hk.out l[j] (List.getElem_mem hlt)) m[j] [.string K0,.bool h0,.int .i64 k1,.string S1,.bool b1,.int .u64 n1,.slice l1 ln1 lc1,.slice m1 mn1 mc1,.string I1,.string U1,.string Y1] [.string K3,.bool h2,.int .i64 k3,.string S3,.bool b3,.int .u64 n3,.slice l3 ln3 lc3,.slice m3 mn3 mc3,.string I3,.string U3,.string Y3] P Q _ (kslim_at HLIM.out _ (List.getElem_mem hlt)) (HRA.out.below HB2.out) (HRB.out.below HB2.out)).mono ?_;rintro e w4 ⟨rfl,hb4⟩;obtain ⟨bb,hbb⟩:∃ bb,alike l[j] m[j]=bb:=⟨_,rfl⟩
    have HBB:=hid hbb;rw[hbb];clear hbb;have HBW:=hid (below_step HBR.out (below_step HB2.out hb4));clear hb4 ea0 eb0 ea1 eb1 ea2 eb2 ea3 eb3 ea4 eb4 ea5 eb5 ea6 eb6 ea7 eb7 ea8 eb8 ea9 eb9 ea10 eb10
    cases bb with
    | true =>
     have HE:=hid (alike_iff.1 HBB.out);go_wp2_with fail;have hj:=HJ.out
     go_roundg (gk - 1)
     case measure=>omega
     case rel=>exact ⟨j+1,by simp,by omega,HBW.out,hid (by rw[List.take_succ_eq_append_getElem hlt,List.take_succ_eq_append_getElem hltm,HEQ.out,HE.out])⟩
    | false =>
     have hr:r=false:=by rw[←HR.out];exact alike_no (fun h=>by have:=HBB.out;subst h;rw[alike_yes rfl] at this;cases this)
     subst hr;go_wp2_with fail;go_ret;exact ⟨rfl,HBW.out⟩
   ·have hjn:j=l.length:=by have:=HJ.out;omega
    have hr:r=true:=by
     rw[←HR.out];refine alike_yes ?_;have h:=HEQ.out;rw[hjn,List.take_length,HLEN.out,List.take_length] at h;exact h
    subst hr;clear hjn;go_wp2_with fail;go_ret;exact ⟨rfl,HBR.out⟩
theorem vkeys_step (l:List KV)(hk:Hid (∀ x∈l,SK 50 x)):SKs 19 l:=by
 intro m lo mo lc mc P Q w hl hlim ha hb;have HE:=hid (keqf_step l hk m lo mo lc mc P Q w hl hlim ha hb);clear ha hb hlim hl;go_enter Tryz.func19,Tryz.ntmps19;go_wp2_with fail;refine HE.out.mono ?_;rintro e w1 ⟨rfl,hb1⟩;have HB1:=hid hb1;clear hb1;go_wp2_with fail;go_ret;exact ⟨rfl,HB1.out⟩
theorem vkey_step (key:List UInt8)(has:Bool)(v:Val)(u:List UInt8)(hv:Hid (SV 84 v)):SK 50 (.mk key has v u):=by
 intro y ca cb P Q w hlim ha hb
 cases y with|mk key2 has2 v2 u2 =>
 rw[KRel] at ha hb;rw[klim] at hlim;obtain ⟨ca,hra,rfl⟩:=ha;obtain ⟨cb,hrb,rfl⟩:=hb;have HRA:=hid hra;have HRB:=hid hrb;have HLIM:=hid hlim;obtain ⟨k,S1,b0,n,l1,ln,lc1,m1,mn,mc1,I0,U0,rfl⟩:=hra.form;obtain ⟨k2,S2,b2,n2,l2,ln2,lc2,m2,mn2,mc2,I2,U2,rfl⟩:=hrb.form;clear hra hrb hlim;obtain ⟨KA,hKA⟩:∃ X:ByteArray,(⟨key.toArray⟩:ByteArray)=X:=⟨_,rfl⟩
 obtain ⟨KB,hKB⟩:∃ X:ByteArray,(⟨key2.toArray⟩:ByteArray)=X:=⟨_,rfl⟩
 obtain ⟨UA,hUA⟩:∃ X:ByteArray,(⟨u.toArray⟩:ByteArray)=X:=⟨_,rfl⟩
 obtain ⟨UB,hUB⟩:∃ X:ByteArray,(⟨u2.toArray⟩:ByteArray)=X:=⟨_,rfl⟩
 have h1:KA.data.toList=key:=by rw[←hKA]
 have h2:KB.data.toList=key2:=by rw[←hKB]
 have h3:UA.data.toList=u:=by rw[←hUA]
 have h4:UB.data.toList=u2:=by rw[←hUB]
 show Calls Tryz.prog _ #[.agg #[.string ⟨key.toArray⟩,.bool has,.int .i64 k,.string S1,.bool b0,.int .u64 n,.slice l1 ln lc1,.slice m1 mn mc1,.string I0,.string U0,.string ⟨u.toArray⟩],.agg #[.string ⟨key2.toArray⟩,.bool has2,.int .i64 k2,.string S2,.bool b2,.int .u64 n2,.slice l2 ln2 lc2,.slice m2 mn2 mc2,.string I2,.string U2,.string ⟨u2.toArray⟩]] w _
 rw[hKA,hKB,hUA,hUB];clear hKA hKB hUA hUB;have HB0:Hid (Below w.heap.size w ((w.alloc (.cells #[.string KA,.bool has,.int .i64 k,.string S1,.bool b0,.int .u64 n,.slice l1 ln lc1,.slice m1 mn mc1,.string I0,.string U0,.string UA] 65)).alloc (.cells #[.string KB,.bool has2,.int .i64 k2,.string S2,.bool b2,.int .u64 n2,.slice l2 ln2 lc2,.slice m2 mn2 mc2,.string I2,.string U2,.string UB] 65))):=hid (below_step (below_new _ _) (below_new _ _))
 by_cases e1:key=key2
 case neg =>
  have d1:=(text_ne h1 h2 e1).2;rw[alike_no (fun h=>e1 (by simp only[KV.mk.injEq] at h;exact h.1))];clear e1 h1 h2 h3 h4;go_enter Tryz.func50,Tryz.ntmps50;go_wp2_with fail;go_ret;exact ⟨rfl,HB0.out⟩
 case pos =>
 obtain rfl:=ba_same h1 h2 e1
 by_cases e2:has=has2
 case neg =>
  have d1:(has == has2)=false:=by rw[beq_eq_false_iff_ne];exact e2
  rw[alike_no (fun h=>e2 (by simp only[KV.mk.injEq] at h;exact h.2.1))];clear e1 e2 h1 h2 h3 h4;go_enter Tryz.func50,Tryz.ntmps50;go_wp2_with fail;go_ret;exact ⟨rfl,HB0.out⟩
 case pos =>
 subst e2
 by_cases e3:u=u2
 case neg =>
  have d1:=(text_ne h3 h4 e3).2;rw[alike_no (fun h=>e3 (by simp only[KV.mk.injEq] at h;exact h.2.2.2))];clear e1 e3 h1 h2 h3 h4;go_enter Tryz.func50,Tryz.ntmps50;go_wp2_with fail;go_ret;exact ⟨rfl,HB0.out⟩
 case pos =>
 obtain rfl:=ba_same h3 h4 e3
 have hr:alike (KV.mk key has v u) (KV.mk key2 has v2 u2)=alike v v2:=by
  subst e1 e3
  by_cases h:v=v2
  ·rw[alike_yes h,alike_yes (by rw[h])]
  ·rw[alike_no h,alike_no (fun e=>h (by simp only[KV.mk.injEq] at e;exact e.2.2.1))]
 rw[hr];have d0:(has == has)=true:=by simp
 clear hr e1 e3 h1 h2 h3 h4;go_enter Tryz.func50,Tryz.ntmps50;go_wp2_with fail;refine (hv.out v2 [.int .i64 k,.string S1,.bool b0,.int .u64 n,.slice l1 ln lc1,.slice m1 mn mc1,.string I0,.string U0] [.int .i64 k2,.string S2,.bool b2,.int .u64 n2,.slice l2 ln2 lc2,.slice m2 mn2 mc2,.string I2,.string U2] P Q _ HLIM.out (HRA.out.below HB0.out) (HRB.out.below HB0.out)).mono ?_;rintro e w4 ⟨rfl,hb4⟩;have HB4:=hid (below_step HB0.out hb4);clear hb4;go_wp2_with fail;go_ret;exact ⟨rfl,HB4.out⟩
theorem uval_step (k:Int)(s:List UInt8)(b0:Bool)(n:Nat)(l:List Val)(m:List KV)(i u:List UInt8)(hv:Hid (∀ x∈l,SV 84 x))(hk:Hid (SKs 19 m)):SV 84 (.mk k s b0 n l m i u):=by
 intro y ca cb P Q w hlim ha hb
 cases y with|mk k2 s2 b2 n2 l2 m2 i2 u2 =>
 rw[VRel] at ha hb;rw[vlim] at hlim;obtain ⟨hl1,hl2,hl3,hl4⟩:=hlim;obtain ⟨lo,lc,mo,mc,rfl,hal,ham⟩:=ha;obtain ⟨lo2,lc2,mo2,mc2,rfl,hbl,hbm⟩:=hb;have HAL:=hid hal;have HAM:=hid ham;have HBL:=hid hbl;have HBM:=hid hbm;have HLV:=hid hl3;have HLK:=hid hl4;clear hal ham hbl hbm hl3 hl4;obtain ⟨SA,hSA⟩:∃ X:ByteArray,(⟨s.toArray⟩:ByteArray)=X:=⟨_,rfl⟩
 obtain ⟨SB,hSB⟩:∃ X:ByteArray,(⟨s2.toArray⟩:ByteArray)=X:=⟨_,rfl⟩
 obtain ⟨IA,hIA⟩:∃ X:ByteArray,(⟨i.toArray⟩:ByteArray)=X:=⟨_,rfl⟩
 obtain ⟨IB,hIB⟩:∃ X:ByteArray,(⟨i2.toArray⟩:ByteArray)=X:=⟨_,rfl⟩
 obtain ⟨UA,hUA⟩:∃ X:ByteArray,(⟨u.toArray⟩:ByteArray)=X:=⟨_,rfl⟩
 obtain ⟨UB,hUB⟩:∃ X:ByteArray,(⟨u2.toArray⟩:ByteArray)=X:=⟨_,rfl⟩
 have t1:SA.data.toList=s:=by rw[←hSA]
 have t2:SB.data.toList=s2:=by rw[←hSB]
 have t3:IA.data.toList=i:=by rw[←hIA]
 have t4:IB.data.toList=i2:=by rw[←hIB]
 have t5:UA.data.toList=u:=by rw[←hUA]
 have t6:UB.data.toList=u2:=by rw[←hUB]
 show Calls Tryz.prog _ #[.agg #[.int .i64 k,.string ⟨s.toArray⟩,.bool b0,.int .u64 n,.slice lo l.length lc,.slice mo m.length mc,.string ⟨i.toArray⟩,.string ⟨u.toArray⟩],.agg #[.int .i64 k2,.string ⟨s2.toArray⟩,.bool b2,.int .u64 n2,.slice lo2 l2.length lc2,.slice mo2 m2.length mc2,.string ⟨i2.toArray⟩,.string ⟨u2.toArray⟩]] w _
 rw[hSA,hSB,hIA,hIB,hUA,hUB];clear hSA hSB hIA hIB hUA hUB;have HB0:Hid (Below w.heap.size w ((w.alloc (.cells #[.int .i64 k,.string SA,.bool b0,.int .u64 n,.slice lo l.length lc,.slice mo m.length mc,.string IA,.string UA] 63)).alloc (.cells #[.int .i64 k2,.string SB,.bool b2,.int .u64 n2,.slice lo2 l2.length lc2,.slice mo2 m2.length mc2,.string IB,.string UB] 63))):=hid (below_step (below_new _ _) (below_new _ _))
 by_cases e1:k=k2
 case neg =>
  have d1:(k == k2)=false:=by rw[beq_eq_false_iff_ne];exact e1
  rw[alike_no (fun h=>e1 (by simp only[Val.mk.injEq] at h;exact h.1))];clear t1 t2 t3 t4 t5 t6 e1;go_enter Tryz.func84,Tryz.ntmps84;go_wp2_with fail;go_ret;exact ⟨rfl,HB0.out⟩
 case pos =>
 subst e1
 by_cases e2:s=s2
 case neg =>
  have d1:=(text_ne3 t1 t2 e2)
  rw[alike_no (fun h=>e2 (by simp only[Val.mk.injEq] at h;exact h.2.1))];clear t1 t2 t3 t4 t5 t6 e2;go_enter Tryz.func84,Tryz.ntmps84;go_wp2_with fail;go_ret;exact ⟨rfl,HB0.out⟩
 case pos =>
 obtain rfl:=ba_same t1 t2 e2
 by_cases e3:b0=b2
 case neg =>
  have d1:¬b0=b2:=by exact e3
  rw[alike_no (fun h=>e3 (by simp only[Val.mk.injEq] at h;exact h.2.2.1))];clear t1 t2 t3 t4 t5 t6 e2 e3;go_enter Tryz.func84,Tryz.ntmps84;go_wp2_with fail;go_ret;exact ⟨rfl,HB0.out⟩
 case pos =>
 subst e3
 by_cases e4:n=n2
 case neg =>
  have d1:((n:Int) == (n2:Int))=false:=by rw[beq_eq_false_iff_ne];omega
  rw[alike_no (fun h=>e4 (by simp only[Val.mk.injEq] at h;exact h.2.2.2.1))];clear t1 t2 t3 t4 t5 t6 e2 e4;go_enter Tryz.func84,Tryz.ntmps84;go_wp2_with fail;go_ret;exact ⟨rfl,HB0.out⟩
 case pos =>
 subst e4
 by_cases e5:i=i2
 case neg =>
  have d1:=(text_ne3 t3 t4 e5)
  rw[alike_no (fun h=>e5 (by simp only[Val.mk.injEq] at h;exact h.2.2.2.2.2.2.1))];clear t1 t2 t3 t4 t5 t6 e2 e5;go_enter Tryz.func84,Tryz.ntmps84;go_wp2_with fail;go_ret;exact ⟨rfl,HB0.out⟩
 case pos =>
 obtain rfl:=ba_same t3 t4 e5
 by_cases e6:u=u2
 case neg =>
  have d1:=(text_ne3 t5 t6 e6)
  rw[alike_no (fun h=>e6 (by simp only[Val.mk.injEq] at h;exact h.2.2.2.2.2.2.2))];clear t1 t2 t3 t4 t5 t6 e2 e5 e6;go_enter Tryz.func84,Tryz.ntmps84;go_wp2_with fail;go_ret;exact ⟨rfl,HB0.out⟩
 case pos =>
 obtain rfl:=ba_same t5 t6 e6;have d2:(k == k)=true:=by simp
 have d4:((n:Int) == (n:Int))=true:=by simp
 have HEQ:Hid (s=s2∧i=i2∧u=u2):=hid ⟨e2,e5,e6⟩;clear t1 t2 t3 t4 t5 t6 e2 e5 e6;obtain ⟨r,HR⟩:∃ r,Hid (alike (Val.mk k s b0 n l m i u) (Val.mk k s2 b0 n l2 m2 i2 u2)=r):=⟨_,hid rfl⟩
 rw[HR.out];go_enter Tryz.func84,Tryz.ntmps84;go_wp2_with fail;refine (veqf_step l hv l2 lo lo2 lc lc2 P Q _ hl1 HLV.out (HAL.out.below HB0.out) (HBL.out.below HB0.out)).mono ?_;rintro e w1 ⟨rfl,hb1⟩;have HB1:=hid (below_step HB0.out hb1);have HB1x:=hid hb1;clear hb1;obtain ⟨bl,hbl⟩:∃ bb,alike l l2=bb:=⟨_,rfl⟩
 have HBLL:=hid hbl;rw[hbl];clear hbl
 cases bl with
 | false =>
  have hr:r=false:=by rw[←HR.out];exact alike_no (fun h=>by simp only[Val.mk.injEq] at h;have:=HBLL.out;rw[alike_yes h.2.2.2.2.1] at this;cases this)
  subst hr;go_wp2_with fail;go_ret;exact ⟨rfl,HB1.out⟩
 | true =>
  have HL:=hid (alike_iff.1 HBLL.out);have hxa:w1.cell? ⟨w.heap.size,5,none⟩=some (.slice mo m.length mc):=row_cell (cs:=#[.int .i64 k,.string SA,.bool b0,.int .u64 n,.slice lo l.length lc,.slice mo m.length mc,.string IA,.string UA]) (T:=63) ((HB1x.out.block _ (by simp<;>omega)).trans ((Below.heap_alloc _ _ _ (by simp)).trans (heap_alloc_new w _))) (j:=5) rfl;have hxb:w1.cell? ⟨w.heap.size+1,5,none⟩=some (.slice mo2 m2.length mc2):=row_cell (cs:=#[.int .i64 k,.string SA,.bool b0,.int .u64 n,.slice lo2 l2.length lc2,.slice mo2 m2.length mc2,.string IA,.string UA]) (T:=63) ((HB1x.out.block _ (by simp<;>omega)).trans (by have:=heap_alloc_new (w.alloc (.cells #[.int .i64 k,.string SA,.bool b0,.int .u64 n,.slice lo l.length lc,.slice mo m.length mc,.string IA,.string UA] 63)) (.cells #[.int .i64 k,.string SA,.bool b0,.int .u64 n,.slice lo2 l2.length lc2,.slice mo2 m2.length mc2,.string IA,.string UA] 63);simpa using this)) (j:=5) rfl;go_wp2_with fail;refine (hk.out m2 mo mo2 mc mc2 P Q w1 hl2 HLK.out (HAM.out.below HB1.out) (HBM.out.below HB1.out)).mono ?_;rintro e w2 ⟨rfl,hb2⟩;have HB2:=hid (below_step HB1.out hb2);clear hb2
  have hr:alike m m2=r:=by
   rw[←HR.out]
   by_cases h:m=m2
   ·rw[alike_yes h,alike_yes (by rw[HL.out,h,HEQ.out.1,HEQ.out.2.1,HEQ.out.2.2])]
   ·rw[alike_no h,alike_no (fun e=>h (by simp only[Val.mk.injEq] at e;exact e.2.2.2.2.2.1))]
  rw[hr];clear hr;go_wp2_with fail;go_ret;exact ⟨rfl,HB2.out⟩
theorem usame_all:∀ n:Nat,(∀ x:Val,SizeOf.sizeOf x<n→SV 84 x)∧(∀ x:KV,SizeOf.sizeOf x<n→SK 50 x)∧(∀ l:List KV,SizeOf.sizeOf l<n→SKs 19 l)
 | 0=>⟨fun _ h=>by omega,fun _ h=>by omega,fun _ h=>by omega⟩
 | n+1=>by
  obtain ⟨i1,i2,i3⟩:=usame_all n;refine ⟨fun x h=>?_,fun x h=>?_,fun l h=>?_⟩
  ·cases x with|mk k s b n0 l m i u =>
   simp only[Val.mk.sizeOf_spec] at h
   exact uval_step k s b n0 l m i u (hid fun x hx=>i1 x (by have:=List.sizeOf_lt_of_mem hx;omega)) (hid (i3 m (by omega)))
  ·cases x with|mk key has v u =>
   simp only[KV.mk.sizeOf_spec] at h
   exact vkey_step key has v u (hid (i1 v (by omega)))
  ·exact vkeys_step l (hid fun x hx=>i2 x (by have:=List.sizeOf_lt_of_mem hx;omega))
theorem keys_same (l:List KV):SKs 19 l:=(usame_all (SizeOf.sizeOf l+1)).2.2 l (by omega)
end Go.Proofs.YtficgfemmijaaaaGreat
