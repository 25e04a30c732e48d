/-
 hygref.Value, Key, Keys: are any two alike?
-/
import Derived.Test.YtcblkndiclkacaaDoorAlikeB
import Derived.Test.YtcblkndiclkacaaDoorMsgMath
import Derived.Test.YtcblkndiclkacaaDoorWireRA
import Derived.Test.YtcblkndiclkacaaDoorMsgRead
import Derived.Test.YtcblkndiclkacaaDoorGet
import Derived.Test.YtcblkndiclkacaaDoorMsgWrite
import Derived.Test.YtcblkndiclkacaaDoorOrd
set_option maxRecDepth 1000000
set_option maxHeartbeats 16000000
namespace Go.Proofs.YtcblkndiclkacaaDoor
open Go.RowKit
theorem hkeys_step (l:List KV) (hk:Hid (∀ x∈l,SK 84 x)):SKs 54 l:=by
 intro m lo mo lc mc P Q w hl hlim ha hb
 have HA:=Lib.hid ha
 have HB:=Lib.hid hb
 have HLIM:=Lib.hid hlim
 clear ha hb hlim
 by_cases hlen:l.length=m.length
 case neg =>
  have HR:Hid (alike l m=false):=Lib.hid (alike_no fun h=>hlen (by rw[h]))
  have d1:((l.length:Int) != (m.length:Int))=true:=by rw[bne_iff_ne];omega
  rw[HR.out]
  clear hlen
  go_enter Tryd.func54,Tryd.ntmps54
  go_wp2_with fail
  go_ret
  exact ⟨rfl,Below.refl _ _⟩
 case pos =>
  obtain ⟨r,HR⟩:∃ r,Hid (alike l m=r):=⟨_,Lib.hid rfl⟩
  rw[HR.out]
  have d1:((l.length:Int) != (m.length:Int))=false:=by rw[bne_eq_false_iff_eq];omega
  have HLEN:=Lib.hid hlen
  clear hlen
  go_enter Tryd.func54,Tryd.ntmps54
  go_wp2_with fail
  go_loopg [5] l.length (fun k i wr=>∃ j:Nat,i = .int .i64 (j:Int)∧j+k=l.length∧Below w.heap.size w wr∧Hid (l.take j=m.take j))
  case atStart=>exact ⟨0,rfl,by omega,Below.refl _ _,Lib.hid rfl⟩
  case round =>
   obtain ⟨j,rfl,hj,hbr,HEQ⟩:=hrel
   have HBR:=Lib.hid hbr
   have HJ:=Lib.hid hj
   clear hbr hj
   by_cases hlt:j<l.length
   ·have hltm:j<m.length:=by have:=HLEN.out;omega
    obtain ⟨ga,oa,ca,rfl,hga,hca,hra⟩:=krels_at0 (HA.out.below HBR.out) j hlt
    obtain ⟨gb,ob,cb,rfl,hgb,hcb,hrb⟩:=krels_at0 (HB.out.below HBR.out) j hltm
    have HRA:=Lib.hid hra
    have HRB:=Lib.hid hrb
    obtain ⟨K0,h0,k,S1,b0,n,l1,ln,lc1,m1,mn,mc1,I0,U0,U1,rfl⟩:=hra.form
    obtain ⟨K3,h2,k2,S2,b2,n2,l2,ln2,lc2,m2,mn2,mc2,I2,U2,U3,rfl⟩:=hrb.form
    have HCA:=Lib.hid hca
    have HCB:=Lib.hid hcb
    clear hra hrb hca hcb
    go_wp2_with fail
    have ea0:∀ a:World,Two a ga (oa+11 * j) [.string K0,.bool h0,.int .i64 k,.string S1,.bool b0,.int .u64 n,.slice l1 ln lc1,.slice m1 mn mc1,.string I0,.string U0,.string U1] gb (ob+11 * j) [.string K3,.bool h2,.int .i64 k2,.string S2,.bool b2,.int .u64 n2,.slice l2 ln2 lc2,.slice m2 mn2 mc2,.string I2,.string U2,.string U3]→a.cell? ⟨ga,oa+j * 11,none⟩=some (.string K0):=fun a ha=>by have:=ha.1 0 (by simp);rw[show oa+j * 11=oa+11 * j+0 by omega,this];rfl
    have eb0:∀ a:World,Two a ga (oa+11 * j) [.string K0,.bool h0,.int .i64 k,.string S1,.bool b0,.int .u64 n,.slice l1 ln lc1,.slice m1 mn mc1,.string I0,.string U0,.string U1] gb (ob+11 * j) [.string K3,.bool h2,.int .i64 k2,.string S2,.bool b2,.int .u64 n2,.slice l2 ln2 lc2,.slice m2 mn2 mc2,.string I2,.string U2,.string U3]→a.cell? ⟨gb,ob+j * 11,none⟩=some (.string K3):=fun a ha=>by have:=ha.2 0 (by simp);rw[show ob+j * 11=ob+11 * j+0 by omega,this];rfl
    have ea1:∀ a:World,Two a ga (oa+11 * j) [.string K0,.bool h0,.int .i64 k,.string S1,.bool b0,.int .u64 n,.slice l1 ln lc1,.slice m1 mn mc1,.string I0,.string U0,.string U1] gb (ob+11 * j) [.string K3,.bool h2,.int .i64 k2,.string S2,.bool b2,.int .u64 n2,.slice l2 ln2 lc2,.slice m2 mn2 mc2,.string I2,.string U2,.string U3]→a.cell? ⟨ga,oa+j * 11+1,none⟩=some (.bool h0):=fun a ha=>by have:=ha.1 1 (by simp);rw[show oa+j * 11+1=oa+11 * j+1 by omega,this];rfl
    have eb1:∀ a:World,Two a ga (oa+11 * j) [.string K0,.bool h0,.int .i64 k,.string S1,.bool b0,.int .u64 n,.slice l1 ln lc1,.slice m1 mn mc1,.string I0,.string U0,.string U1] gb (ob+11 * j) [.string K3,.bool h2,.int .i64 k2,.string S2,.bool b2,.int .u64 n2,.slice l2 ln2 lc2,.slice m2 mn2 mc2,.string I2,.string U2,.string U3]→a.cell? ⟨gb,ob+j * 11+1,none⟩=some (.bool h2):=fun a ha=>by have:=ha.2 1 (by simp);rw[show ob+j * 11+1=ob+11 * j+1 by omega,this];rfl
    have ea2:∀ a:World,Two a ga (oa+11 * j) [.string K0,.bool h0,.int .i64 k,.string S1,.bool b0,.int .u64 n,.slice l1 ln lc1,.slice m1 mn mc1,.string I0,.string U0,.string U1] gb (ob+11 * j) [.string K3,.bool h2,.int .i64 k2,.string S2,.bool b2,.int .u64 n2,.slice l2 ln2 lc2,.slice m2 mn2 mc2,.string I2,.string U2,.string U3]→a.cell? ⟨ga,oa+j * 11+2,none⟩=some (.int .i64 k):=fun a ha=>by have:=ha.1 2 (by simp);rw[show oa+j * 11+2=oa+11 * j+2 by omega,this];rfl
    have eb2:∀ a:World,Two a ga (oa+11 * j) [.string K0,.bool h0,.int .i64 k,.string S1,.bool b0,.int .u64 n,.slice l1 ln lc1,.slice m1 mn mc1,.string I0,.string U0,.string U1] gb (ob+11 * j) [.string K3,.bool h2,.int .i64 k2,.string S2,.bool b2,.int .u64 n2,.slice l2 ln2 lc2,.slice m2 mn2 mc2,.string I2,.string U2,.string U3]→a.cell? ⟨gb,ob+j * 11+2,none⟩=some (.int .i64 k2):=fun a ha=>by have:=ha.2 2 (by simp);rw[show ob+j * 11+2=ob+11 * j+2 by omega,this];rfl
    have ea3:∀ a:World,Two a ga (oa+11 * j) [.string K0,.bool h0,.int .i64 k,.string S1,.bool b0,.int .u64 n,.slice l1 ln lc1,.slice m1 mn mc1,.string I0,.string U0,.string U1] gb (ob+11 * j) [.string K3,.bool h2,.int .i64 k2,.string S2,.bool b2,.int .u64 n2,.slice l2 ln2 lc2,.slice m2 mn2 mc2,.string I2,.string U2,.string U3]→a.cell? ⟨ga,oa+j * 11+3,none⟩=some (.string S1):=fun a ha=>by have:=ha.1 3 (by simp);rw[show oa+j * 11+3=oa+11 * j+3 by omega,this];rfl
    have eb3:∀ a:World,Two a ga (oa+11 * j) [.string K0,.bool h0,.int .i64 k,.string S1,.bool b0,.int .u64 n,.slice l1 ln lc1,.slice m1 mn mc1,.string I0,.string U0,.string U1] gb (ob+11 * j) [.string K3,.bool h2,.int .i64 k2,.string S2,.bool b2,.int .u64 n2,.slice l2 ln2 lc2,.slice m2 mn2 mc2,.string I2,.string U2,.string U3]→a.cell? ⟨gb,ob+j * 11+3,none⟩=some (.string S2):=fun a ha=>by have:=ha.2 3 (by simp);rw[show ob+j * 11+3=ob+11 * j+3 by omega,this];rfl
    have ea4:∀ a:World,Two a ga (oa+11 * j) [.string K0,.bool h0,.int .i64 k,.string S1,.bool b0,.int .u64 n,.slice l1 ln lc1,.slice m1 mn mc1,.string I0,.string U0,.string U1] gb (ob+11 * j) [.string K3,.bool h2,.int .i64 k2,.string S2,.bool b2,.int .u64 n2,.slice l2 ln2 lc2,.slice m2 mn2 mc2,.string I2,.string U2,.string U3]→a.cell? ⟨ga,oa+j * 11+4,none⟩=some (.bool b0):=fun a ha=>by have:=ha.1 4 (by simp);rw[show oa+j * 11+4=oa+11 * j+4 by omega,this];rfl
    have eb4:∀ a:World,Two a ga (oa+11 * j) [.string K0,.bool h0,.int .i64 k,.string S1,.bool b0,.int .u64 n,.slice l1 ln lc1,.slice m1 mn mc1,.string I0,.string U0,.string U1] gb (ob+11 * j) [.string K3,.bool h2,.int .i64 k2,.string S2,.bool b2,.int .u64 n2,.slice l2 ln2 lc2,.slice m2 mn2 mc2,.string I2,.string U2,.string U3]→a.cell? ⟨gb,ob+j * 11+4,none⟩=some (.bool b2):=fun a ha=>by have:=ha.2 4 (by simp);rw[show ob+j * 11+4=ob+11 * j+4 by omega,this];rfl
    have ea5:∀ a:World,Two a ga (oa+11 * j) [.string K0,.bool h0,.int .i64 k,.string S1,.bool b0,.int .u64 n,.slice l1 ln lc1,.slice m1 mn mc1,.string I0,.string U0,.string U1] gb (ob+11 * j) [.string K3,.bool h2,.int .i64 k2,.string S2,.bool b2,.int .u64 n2,.slice l2 ln2 lc2,.slice m2 mn2 mc2,.string I2,.string U2,.string U3]→a.cell? ⟨ga,oa+j * 11+5,none⟩=some (.int .u64 n):=fun a ha=>by have:=ha.1 5 (by simp);rw[show oa+j * 11+5=oa+11 * j+5 by omega,this];rfl
    have eb5:∀ a:World,Two a ga (oa+11 * j) [.string K0,.bool h0,.int .i64 k,.string S1,.bool b0,.int .u64 n,.slice l1 ln lc1,.slice m1 mn mc1,.string I0,.string U0,.string U1] gb (ob+11 * j) [.string K3,.bool h2,.int .i64 k2,.string S2,.bool b2,.int .u64 n2,.slice l2 ln2 lc2,.slice m2 mn2 mc2,.string I2,.string U2,.string U3]→a.cell? ⟨gb,ob+j * 11+5,none⟩=some (.int .u64 n2):=fun a ha=>by have:=ha.2 5 (by simp);rw[show ob+j * 11+5=ob+11 * j+5 by omega,this];rfl
    have ea6:∀ a:World,Two a ga (oa+11 * j) [.string K0,.bool h0,.int .i64 k,.string S1,.bool b0,.int .u64 n,.slice l1 ln lc1,.slice m1 mn mc1,.string I0,.string U0,.string U1] gb (ob+11 * j) [.string K3,.bool h2,.int .i64 k2,.string S2,.bool b2,.int .u64 n2,.slice l2 ln2 lc2,.slice m2 mn2 mc2,.string I2,.string U2,.string U3]→a.cell? ⟨ga,oa+j * 11+6,none⟩=some (.slice l1 ln lc1):=fun a ha=>by have:=ha.1 6 (by simp);rw[show oa+j * 11+6=oa+11 * j+6 by omega,this];rfl
    have eb6:∀ a:World,Two a ga (oa+11 * j) [.string K0,.bool h0,.int .i64 k,.string S1,.bool b0,.int .u64 n,.slice l1 ln lc1,.slice m1 mn mc1,.string I0,.string U0,.string U1] gb (ob+11 * j) [.string K3,.bool h2,.int .i64 k2,.string S2,.bool b2,.int .u64 n2,.slice l2 ln2 lc2,.slice m2 mn2 mc2,.string I2,.string U2,.string U3]→a.cell? ⟨gb,ob+j * 11+6,none⟩=some (.slice l2 ln2 lc2):=fun a ha=>by have:=ha.2 6 (by simp);rw[show ob+j * 11+6=ob+11 * j+6 by omega,this];rfl
    have ea7:∀ a:World,Two a ga (oa+11 * j) [.string K0,.bool h0,.int .i64 k,.string S1,.bool b0,.int .u64 n,.slice l1 ln lc1,.slice m1 mn mc1,.string I0,.string U0,.string U1] gb (ob+11 * j) [.string K3,.bool h2,.int .i64 k2,.string S2,.bool b2,.int .u64 n2,.slice l2 ln2 lc2,.slice m2 mn2 mc2,.string I2,.string U2,.string U3]→a.cell? ⟨ga,oa+j * 11+7,none⟩=some (.slice m1 mn mc1):=fun a ha=>by have:=ha.1 7 (by simp);rw[show oa+j * 11+7=oa+11 * j+7 by omega,this];rfl
    have eb7:∀ a:World,Two a ga (oa+11 * j) [.string K0,.bool h0,.int .i64 k,.string S1,.bool b0,.int .u64 n,.slice l1 ln lc1,.slice m1 mn mc1,.string I0,.string U0,.string U1] gb (ob+11 * j) [.string K3,.bool h2,.int .i64 k2,.string S2,.bool b2,.int .u64 n2,.slice l2 ln2 lc2,.slice m2 mn2 mc2,.string I2,.string U2,.string U3]→a.cell? ⟨gb,ob+j * 11+7,none⟩=some (.slice m2 mn2 mc2):=fun a ha=>by have:=ha.2 7 (by simp);rw[show ob+j * 11+7=ob+11 * j+7 by omega,this];rfl
    have ea8:∀ a:World,Two a ga (oa+11 * j) [.string K0,.bool h0,.int .i64 k,.string S1,.bool b0,.int .u64 n,.slice l1 ln lc1,.slice m1 mn mc1,.string I0,.string U0,.string U1] gb (ob+11 * j) [.string K3,.bool h2,.int .i64 k2,.string S2,.bool b2,.int .u64 n2,.slice l2 ln2 lc2,.slice m2 mn2 mc2,.string I2,.string U2,.string U3]→a.cell? ⟨ga,oa+j * 11+8,none⟩=some (.string I0):=fun a ha=>by have:=ha.1 8 (by simp);rw[show oa+j * 11+8=oa+11 * j+8 by omega,this];rfl
    have eb8:∀ a:World,Two a ga (oa+11 * j) [.string K0,.bool h0,.int .i64 k,.string S1,.bool b0,.int .u64 n,.slice l1 ln lc1,.slice m1 mn mc1,.string I0,.string U0,.string U1] gb (ob+11 * j) [.string K3,.bool h2,.int .i64 k2,.string S2,.bool b2,.int .u64 n2,.slice l2 ln2 lc2,.slice m2 mn2 mc2,.string I2,.string U2,.string U3]→a.cell? ⟨gb,ob+j * 11+8,none⟩=some (.string I2):=fun a ha=>by have:=ha.2 8 (by simp);rw[show ob+j * 11+8=ob+11 * j+8 by omega,this];rfl
    have ea9:∀ a:World,Two a ga (oa+11 * j) [.string K0,.bool h0,.int .i64 k,.string S1,.bool b0,.int .u64 n,.slice l1 ln lc1,.slice m1 mn mc1,.string I0,.string U0,.string U1] gb (ob+11 * j) [.string K3,.bool h2,.int .i64 k2,.string S2,.bool b2,.int .u64 n2,.slice l2 ln2 lc2,.slice m2 mn2 mc2,.string I2,.string U2,.string U3]→a.cell? ⟨ga,oa+j * 11+9,none⟩=some (.string U0):=fun a ha=>by have:=ha.1 9 (by simp);rw[show oa+j * 11+9=oa+11 * j+9 by omega,this];rfl
    have eb9:∀ a:World,Two a ga (oa+11 * j) [.string K0,.bool h0,.int .i64 k,.string S1,.bool b0,.int .u64 n,.slice l1 ln lc1,.slice m1 mn mc1,.string I0,.string U0,.string U1] gb (ob+11 * j) [.string K3,.bool h2,.int .i64 k2,.string S2,.bool b2,.int .u64 n2,.slice l2 ln2 lc2,.slice m2 mn2 mc2,.string I2,.string U2,.string U3]→a.cell? ⟨gb,ob+j * 11+9,none⟩=some (.string U2):=fun a ha=>by have:=ha.2 9 (by simp);rw[show ob+j * 11+9=ob+11 * j+9 by omega,this];rfl
    have ea10:∀ a:World,Two a ga (oa+11 * j) [.string K0,.bool h0,.int .i64 k,.string S1,.bool b0,.int .u64 n,.slice l1 ln lc1,.slice m1 mn mc1,.string I0,.string U0,.string U1] gb (ob+11 * j) [.string K3,.bool h2,.int .i64 k2,.string S2,.bool b2,.int .u64 n2,.slice l2 ln2 lc2,.slice m2 mn2 mc2,.string I2,.string U2,.string U3]→a.cell? ⟨ga,oa+j * 11+10,none⟩=some (.string U1):=fun a ha=>by have:=ha.1 10 (by simp);rw[show oa+j * 11+10=oa+11 * j+10 by omega,this];rfl
    have eb10:∀ a:World,Two a ga (oa+11 * j) [.string K0,.bool h0,.int .i64 k,.string S1,.bool b0,.int .u64 n,.slice l1 ln lc1,.slice m1 mn mc1,.string I0,.string U0,.string U1] gb (ob+11 * j) [.string K3,.bool h2,.int .i64 k2,.string S2,.bool b2,.int .u64 n2,.slice l2 ln2 lc2,.slice m2 mn2 mc2,.string I2,.string U2,.string U3]→a.cell? ⟨gb,ob+j * 11+10,none⟩=some (.string U3):=fun a ha=>by have:=ha.2 10 (by simp);rw[show ob+j * 11+10=ob+11 * j+10 by omega,this];rfl
    obtain ⟨D,hD⟩:∃ D,wr.drew=D:=⟨_,rfl⟩
    have HBD:Hid (Below wr.heap.size wr D):=Lib.hid (by rw[←hD];exact (Below.refl _ _).drew)
    have hS:Two D ga (oa+11 * j) [.string K0,.bool h0,.int .i64 k,.string S1,.bool b0,.int .u64 n,.slice l1 ln lc1,.slice m1 mn mc1,.string I0,.string U0,.string U1] gb (ob+11 * j) [.string K3,.bool h2,.int .i64 k2,.string S2,.bool b2,.int .u64 n2,.slice l2 ln2 lc2,.slice m2 mn2 mc2,.string I2,.string U2,.string U3]:=⟨HCA.out.below HBD.out hga,HCB.out.below HBD.out hgb⟩
    have hne:Nonempty {w':World // Two w' ga (oa+11 * j) [.string K0,.bool h0,.int .i64 k,.string S1,.bool b0,.int .u64 n,.slice l1 ln lc1,.slice m1 mn mc1,.string I0,.string U0,.string U1] gb (ob+11 * j) [.string K3,.bool h2,.int .i64 k2,.string S2,.bool b2,.int .u64 n2,.slice l2 ln2 lc2,.slice m2 mn2 mc2,.string I2,.string U2,.string U3]}:=⟨⟨_,hS⟩⟩
    refine wp_region_seq (S:=fun w'=>Two w' ga (oa+11 * j) [.string K0,.bool h0,.int .i64 k,.string S1,.bool b0,.int .u64 n,.slice l1 ln lc1,.slice m1 mn mc1,.string I0,.string U0,.string U1] gb (ob+11 * j) [.string K3,.bool h2,.int .i64 k2,.string S2,.bool b2,.int .u64 n2,.slice l2 ln2 lc2,.slice m2 mn2 mc2,.string I2,.string U2,.string U3]) [(0,true),(1,true),(2,true),(3,true),(4,true),(5,true),(6,true),(7,true),(8,false),(9,true)] (by kernel_rfl) (by kernel_rfl) (by kernel_rfl) (by kernel_rfl) (by rw[hD];exact hS) ?_
    rw[hD]
    clear hD
    iterate 2 (refine seq_take _ rfl (fun K2 hK=>?_);go_simp;(first|refine hK _ ?_|refine ⟨_,fun _ _=>rfl,hK _ ?_⟩);clear hK K2)
    refine seq_take _ rfl (fun K2 hK=>?_);go_simp
    (first|refine hK _ ?_|refine ⟨.pointer (some ⟨ga,oa+j * 11,none⟩),fun _ _=>if_pos (by omega),hK _ ?_⟩)
    clear hK K2
    refine seq_take _ rfl (fun K2 hK=>?_);go_simp
    refine ⟨.agg #[.string K0,.bool h0,.int .i64 k,.string S1,.bool b0,.int .u64 n,.slice l1 ln lc1,.slice m1 mn mc1,.string I0,.string U0,.string U1],fun a ha=>by simp only[ea0 a ha,ea1 a ha,ea2 a ha,ea3 a ha,ea4 a ha,ea5 a ha,ea6 a ha,ea7 a ha,ea8 a ha,ea9 a ha,ea10 a ha,Result.andThen],hK _ ?_⟩
    clear hK K2
    iterate 2 (refine seq_take _ rfl (fun K2 hK=>?_);go_simp;(first|refine hK _ ?_|refine ⟨_,fun _ _=>rfl,hK _ ?_⟩);clear hK K2)
    refine seq_take _ rfl (fun K2 hK=>?_);go_simp
    (first|refine hK _ ?_|refine ⟨.pointer (some ⟨gb,ob+j * 11,none⟩),fun _ _=>if_pos (by omega),hK _ ?_⟩)
    clear hK K2
    refine seq_take _ rfl (fun K2 hK=>?_);go_simp
    refine ⟨.agg #[.string K3,.bool h2,.int .i64 k2,.string S2,.bool b2,.int .u64 n2,.slice l2 ln2 lc2,.slice m2 mn2 mc2,.string I2,.string U2,.string U3],fun a ha=>by simp only[eb0 a ha,eb1 a ha,eb2 a ha,eb3 a ha,eb4 a ha,eb5 a ha,eb6 a ha,eb7 a ha,eb8 a ha,eb9 a ha,eb10 a ha,Result.andThen],hK _ ?_⟩
    clear hK K2
    refine seq_come _ rfl (fun K2 hK=>?_);go_simp
    refine ((hk.out l[j] (List.getElem_mem hlt)) m[j] [.string K0,.bool h0,.int .i64 k,.string S1,.bool b0,.int .u64 n,.slice l1 ln lc1,.slice m1 mn mc1,.string I0,.string U0,.string U1] [.string K3,.bool h2,.int .i64 k2,.string S2,.bool b2,.int .u64 n2,.slice l2 ln2 lc2,.slice m2 mn2 mc2,.string I2,.string U2,.string U3] P Q D (kslim_at HLIM.out _ (List.getElem_mem hlt)) (HRA.out.below HBD.out) (HRB.out.below HBD.out)).mono ?_;rintro e w4 ⟨rfl,hb4⟩
    obtain ⟨bb,hbb⟩:∃ bb,alike l[j] m[j]=bb:=⟨_,rfl⟩
    have HBB:=Lib.hid hbb
    rw[hbb]
    clear hbb
    have HB4:=Lib.hid (below_step HBD.out hb4)
    have hS4:Two w4 ga (oa+11 * j) [.string K0,.bool h0,.int .i64 k,.string S1,.bool b0,.int .u64 n,.slice l1 ln lc1,.slice m1 mn mc1,.string I0,.string U0,.string U1] gb (ob+11 * j) [.string K3,.bool h2,.int .i64 k2,.string S2,.bool b2,.int .u64 n2,.slice l2 ln2 lc2,.slice m2 mn2 mc2,.string I2,.string U2,.string U3]:=⟨HCA.out.below HB4.out hga,HCB.out.below HB4.out hgb⟩
    go_simp;refine hK.out _ _ hS4 ?_;clear hK K2 hb4
    iterate 1 (refine seq_take _ rfl (fun K2 hK=>?_);go_simp;(first|refine hK _ ?_|refine ⟨_,fun _ _=>rfl,hK _ ?_⟩);clear hK K2)
    refine seq_done ?_
    clear ea0 ea1 ea2 ea3 ea4 ea5 ea6 ea7 ea8 ea9 ea10 eb0 eb1 eb2 eb3 eb4 eb5 eb6 eb7 eb8 eb9 eb10 hne hS hS4
    have HBW:=Lib.hid (below_step HBR.out HB4.out)
    cases bb with
    | true =>
     have HE:=Lib.hid (alike_iff.1 HBB.out)
     go_wp2_with fail
     have hj:=HJ.out
     go_roundg (gk - 1)
     case measure=>omega
     case rel=>exact ⟨j+1,by simp,by omega,HBW.out,Lib.hid (by rw[List.take_succ_eq_append_getElem hlt,List.take_succ_eq_append_getElem hltm,HEQ.out,HE.out])⟩
    | false =>
     have hr:r=false:=by rw[←HR.out];exact alike_no (fun h=>by have:=HBB.out;subst h;rw[alike_yes rfl] at this;cases this)
     subst hr
     go_wp2_with fail
     go_ret
     exact ⟨rfl,HBW.out⟩
   ·have hjn:j=l.length:=by have:=HJ.out;omega
    have hr:r=true:=by
     rw[←HR.out]
     refine alike_yes ?_
     have h:=HEQ.out
     rw[hjn,List.take_length,HLEN.out,List.take_length] at h
     exact h
    subst hr
    clear hjn
    go_wp2_with fail
    go_ret
    exact ⟨rfl,HBR.out⟩
theorem hkey_step (key:List UInt8) (has:Bool) (v:Val) (u:List UInt8) (hv:Hid (SV 102 v)):SK 84 (.mk key has v u):=by
 intro y ca cb P Q w hlim ha hb
 cases y with|mk key2 has2 v2 u2 =>
 rw[KRel] at ha hb
 rw[klim] at hlim
 obtain ⟨ca,hra,rfl⟩:=ha
 obtain ⟨cb,hrb,rfl⟩:=hb
 have HRA:=Lib.hid hra
 have HRB:=Lib.hid hrb
 have HLIM:=Lib.hid hlim
 obtain ⟨k,S1,b0,n,l1,ln,lc1,m1,mn,mc1,I0,U0,rfl⟩:=hra.form
 obtain ⟨k2,S2,b2,n2,l2,ln2,lc2,m2,mn2,mc2,I2,U2,rfl⟩:=hrb.form
 clear hra hrb hlim
 obtain ⟨KA,hKA⟩:∃ X:ByteArray,(⟨key.toArray⟩:ByteArray)=X:=⟨_,rfl⟩
 obtain ⟨KB,hKB⟩:∃ X:ByteArray,(⟨key2.toArray⟩:ByteArray)=X:=⟨_,rfl⟩
 obtain ⟨UA,hUA⟩:∃ X:ByteArray,(⟨u.toArray⟩:ByteArray)=X:=⟨_,rfl⟩
 obtain ⟨UB,hUB⟩:∃ X:ByteArray,(⟨u2.toArray⟩:ByteArray)=X:=⟨_,rfl⟩
 have h1:KA.data.toList=key:=by rw[←hKA]
 have h2:KB.data.toList=key2:=by rw[←hKB]
 have h3:UA.data.toList=u:=by rw[←hUA]
 have h4:UB.data.toList=u2:=by rw[←hUB]
 show Calls Tryd.prog _ #[.agg #[.string ⟨key.toArray⟩,.bool has,.int .i64 k,.string S1,.bool b0,.int .u64 n,.slice l1 ln lc1,.slice m1 mn mc1,.string I0,.string U0,.string ⟨u.toArray⟩],.agg #[.string ⟨key2.toArray⟩,.bool has2,.int .i64 k2,.string S2,.bool b2,.int .u64 n2,.slice l2 ln2 lc2,.slice m2 mn2 mc2,.string I2,.string U2,.string ⟨u2.toArray⟩]] w _
 rw[hKA,hKB,hUA,hUB]
 clear hKA hKB hUA hUB
 have HB0:Hid (Below w.heap.size w ((w.alloc (.cells #[.string KA,.bool has,.int .i64 k,.string S1,.bool b0,.int .u64 n,.slice l1 ln lc1,.slice m1 mn mc1,.string I0,.string U0,.string UA] 161)).alloc (.cells #[.string KB,.bool has2,.int .i64 k2,.string S2,.bool b2,.int .u64 n2,.slice l2 ln2 lc2,.slice m2 mn2 mc2,.string I2,.string U2,.string UB] 161))):=Lib.hid (below_step (below_new _ _) (below_new _ _))
 by_cases e1:key=key2
 case neg =>
  have d1:=(text_ne h1 h2 e1).2
  rw[alike_no (fun h=>e1 (by simp only[KV.mk.injEq] at h;exact h.1))]
  clear e1 h1 h2 h3 h4
  go_enter Tryd.func84,Tryd.ntmps84
  go_wp2_with fail
  go_ret
  exact ⟨rfl,HB0.out⟩
 case pos =>
 obtain rfl:=ba_same h1 h2 e1
 by_cases e2:has=has2
 case neg =>
  have d1:(has == has2)=false:=by rw[beq_eq_false_iff_ne];exact e2
  rw[alike_no (fun h=>e2 (by simp only[KV.mk.injEq] at h;exact h.2.1))]
  clear e1 e2 h1 h2 h3 h4
  go_enter Tryd.func84,Tryd.ntmps84
  go_wp2_with fail
  go_ret
  exact ⟨rfl,HB0.out⟩
 case pos =>
 subst e2
 by_cases e3:u=u2
 case neg =>
  have d1:=(text_ne h3 h4 e3).2
  rw[alike_no (fun h=>e3 (by simp only[KV.mk.injEq] at h;exact h.2.2.2))]
  clear e1 e3 h1 h2 h3 h4
  go_enter Tryd.func84,Tryd.ntmps84
  go_wp2_with fail
  go_ret
  exact ⟨rfl,HB0.out⟩
 case pos =>
 obtain rfl:=ba_same h3 h4 e3
 have hr:alike (KV.mk key has v u) (KV.mk key2 has v2 u2)=alike v v2:=by
  subst e1 e3
  by_cases h:v=v2
  ·rw[alike_yes h,alike_yes (by rw[h])]
  ·rw[alike_no h,alike_no (fun e=>h (by simp only[KV.mk.injEq] at e;exact e.2.2.1))]
 rw[hr]
 have d0:(has == has)=true:=by simp
 clear hr e1 e3 h1 h2 h3 h4
 go_enter Tryd.func84,Tryd.ntmps84
 go_wp2_with fail
 refine (hv.out v2 [.int .i64 k,.string S1,.bool b0,.int .u64 n,.slice l1 ln lc1,.slice m1 mn mc1,.string I0,.string U0] [.int .i64 k2,.string S2,.bool b2,.int .u64 n2,.slice l2 ln2 lc2,.slice m2 mn2 mc2,.string I2,.string U2] P Q _ HLIM.out (HRA.out.below HB0.out) (HRB.out.below HB0.out)).mono ?_;rintro e w4 ⟨rfl,hb4⟩
 have HB4:=Lib.hid (below_step HB0.out hb4)
 clear hb4
 go_wp2_with fail
 go_ret
 exact ⟨rfl,HB4.out⟩
theorem hval_step (k:Int) (s:List UInt8) (b0:Bool) (n:Nat) (l:List Val) (m:List KV) (i u:List UInt8) (hv:Hid (∀ x∈l,SV 102 x)) (hk:Hid (SKs 54 m)):SV 102 (.mk k s b0 n l m i u):=by
 intro y ca cb P Q w hlim ha hb
 cases y with|mk k2 s2 b2 n2 l2 m2 i2 u2 =>
 rw[VRel] at ha hb
 rw[vlim] at hlim
 obtain ⟨hl1,hl2,hl3,hl4⟩:=hlim
 obtain ⟨lo,lc,mo,mc,rfl,hal,ham⟩:=ha
 obtain ⟨lo2,lc2,mo2,mc2,rfl,hbl,hbm⟩:=hb
 have HAL:=Lib.hid hal
 have HAM:=Lib.hid ham
 have HBL:=Lib.hid hbl
 have HBM:=Lib.hid hbm
 have HLV:=Lib.hid hl3
 have HLK:=Lib.hid hl4
 clear hal ham hbl hbm hl3 hl4
 obtain ⟨SA,hSA⟩:∃ X:ByteArray,(⟨s.toArray⟩:ByteArray)=X:=⟨_,rfl⟩
 obtain ⟨SB,hSB⟩:∃ X:ByteArray,(⟨s2.toArray⟩:ByteArray)=X:=⟨_,rfl⟩
 obtain ⟨IA,hIA⟩:∃ X:ByteArray,(⟨i.toArray⟩:ByteArray)=X:=⟨_,rfl⟩
 obtain ⟨IB,hIB⟩:∃ X:ByteArray,(⟨i2.toArray⟩:ByteArray)=X:=⟨_,rfl⟩
 obtain ⟨UA,hUA⟩:∃ X:ByteArray,(⟨u.toArray⟩:ByteArray)=X:=⟨_,rfl⟩
 obtain ⟨UB,hUB⟩:∃ X:ByteArray,(⟨u2.toArray⟩:ByteArray)=X:=⟨_,rfl⟩
 have t1:SA.data.toList=s:=by rw[←hSA]
 have t2:SB.data.toList=s2:=by rw[←hSB]
 have t3:IA.data.toList=i:=by rw[←hIA]
 have t4:IB.data.toList=i2:=by rw[←hIB]
 have t5:UA.data.toList=u:=by rw[←hUA]
 have t6:UB.data.toList=u2:=by rw[←hUB]
 show Calls Tryd.prog _ #[.agg #[.int .i64 k,.string ⟨s.toArray⟩,.bool b0,.int .u64 (n:Int),.slice lo l.length lc,.slice mo m.length mc,.string ⟨i.toArray⟩,.string ⟨u.toArray⟩],.agg #[.int .i64 k2,.string ⟨s2.toArray⟩,.bool b2,.int .u64 (n2:Int),.slice lo2 l2.length lc2,.slice mo2 m2.length mc2,.string ⟨i2.toArray⟩,.string ⟨u2.toArray⟩]] w _
 rw[hSA,hSB,hIA,hIB,hUA,hUB]
 clear hSA hSB hIA hIB hUA hUB
 have HB0:Hid (Below w.heap.size w ((w.alloc (.cells #[.int .i64 k,.string SA,.bool b0,.int .u64 (n:Int),.slice lo l.length lc,.slice mo m.length mc,.string IA,.string UA] 159)).alloc (.cells #[.int .i64 k2,.string SB,.bool b2,.int .u64 (n2:Int),.slice lo2 l2.length lc2,.slice mo2 m2.length mc2,.string IB,.string UB] 159))):=Lib.hid (below_step (below_new _ _) (below_new _ _))
 by_cases e1:k=k2
 case neg =>
  have d1:(k != k2)=true:=by rw[bne_iff_ne];exact e1
  rw[alike_no (fun h=>e1 (by simp only[Val.mk.injEq] at h;exact h.1))]
  clear t1 t2 t3 t4 t5 t6 e1
  go_enter Tryd.func102,Tryd.ntmps102
  go_wp2_with fail
  go_ret
  exact ⟨rfl,HB0.out⟩
 case pos =>
 subst e1
 by_cases e2:s=s2
 case neg =>
  have d1:=(text_ne3 t1 t2 e2)
  rw[alike_no (fun h=>e2 (by simp only[Val.mk.injEq] at h;exact h.2.1))]
  clear t1 t2 t3 t4 t5 t6 e2
  go_enter Tryd.func102,Tryd.ntmps102
  go_wp2_with fail
  go_ret
  exact ⟨rfl,HB0.out⟩
 case pos =>
 obtain rfl:=ba_same t1 t2 e2
 by_cases e3:b0=b2
 case neg =>
  have d1:¬b0=b2:=by exact e3
  rw[alike_no (fun h=>e3 (by simp only[Val.mk.injEq] at h;exact h.2.2.1))]
  clear t1 t2 t3 t4 t5 t6 e2 e3
  go_enter Tryd.func102,Tryd.ntmps102
  go_wp2_with fail
  go_ret
  exact ⟨rfl,HB0.out⟩
 case pos =>
 subst e3
 by_cases e4:n=n2
 case neg =>
  have d1:((n:Int) != (n2:Int))=true:=by rw[bne_iff_ne];omega
  rw[alike_no (fun h=>e4 (by simp only[Val.mk.injEq] at h;exact h.2.2.2.1))]
  clear t1 t2 t3 t4 t5 t6 e2 e4
  go_enter Tryd.func102,Tryd.ntmps102
  go_wp2_with fail
  go_ret
  exact ⟨rfl,HB0.out⟩
 case pos =>
 subst e4
 by_cases e5:i=i2
 case neg =>
  have d1:=(text_ne3 t3 t4 e5)
  rw[alike_no (fun h=>e5 (by simp only[Val.mk.injEq] at h;exact h.2.2.2.2.2.2.1))]
  clear t1 t2 t3 t4 t5 t6 e2 e5
  go_enter Tryd.func102,Tryd.ntmps102
  go_wp2_with fail
  go_ret
  exact ⟨rfl,HB0.out⟩
 case pos =>
 obtain rfl:=ba_same t3 t4 e5
 by_cases e6:u=u2
 case neg =>
  have d1:=(text_ne3 t5 t6 e6)
  rw[alike_no (fun h=>e6 (by simp only[Val.mk.injEq] at h;exact h.2.2.2.2.2.2.2))]
  clear t1 t2 t3 t4 t5 t6 e2 e5 e6
  go_enter Tryd.func102,Tryd.ntmps102
  go_wp2_with fail
  go_ret
  exact ⟨rfl,HB0.out⟩
 case pos =>
 obtain rfl:=ba_same t5 t6 e6
 by_cases e7:l.length=l2.length
 case neg =>
  have d1:((l.length:Int) != (l2.length:Int))=true:=by rw[bne_iff_ne];omega
  rw[alike_no (fun h=>e7 (by simp only[Val.mk.injEq] at h;rw[h.2.2.2.2.1]))]
  clear t1 t2 t3 t4 t5 t6 e2 e5 e6 e7
  go_enter Tryd.func102,Tryd.ntmps102
  go_wp2_with fail
  go_ret
  exact ⟨rfl,HB0.out⟩
 case pos =>
 have d7:((l.length:Int) != (l2.length:Int))=false:=by rw[bne_eq_false_iff_eq];omega
 have d2:(k != k)=false:=by simp
 have d3:(b0 != b0)=false:=by simp
 have d4:((n:Int) != (n:Int))=false:=by simp
 have HEQ:Hid (s=s2∧i=i2∧u=u2∧l.length=l2.length):=Lib.hid ⟨e2,e5,e6,e7⟩
 clear t1 t2 t3 t4 t5 t6 e2 e5 e6
 obtain ⟨r,HR⟩:∃ r,Hid (alike (Val.mk k s b0 n l m i u) (Val.mk k s2 b0 n l2 m2 i2 u2)=r):=⟨_,Lib.hid rfl⟩
 rw[HR.out]
 obtain ⟨W,hW⟩:∃ W,((w.alloc (.cells #[.int .i64 k,.string SA,.bool b0,.int .u64 (n:Int),.slice lo l.length lc,.slice mo m.length mc,.string IA,.string UA] 159)).alloc (.cells #[.int .i64 k,.string SA,.bool b0,.int .u64 (n:Int),.slice lo2 l2.length lc2,.slice mo2 m2.length mc2,.string IA,.string UA] 159))=W:=⟨_,rfl⟩
 rw[hW] at HB0
 have HXA:Hid (W.heap[w.heap.size]? = some (.cells #[.int .i64 k,.string SA,.bool b0,.int .u64 (n:Int),.slice lo l.length lc,.slice mo m.length mc,.string IA,.string UA] 159 (0,0))):=Lib.hid (by rw[←hW];exact (Below.heap_alloc _ _ _ (by simp)).trans (heap_alloc_new w _))
 have HXB:Hid (W.heap[w.heap.size+1]? = some (.cells #[.int .i64 k,.string SA,.bool b0,.int .u64 (n:Int),.slice lo2 l2.length lc2,.slice mo2 m2.length mc2,.string IA,.string UA] 159 (0,0))):=Lib.hid (by rw[←hW];have:=heap_alloc_new (w.alloc (.cells #[.int .i64 k,.string SA,.bool b0,.int .u64 (n:Int),.slice lo l.length lc,.slice mo m.length mc,.string IA,.string UA] 159)) (.cells #[.int .i64 k,.string SA,.bool b0,.int .u64 (n:Int),.slice lo2 l2.length lc2,.slice mo2 m2.length mc2,.string IA,.string UA] 159);simpa using this)
 have HW:=Lib.hid hW
 clear hW e7
 go_enter Tryd.func102,Tryd.ntmps102
 go_wp2_with fail
 rw[HW.out]
 refine (hk.out m2 mo mo2 mc mc2 P Q W hl2 HLK.out (HAM.out.below HB0.out) (HBM.out.below HB0.out)).mono ?_;rintro e w1 ⟨rfl,hb1⟩
 have HB1:=Lib.hid (below_step HB0.out hb1)
 have HXA1:=Lib.hid ((hb1.block _ (row_lt HXA.out)).trans HXA.out)
 have HXB1:=Lib.hid ((hb1.block _ (row_lt HXB.out)).trans HXB.out)
 clear hb1
 obtain ⟨bm,hbm⟩:∃ bb,alike m m2=bb:=⟨_,rfl⟩
 have HBMM:=Lib.hid hbm
 rw[hbm]
 clear hbm
 cases bm with
 | false =>
  have hr:r=false:=by rw[←HR.out];exact alike_no (fun h=>by simp only[Val.mk.injEq] at h;rw[alike_yes h.2.2.2.2.2.1] at HBMM;cases HBMM.out)
  subst hr
  go_wp2_with fail
  go_ret
  exact ⟨rfl,HB1.out⟩
 | true =>
  have HM:=Lib.hid (alike_iff.1 HBMM.out)
  have hxa4:w1.cell? ⟨w.heap.size,4,none⟩=some (.slice lo l.length lc):=row_cell HXA1.out (j:=4) rfl
  go_wp2_with fail
  clear hxa4
  go_loopg [5] l.length (fun k i wr=>∃ j:Nat,i = .int .i64 (j:Int)∧j+k=l.length∧Below w1.heap.size w1 wr∧Hid (l.take j=l2.take j))
  case atStart=>exact ⟨0,rfl,by omega,Below.refl _ _,Lib.hid rfl⟩
  case round =>
   obtain ⟨j,rfl,hj,hbr,HEL⟩:=hrel
   have HBR:=Lib.hid hbr
   have HJ:=Lib.hid hj
   have HWB:=Lib.hid (below_step HB1.out hbr)
   have HXAR:=Lib.hid ((hbr.block _ (row_lt HXA1.out)).trans HXA1.out)
   have HXBR:=Lib.hid ((hbr.block _ (row_lt HXB1.out)).trans HXB1.out)
   clear hbr hj
   have hxa4:wr.cell? ⟨w.heap.size,4,none⟩=some (.slice lo l.length lc):=row_cell HXAR.out (j:=4) rfl
   by_cases hlt:j<l.length
   ·have hltm:j<l2.length:=by have:=HEQ.out.2.2.2;omega
    obtain ⟨ga,oa,ca,rfl,hga,hca,hra⟩:=vrels_at0 (HAL.out.below HWB.out) j hlt
    obtain ⟨gb,ob,cb,rfl,hgb,hcb,hrb⟩:=vrels_at0 (HBL.out.below HWB.out) j hltm
    have HRA:=Lib.hid hra
    have HRB:=Lib.hid hrb
    obtain ⟨k1,S1,b1,n1,l1,ln1,lc1,m1,mn1,mc1,I1,U1,rfl⟩:=hra.form
    obtain ⟨k3,S3,b3,n3,l3,ln3,lc3,m3,mn3,mc3,I3,U3,rfl⟩:=hrb.form
    have HCA:=Lib.hid hca
    have HCB:=Lib.hid hcb
    clear hra hrb hca hcb
    go_wp2_with fail
    have ea0:∀ a:World,Four a ga (oa+8 * j) [.int .i64 k1,.string S1,.bool b1,.int .u64 n1,.slice l1 ln1 lc1,.slice m1 mn1 mc1,.string I1,.string U1] gb (ob+8 * j) [.int .i64 k3,.string S3,.bool b3,.int .u64 n3,.slice l3 ln3 lc3,.slice m3 mn3 mc3,.string I3,.string U3] w.heap.size [.int .i64 k,.string SA,.bool b0,.int .u64 (n:Int),.slice (some ⟨ga,oa,none⟩) l.length lc,.slice mo m.length mc,.string IA,.string UA] (w.heap.size+1) [.int .i64 k,.string SA,.bool b0,.int .u64 (n:Int),.slice (some ⟨gb,ob,none⟩) l2.length lc2,.slice mo2 m2.length mc2,.string IA,.string UA] 159→a.cell? ⟨ga,oa+j * 8,none⟩=some (.int .i64 k1):=fun a ha=>by have:=ha.1 0 (by simp);rw[show oa+j * 8=oa+8 * j+0 by omega,this];rfl
    have eb0:∀ a:World,Four a ga (oa+8 * j) [.int .i64 k1,.string S1,.bool b1,.int .u64 n1,.slice l1 ln1 lc1,.slice m1 mn1 mc1,.string I1,.string U1] gb (ob+8 * j) [.int .i64 k3,.string S3,.bool b3,.int .u64 n3,.slice l3 ln3 lc3,.slice m3 mn3 mc3,.string I3,.string U3] w.heap.size [.int .i64 k,.string SA,.bool b0,.int .u64 (n:Int),.slice (some ⟨ga,oa,none⟩) l.length lc,.slice mo m.length mc,.string IA,.string UA] (w.heap.size+1) [.int .i64 k,.string SA,.bool b0,.int .u64 (n:Int),.slice (some ⟨gb,ob,none⟩) l2.length lc2,.slice mo2 m2.length mc2,.string IA,.string UA] 159→a.cell? ⟨gb,ob+j * 8,none⟩=some (.int .i64 k3):=fun a ha=>by have:=ha.2.1 0 (by simp);rw[show ob+j * 8=ob+8 * j+0 by omega,this];rfl
    have ea1:∀ a:World,Four a ga (oa+8 * j) [.int .i64 k1,.string S1,.bool b1,.int .u64 n1,.slice l1 ln1 lc1,.slice m1 mn1 mc1,.string I1,.string U1] gb (ob+8 * j) [.int .i64 k3,.string S3,.bool b3,.int .u64 n3,.slice l3 ln3 lc3,.slice m3 mn3 mc3,.string I3,.string U3] w.heap.size [.int .i64 k,.string SA,.bool b0,.int .u64 (n:Int),.slice (some ⟨ga,oa,none⟩) l.length lc,.slice mo m.length mc,.string IA,.string UA] (w.heap.size+1) [.int .i64 k,.string SA,.bool b0,.int .u64 (n:Int),.slice (some ⟨gb,ob,none⟩) l2.length lc2,.slice mo2 m2.length mc2,.string IA,.string UA] 159→a.cell? ⟨ga,oa+j * 8+1,none⟩=some (.string S1):=fun a ha=>by have:=ha.1 1 (by simp);rw[show oa+j * 8+1=oa+8 * j+1 by omega,this];rfl
    have eb1:∀ a:World,Four a ga (oa+8 * j) [.int .i64 k1,.string S1,.bool b1,.int .u64 n1,.slice l1 ln1 lc1,.slice m1 mn1 mc1,.string I1,.string U1] gb (ob+8 * j) [.int .i64 k3,.string S3,.bool b3,.int .u64 n3,.slice l3 ln3 lc3,.slice m3 mn3 mc3,.string I3,.string U3] w.heap.size [.int .i64 k,.string SA,.bool b0,.int .u64 (n:Int),.slice (some ⟨ga,oa,none⟩) l.length lc,.slice mo m.length mc,.string IA,.string UA] (w.heap.size+1) [.int .i64 k,.string SA,.bool b0,.int .u64 (n:Int),.slice (some ⟨gb,ob,none⟩) l2.length lc2,.slice mo2 m2.length mc2,.string IA,.string UA] 159→a.cell? ⟨gb,ob+j * 8+1,none⟩=some (.string S3):=fun a ha=>by have:=ha.2.1 1 (by simp);rw[show ob+j * 8+1=ob+8 * j+1 by omega,this];rfl
    have ea2:∀ a:World,Four a ga (oa+8 * j) [.int .i64 k1,.string S1,.bool b1,.int .u64 n1,.slice l1 ln1 lc1,.slice m1 mn1 mc1,.string I1,.string U1] gb (ob+8 * j) [.int .i64 k3,.string S3,.bool b3,.int .u64 n3,.slice l3 ln3 lc3,.slice m3 mn3 mc3,.string I3,.string U3] w.heap.size [.int .i64 k,.string SA,.bool b0,.int .u64 (n:Int),.slice (some ⟨ga,oa,none⟩) l.length lc,.slice mo m.length mc,.string IA,.string UA] (w.heap.size+1) [.int .i64 k,.string SA,.bool b0,.int .u64 (n:Int),.slice (some ⟨gb,ob,none⟩) l2.length lc2,.slice mo2 m2.length mc2,.string IA,.string UA] 159→a.cell? ⟨ga,oa+j * 8+2,none⟩=some (.bool b1):=fun a ha=>by have:=ha.1 2 (by simp);rw[show oa+j * 8+2=oa+8 * j+2 by omega,this];rfl
    have eb2:∀ a:World,Four a ga (oa+8 * j) [.int .i64 k1,.string S1,.bool b1,.int .u64 n1,.slice l1 ln1 lc1,.slice m1 mn1 mc1,.string I1,.string U1] gb (ob+8 * j) [.int .i64 k3,.string S3,.bool b3,.int .u64 n3,.slice l3 ln3 lc3,.slice m3 mn3 mc3,.string I3,.string U3] w.heap.size [.int .i64 k,.string SA,.bool b0,.int .u64 (n:Int),.slice (some ⟨ga,oa,none⟩) l.length lc,.slice mo m.length mc,.string IA,.string UA] (w.heap.size+1) [.int .i64 k,.string SA,.bool b0,.int .u64 (n:Int),.slice (some ⟨gb,ob,none⟩) l2.length lc2,.slice mo2 m2.length mc2,.string IA,.string UA] 159→a.cell? ⟨gb,ob+j * 8+2,none⟩=some (.bool b3):=fun a ha=>by have:=ha.2.1 2 (by simp);rw[show ob+j * 8+2=ob+8 * j+2 by omega,this];rfl
    have ea3:∀ a:World,Four a ga (oa+8 * j) [.int .i64 k1,.string S1,.bool b1,.int .u64 n1,.slice l1 ln1 lc1,.slice m1 mn1 mc1,.string I1,.string U1] gb (ob+8 * j) [.int .i64 k3,.string S3,.bool b3,.int .u64 n3,.slice l3 ln3 lc3,.slice m3 mn3 mc3,.string I3,.string U3] w.heap.size [.int .i64 k,.string SA,.bool b0,.int .u64 (n:Int),.slice (some ⟨ga,oa,none⟩) l.length lc,.slice mo m.length mc,.string IA,.string UA] (w.heap.size+1) [.int .i64 k,.string SA,.bool b0,.int .u64 (n:Int),.slice (some ⟨gb,ob,none⟩) l2.length lc2,.slice mo2 m2.length mc2,.string IA,.string UA] 159→a.cell? ⟨ga,oa+j * 8+3,none⟩=some (.int .u64 n1):=fun a ha=>by have:=ha.1 3 (by simp);rw[show oa+j * 8+3=oa+8 * j+3 by omega,this];rfl
    have eb3:∀ a:World,Four a ga (oa+8 * j) [.int .i64 k1,.string S1,.bool b1,.int .u64 n1,.slice l1 ln1 lc1,.slice m1 mn1 mc1,.string I1,.string U1] gb (ob+8 * j) [.int .i64 k3,.string S3,.bool b3,.int .u64 n3,.slice l3 ln3 lc3,.slice m3 mn3 mc3,.string I3,.string U3] w.heap.size [.int .i64 k,.string SA,.bool b0,.int .u64 (n:Int),.slice (some ⟨ga,oa,none⟩) l.length lc,.slice mo m.length mc,.string IA,.string UA] (w.heap.size+1) [.int .i64 k,.string SA,.bool b0,.int .u64 (n:Int),.slice (some ⟨gb,ob,none⟩) l2.length lc2,.slice mo2 m2.length mc2,.string IA,.string UA] 159→a.cell? ⟨gb,ob+j * 8+3,none⟩=some (.int .u64 n3):=fun a ha=>by have:=ha.2.1 3 (by simp);rw[show ob+j * 8+3=ob+8 * j+3 by omega,this];rfl
    have ea4:∀ a:World,Four a ga (oa+8 * j) [.int .i64 k1,.string S1,.bool b1,.int .u64 n1,.slice l1 ln1 lc1,.slice m1 mn1 mc1,.string I1,.string U1] gb (ob+8 * j) [.int .i64 k3,.string S3,.bool b3,.int .u64 n3,.slice l3 ln3 lc3,.slice m3 mn3 mc3,.string I3,.string U3] w.heap.size [.int .i64 k,.string SA,.bool b0,.int .u64 (n:Int),.slice (some ⟨ga,oa,none⟩) l.length lc,.slice mo m.length mc,.string IA,.string UA] (w.heap.size+1) [.int .i64 k,.string SA,.bool b0,.int .u64 (n:Int),.slice (some ⟨gb,ob,none⟩) l2.length lc2,.slice mo2 m2.length mc2,.string IA,.string UA] 159→a.cell? ⟨ga,oa+j * 8+4,none⟩=some (.slice l1 ln1 lc1):=fun a ha=>by have:=ha.1 4 (by simp);rw[show oa+j * 8+4=oa+8 * j+4 by omega,this];rfl
    have eb4:∀ a:World,Four a ga (oa+8 * j) [.int .i64 k1,.string S1,.bool b1,.int .u64 n1,.slice l1 ln1 lc1,.slice m1 mn1 mc1,.string I1,.string U1] gb (ob+8 * j) [.int .i64 k3,.string S3,.bool b3,.int .u64 n3,.slice l3 ln3 lc3,.slice m3 mn3 mc3,.string I3,.string U3] w.heap.size [.int .i64 k,.string SA,.bool b0,.int .u64 (n:Int),.slice (some ⟨ga,oa,none⟩) l.length lc,.slice mo m.length mc,.string IA,.string UA] (w.heap.size+1) [.int .i64 k,.string SA,.bool b0,.int .u64 (n:Int),.slice (some ⟨gb,ob,none⟩) l2.length lc2,.slice mo2 m2.length mc2,.string IA,.string UA] 159→a.cell? ⟨gb,ob+j * 8+4,none⟩=some (.slice l3 ln3 lc3):=fun a ha=>by have:=ha.2.1 4 (by simp);rw[show ob+j * 8+4=ob+8 * j+4 by omega,this];rfl
    have ea5:∀ a:World,Four a ga (oa+8 * j) [.int .i64 k1,.string S1,.bool b1,.int .u64 n1,.slice l1 ln1 lc1,.slice m1 mn1 mc1,.string I1,.string U1] gb (ob+8 * j) [.int .i64 k3,.string S3,.bool b3,.int .u64 n3,.slice l3 ln3 lc3,.slice m3 mn3 mc3,.string I3,.string U3] w.heap.size [.int .i64 k,.string SA,.bool b0,.int .u64 (n:Int),.slice (some ⟨ga,oa,none⟩) l.length lc,.slice mo m.length mc,.string IA,.string UA] (w.heap.size+1) [.int .i64 k,.string SA,.bool b0,.int .u64 (n:Int),.slice (some ⟨gb,ob,none⟩) l2.length lc2,.slice mo2 m2.length mc2,.string IA,.string UA] 159→a.cell? ⟨ga,oa+j * 8+5,none⟩=some (.slice m1 mn1 mc1):=fun a ha=>by have:=ha.1 5 (by simp);rw[show oa+j * 8+5=oa+8 * j+5 by omega,this];rfl
    have eb5:∀ a:World,Four a ga (oa+8 * j) [.int .i64 k1,.string S1,.bool b1,.int .u64 n1,.slice l1 ln1 lc1,.slice m1 mn1 mc1,.string I1,.string U1] gb (ob+8 * j) [.int .i64 k3,.string S3,.bool b3,.int .u64 n3,.slice l3 ln3 lc3,.slice m3 mn3 mc3,.string I3,.string U3] w.heap.size [.int .i64 k,.string SA,.bool b0,.int .u64 (n:Int),.slice (some ⟨ga,oa,none⟩) l.length lc,.slice mo m.length mc,.string IA,.string UA] (w.heap.size+1) [.int .i64 k,.string SA,.bool b0,.int .u64 (n:Int),.slice (some ⟨gb,ob,none⟩) l2.length lc2,.slice mo2 m2.length mc2,.string IA,.string UA] 159→a.cell? ⟨gb,ob+j * 8+5,none⟩=some (.slice m3 mn3 mc3):=fun a ha=>by have:=ha.2.1 5 (by simp);rw[show ob+j * 8+5=ob+8 * j+5 by omega,this];rfl
    have ea6:∀ a:World,Four a ga (oa+8 * j) [.int .i64 k1,.string S1,.bool b1,.int .u64 n1,.slice l1 ln1 lc1,.slice m1 mn1 mc1,.string I1,.string U1] gb (ob+8 * j) [.int .i64 k3,.string S3,.bool b3,.int .u64 n3,.slice l3 ln3 lc3,.slice m3 mn3 mc3,.string I3,.string U3] w.heap.size [.int .i64 k,.string SA,.bool b0,.int .u64 (n:Int),.slice (some ⟨ga,oa,none⟩) l.length lc,.slice mo m.length mc,.string IA,.string UA] (w.heap.size+1) [.int .i64 k,.string SA,.bool b0,.int .u64 (n:Int),.slice (some ⟨gb,ob,none⟩) l2.length lc2,.slice mo2 m2.length mc2,.string IA,.string UA] 159→a.cell? ⟨ga,oa+j * 8+6,none⟩=some (.string I1):=fun a ha=>by have:=ha.1 6 (by simp);rw[show oa+j * 8+6=oa+8 * j+6 by omega,this];rfl
    have eb6:∀ a:World,Four a ga (oa+8 * j) [.int .i64 k1,.string S1,.bool b1,.int .u64 n1,.slice l1 ln1 lc1,.slice m1 mn1 mc1,.string I1,.string U1] gb (ob+8 * j) [.int .i64 k3,.string S3,.bool b3,.int .u64 n3,.slice l3 ln3 lc3,.slice m3 mn3 mc3,.string I3,.string U3] w.heap.size [.int .i64 k,.string SA,.bool b0,.int .u64 (n:Int),.slice (some ⟨ga,oa,none⟩) l.length lc,.slice mo m.length mc,.string IA,.string UA] (w.heap.size+1) [.int .i64 k,.string SA,.bool b0,.int .u64 (n:Int),.slice (some ⟨gb,ob,none⟩) l2.length lc2,.slice mo2 m2.length mc2,.string IA,.string UA] 159→a.cell? ⟨gb,ob+j * 8+6,none⟩=some (.string I3):=fun a ha=>by have:=ha.2.1 6 (by simp);rw[show ob+j * 8+6=ob+8 * j+6 by omega,this];rfl
    have ea7:∀ a:World,Four a ga (oa+8 * j) [.int .i64 k1,.string S1,.bool b1,.int .u64 n1,.slice l1 ln1 lc1,.slice m1 mn1 mc1,.string I1,.string U1] gb (ob+8 * j) [.int .i64 k3,.string S3,.bool b3,.int .u64 n3,.slice l3 ln3 lc3,.slice m3 mn3 mc3,.string I3,.string U3] w.heap.size [.int .i64 k,.string SA,.bool b0,.int .u64 (n:Int),.slice (some ⟨ga,oa,none⟩) l.length lc,.slice mo m.length mc,.string IA,.string UA] (w.heap.size+1) [.int .i64 k,.string SA,.bool b0,.int .u64 (n:Int),.slice (some ⟨gb,ob,none⟩) l2.length lc2,.slice mo2 m2.length mc2,.string IA,.string UA] 159→a.cell? ⟨ga,oa+j * 8+7,none⟩=some (.string U1):=fun a ha=>by have:=ha.1 7 (by simp);rw[show oa+j * 8+7=oa+8 * j+7 by omega,this];rfl
    have eb7:∀ a:World,Four a ga (oa+8 * j) [.int .i64 k1,.string S1,.bool b1,.int .u64 n1,.slice l1 ln1 lc1,.slice m1 mn1 mc1,.string I1,.string U1] gb (ob+8 * j) [.int .i64 k3,.string S3,.bool b3,.int .u64 n3,.slice l3 ln3 lc3,.slice m3 mn3 mc3,.string I3,.string U3] w.heap.size [.int .i64 k,.string SA,.bool b0,.int .u64 (n:Int),.slice (some ⟨ga,oa,none⟩) l.length lc,.slice mo m.length mc,.string IA,.string UA] (w.heap.size+1) [.int .i64 k,.string SA,.bool b0,.int .u64 (n:Int),.slice (some ⟨gb,ob,none⟩) l2.length lc2,.slice mo2 m2.length mc2,.string IA,.string UA] 159→a.cell? ⟨gb,ob+j * 8+7,none⟩=some (.string U3):=fun a ha=>by have:=ha.2.1 7 (by simp);rw[show ob+j * 8+7=ob+8 * j+7 by omega,this];rfl
    have xa4:∀ a:World,Four a ga (oa+8 * j) [.int .i64 k1,.string S1,.bool b1,.int .u64 n1,.slice l1 ln1 lc1,.slice m1 mn1 mc1,.string I1,.string U1] gb (ob+8 * j) [.int .i64 k3,.string S3,.bool b3,.int .u64 n3,.slice l3 ln3 lc3,.slice m3 mn3 mc3,.string I3,.string U3] w.heap.size [.int .i64 k,.string SA,.bool b0,.int .u64 (n:Int),.slice (some ⟨ga,oa,none⟩) l.length lc,.slice mo m.length mc,.string IA,.string UA] (w.heap.size+1) [.int .i64 k,.string SA,.bool b0,.int .u64 (n:Int),.slice (some ⟨gb,ob,none⟩) l2.length lc2,.slice mo2 m2.length mc2,.string IA,.string UA] 159→a.cell? ⟨w.heap.size,4,none⟩=some (.slice (some ⟨ga,oa,none⟩) l.length lc):=fun a ha=>row_cell ha.2.2.1 (j:=4) rfl
    have xb4:∀ a:World,Four a ga (oa+8 * j) [.int .i64 k1,.string S1,.bool b1,.int .u64 n1,.slice l1 ln1 lc1,.slice m1 mn1 mc1,.string I1,.string U1] gb (ob+8 * j) [.int .i64 k3,.string S3,.bool b3,.int .u64 n3,.slice l3 ln3 lc3,.slice m3 mn3 mc3,.string I3,.string U3] w.heap.size [.int .i64 k,.string SA,.bool b0,.int .u64 (n:Int),.slice (some ⟨ga,oa,none⟩) l.length lc,.slice mo m.length mc,.string IA,.string UA] (w.heap.size+1) [.int .i64 k,.string SA,.bool b0,.int .u64 (n:Int),.slice (some ⟨gb,ob,none⟩) l2.length lc2,.slice mo2 m2.length mc2,.string IA,.string UA] 159→a.cell? ⟨w.heap.size+1,4,none⟩=some (.slice (some ⟨gb,ob,none⟩) l2.length lc2):=fun a ha=>row_cell ha.2.2.2 (j:=4) rfl
    obtain ⟨D,hD⟩:∃ D,wr.drew=D:=⟨_,rfl⟩
    have HBD:Hid (Below wr.heap.size wr D):=Lib.hid (by rw[←hD];exact (Below.refl _ _).drew)
    have hS:Four D ga (oa+8 * j) [.int .i64 k1,.string S1,.bool b1,.int .u64 n1,.slice l1 ln1 lc1,.slice m1 mn1 mc1,.string I1,.string U1] gb (ob+8 * j) [.int .i64 k3,.string S3,.bool b3,.int .u64 n3,.slice l3 ln3 lc3,.slice m3 mn3 mc3,.string I3,.string U3] w.heap.size [.int .i64 k,.string SA,.bool b0,.int .u64 (n:Int),.slice (some ⟨ga,oa,none⟩) l.length lc,.slice mo m.length mc,.string IA,.string UA] (w.heap.size+1) [.int .i64 k,.string SA,.bool b0,.int .u64 (n:Int),.slice (some ⟨gb,ob,none⟩) l2.length lc2,.slice mo2 m2.length mc2,.string IA,.string UA] 159:=⟨HCA.out.below HBD.out hga,HCB.out.below HBD.out hgb,(HBD.out.block _ (row_lt HXAR.out)).trans HXAR.out,(HBD.out.block _ (row_lt HXBR.out)).trans HXBR.out⟩
    have hne:Nonempty {w':World // Four w' ga (oa+8 * j) [.int .i64 k1,.string S1,.bool b1,.int .u64 n1,.slice l1 ln1 lc1,.slice m1 mn1 mc1,.string I1,.string U1] gb (ob+8 * j) [.int .i64 k3,.string S3,.bool b3,.int .u64 n3,.slice l3 ln3 lc3,.slice m3 mn3 mc3,.string I3,.string U3] w.heap.size [.int .i64 k,.string SA,.bool b0,.int .u64 (n:Int),.slice (some ⟨ga,oa,none⟩) l.length lc,.slice mo m.length mc,.string IA,.string UA] (w.heap.size+1) [.int .i64 k,.string SA,.bool b0,.int .u64 (n:Int),.slice (some ⟨gb,ob,none⟩) l2.length lc2,.slice mo2 m2.length mc2,.string IA,.string UA] 159}:=⟨⟨_,hS⟩⟩
    refine wp_region_seq (S:=fun w'=>Four w' ga (oa+8 * j) [.int .i64 k1,.string S1,.bool b1,.int .u64 n1,.slice l1 ln1 lc1,.slice m1 mn1 mc1,.string I1,.string U1] gb (ob+8 * j) [.int .i64 k3,.string S3,.bool b3,.int .u64 n3,.slice l3 ln3 lc3,.slice m3 mn3 mc3,.string I3,.string U3] w.heap.size [.int .i64 k,.string SA,.bool b0,.int .u64 (n:Int),.slice (some ⟨ga,oa,none⟩) l.length lc,.slice mo m.length mc,.string IA,.string UA] (w.heap.size+1) [.int .i64 k,.string SA,.bool b0,.int .u64 (n:Int),.slice (some ⟨gb,ob,none⟩) l2.length lc2,.slice mo2 m2.length mc2,.string IA,.string UA] 159) [(0,true),(1,true),(2,true),(3,true),(4,true),(5,true),(6,true),(7,true),(8,true),(9,true),(10,false),(11,true)] (by kernel_rfl) (by kernel_rfl) (by kernel_rfl) (by kernel_rfl) (by rw[hD];exact hS) ?_
    rw[hD]
    clear hD hxa4
    refine seq_take _ rfl (fun K2 hK=>?_);go_simp;(first|refine hK _ ?_|refine ⟨_,fun _ _=>rfl,hK _ ?_⟩);clear hK K2
    refine seq_take _ rfl (fun K2 hK=>?_);go_simp
    refine ⟨.slice (some ⟨ga,oa,none⟩) l.length lc,fun a ha=>by rw[xa4 a ha];rfl,hK _ ?_⟩
    clear hK K2
    refine seq_take _ rfl (fun K2 hK=>?_);go_simp;(first|refine hK _ ?_|refine ⟨_,fun _ _=>rfl,hK _ ?_⟩);clear hK K2
    refine seq_take _ rfl (fun K2 hK=>?_);go_simp
    (first|refine hK _ ?_|refine ⟨.pointer (some ⟨ga,oa+j * 8,none⟩),fun _ _=>if_pos (by omega),hK _ ?_⟩)
    clear hK K2
    refine seq_take _ rfl (fun K2 hK=>?_);go_simp
    refine ⟨.agg #[.int .i64 k1,.string S1,.bool b1,.int .u64 n1,.slice l1 ln1 lc1,.slice m1 mn1 mc1,.string I1,.string U1],fun a ha=>by simp only[ea0 a ha,ea1 a ha,ea2 a ha,ea3 a ha,ea4 a ha,ea5 a ha,ea6 a ha,ea7 a ha,Result.andThen],hK _ ?_⟩
    clear hK K2
    refine seq_take _ rfl (fun K2 hK=>?_);go_simp;(first|refine hK _ ?_|refine ⟨_,fun _ _=>rfl,hK _ ?_⟩);clear hK K2
    refine seq_take _ rfl (fun K2 hK=>?_);go_simp
    refine ⟨.slice (some ⟨gb,ob,none⟩) l2.length lc2,fun a ha=>by rw[xb4 a ha];rfl,hK _ ?_⟩
    clear hK K2
    refine seq_take _ rfl (fun K2 hK=>?_);go_simp;(first|refine hK _ ?_|refine ⟨_,fun _ _=>rfl,hK _ ?_⟩);clear hK K2
    refine seq_take _ rfl (fun K2 hK=>?_);go_simp
    (first|refine hK _ ?_|refine ⟨.pointer (some ⟨gb,ob+j * 8,none⟩),fun _ _=>if_pos (by omega),hK _ ?_⟩)
    clear hK K2
    refine seq_take _ rfl (fun K2 hK=>?_);go_simp
    refine ⟨.agg #[.int .i64 k3,.string S3,.bool b3,.int .u64 n3,.slice l3 ln3 lc3,.slice m3 mn3 mc3,.string I3,.string U3],fun a ha=>by simp only[eb0 a ha,eb1 a ha,eb2 a ha,eb3 a ha,eb4 a ha,eb5 a ha,eb6 a ha,eb7 a ha,Result.andThen],hK _ ?_⟩
    clear hK K2
    refine seq_come _ rfl (fun K2 hK=>?_);go_simp
    refine ((hv.out l[j] (List.getElem_mem hlt)) l2[j] [.int .i64 k1,.string S1,.bool b1,.int .u64 n1,.slice l1 ln1 lc1,.slice m1 mn1 mc1,.string I1,.string U1] [.int .i64 k3,.string S3,.bool b3,.int .u64 n3,.slice l3 ln3 lc3,.slice m3 mn3 mc3,.string I3,.string U3] P Q D (vslim_at HLV.out _ (List.getElem_mem hlt)) (HRA.out.below HBD.out) (HRB.out.below HBD.out)).mono ?_;rintro e w4 ⟨rfl,hb4⟩
    obtain ⟨bb,hbb⟩:∃ bb,alike l[j] l2[j]=bb:=⟨_,rfl⟩
    have HBB:=Lib.hid hbb
    rw[hbb]
    clear hbb
    have HB4:=Lib.hid (below_step HBD.out hb4)
    have hS4:Four w4 ga (oa+8 * j) [.int .i64 k1,.string S1,.bool b1,.int .u64 n1,.slice l1 ln1 lc1,.slice m1 mn1 mc1,.string I1,.string U1] gb (ob+8 * j) [.int .i64 k3,.string S3,.bool b3,.int .u64 n3,.slice l3 ln3 lc3,.slice m3 mn3 mc3,.string I3,.string U3] w.heap.size [.int .i64 k,.string SA,.bool b0,.int .u64 (n:Int),.slice (some ⟨ga,oa,none⟩) l.length lc,.slice mo m.length mc,.string IA,.string UA] (w.heap.size+1) [.int .i64 k,.string SA,.bool b0,.int .u64 (n:Int),.slice (some ⟨gb,ob,none⟩) l2.length lc2,.slice mo2 m2.length mc2,.string IA,.string UA] 159:=⟨HCA.out.below HB4.out hga,HCB.out.below HB4.out hgb,(HB4.out.block _ (row_lt HXAR.out)).trans HXAR.out,(HB4.out.block _ (row_lt HXBR.out)).trans HXBR.out⟩
    go_simp;refine hK.out _ _ hS4 ?_;clear hK K2 hb4
    refine seq_take _ rfl (fun K2 hK=>?_);go_simp;(first|refine hK _ ?_|refine ⟨_,fun _ _=>rfl,hK _ ?_⟩);clear hK K2
    refine seq_done ?_
    clear ea0 ea1 ea2 ea3 ea4 ea5 ea6 ea7 eb0 eb1 eb2 eb3 eb4 eb5 eb6 eb7 xa4 xb4 hne hS hS4
    have HBW:=Lib.hid (below_step HWB.out HB4.out)
    cases bb with
    | true =>
     have HE:=Lib.hid (alike_iff.1 HBB.out)
     go_wp2_with fail
     have hj:=HJ.out
     go_roundg (gk - 1)
     case measure=>omega
     case rel=>exact ⟨j+1,by simp,by omega,below_step HBR.out HB4.out,Lib.hid (by rw[List.take_succ_eq_append_getElem hlt,List.take_succ_eq_append_getElem hltm,HEL.out,HE.out])⟩
    | false =>
     have hr:r=false:=by rw[←HR.out];exact alike_no (fun h=>by simp only[Val.mk.injEq] at h;have h5:=h.2.2.2.2.1;have:=HBB.out;subst h5;rw[alike_yes rfl] at this;cases this)
     subst hr
     go_wp2_with fail
     go_ret
     exact ⟨rfl,HBW.out⟩
   ·have hjn:j=l.length:=by have:=HJ.out;omega
    have hr:r=true:=by
     rw[←HR.out]
     refine alike_yes ?_
     have h:=HEL.out
     rw[hjn,List.take_length,HEQ.out.2.2.2,List.take_length] at h
     rw[h,HEQ.out.1,HEQ.out.2.1,HEQ.out.2.2.1,HM.out]
    subst hr
    clear hjn
    go_wp2_with fail
    go_ret
    exact ⟨rfl,HWB.out⟩
theorem hsame_all:∀ n:Nat,(∀ x:Val,SizeOf.sizeOf x<n→SV 102 x)∧(∀ x:KV,SizeOf.sizeOf x<n→SK 84 x)∧(∀ l:List KV,SizeOf.sizeOf l<n→SKs 54 l)
 | 0=>⟨fun _ h=>by omega,fun _ h=>by omega,fun _ h=>by omega⟩
 | n+1=>by
  obtain ⟨i1,i2,i3⟩:=hsame_all n
  refine ⟨fun x h=>?_,fun x h=>?_,fun l h=>?_⟩
  ·cases x with|mk k s b n0 l m i u =>
   simp only[Val.mk.sizeOf_spec] at h
   exact hval_step k s b n0 l m i u (Lib.hid fun x hx=>i1 x (by have:=List.sizeOf_lt_of_mem hx;omega)) (Lib.hid (i3 m (by omega)))
  ·cases x with|mk key has v u =>
   simp only[KV.mk.sizeOf_spec] at h
   exact hkey_step key has v u (Lib.hid (i1 v (by omega)))
  ·exact hkeys_step l (Lib.hid fun x hx=>i2 x (by have:=List.sizeOf_lt_of_mem hx;omega))
theorem hkeys_same (l:List KV):SKs 54 l:=(hsame_all (SizeOf.sizeOf l+1)).2.2 l (by omega)
end Go.Proofs.YtcblkndiclkacaaDoor
