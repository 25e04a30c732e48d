/-
  exem.Same; hygref.Exemplar: any two.
-/
import Derived.Test.YtficgfemmijaaaaGreatExRoom
import Derived.Test.YtficgfemmijaaaaGreatValSame
import Derived.Test.YtficgfemmijaaaaGreatAlikeB
import Derived.Test.YtficgfemmijaaaaGreatMsgMath
import Derived.Test.YtficgfemmijaaaaGreatKit
import Derived.Test.YtficgfemmijaaaaGreatWireMath
import Derived.Test.YtficgfemmijaaaaGreatWireR5
import Derived.Test.YtficgfemmijaaaaGreatErrNew
import Derived.Test.YtficgfemmijaaaaGreatMsgRead
import Derived.Test.YtficgfemmijaaaaGreatGet
import Derived.Test.YtficgfemmijaaaaGreatMsgWrite
import Derived.Test.YtficgfemmijaaaaGreatOrd
set_option maxRecDepth 1000000
set_option maxHeartbeats 16000000
namespace Go.Proofs.YtficgfemmijaaaaGreat
open Go.RowKit
open Lib (hid)
theorem ex_same (x y:Ex)(ca cb:List Value)(P Q:Nat→Prop)(w:World)(harg:ex_arg x)(ha:exCel.R w P x ca)(hb:exCel.R w Q y cb) :
 Calls Tryz.prog 21 #[.agg ca.toArray,.agg cb.toArray] w fun e w'=>e = .returned (.bool (alike x y))∧Below w.heap.size w w':=by
 obtain ⟨⟨t1,⟨⟨⟨k1,n1⟩,⟨a1,b1⟩⟩,l1⟩⟩,u1⟩:=x;obtain ⟨⟨t2,⟨⟨⟨k2,n2⟩,⟨a2,b2⟩⟩,l2⟩⟩,u2⟩:=y;obtain ⟨lo1,lc1,rfl,hra⟩:=ha;obtain ⟨lo2,lc2,rfl,hrb⟩:=hb;obtain ⟨_,_,_,_,_,hll1,hzl1,_⟩:=harg;have HRA:=hid hra;have HRB:=hid hrb;have HLIM:=hid hll1;have HLEN:=hid hzl1;clear hra hrb hll1 hzl1;dsimp only[strV];obtain ⟨Xa1,ha1⟩:∃ X:ByteArray,(⟨a1.toArray⟩:ByteArray)=X:=⟨_,rfl⟩
 have ga1:Xa1.data.toList=a1:=by rw[←ha1]
 obtain ⟨Xa2,ha2⟩:∃ X:ByteArray,(⟨a2.toArray⟩:ByteArray)=X:=⟨_,rfl⟩
 have ga2:Xa2.data.toList=a2:=by rw[←ha2]
 obtain ⟨Xb1,hb1⟩:∃ X:ByteArray,(⟨b1.toArray⟩:ByteArray)=X:=⟨_,rfl⟩
 have gb1:Xb1.data.toList=b1:=by rw[←hb1]
 obtain ⟨Xb2,hb2⟩:∃ X:ByteArray,(⟨b2.toArray⟩:ByteArray)=X:=⟨_,rfl⟩
 have gb2:Xb2.data.toList=b2:=by rw[←hb2]
 obtain ⟨Xu1,hu1⟩:∃ X:ByteArray,(⟨u1.toArray⟩:ByteArray)=X:=⟨_,rfl⟩
 have gu1:Xu1.data.toList=u1:=by rw[←hu1]
 obtain ⟨Xu2,hu2⟩:∃ X:ByteArray,(⟨u2.toArray⟩:ByteArray)=X:=⟨_,rfl⟩
 have gu2:Xu2.data.toList=u2:=by rw[←hu2]
 rw[ha1,hb1,hu1,ha2,hb2,hu2];clear ha1 hb1 hu1 ha2 hb2 hu2;obtain ⟨W,hW⟩:∃ W,(w.alloc (.cells #[.slice lo1 l1.length lc1,.int .u64 t1,.int .i64 k1,.int .u64 n1,.string Xa1,.string Xb1,.string Xu1] 54)).alloc (.cells #[.slice lo2 l2.length lc2,.int .u64 t2,.int .i64 k2,.int .u64 n2,.string Xa2,.string Xb2,.string Xu2] 54)=W:=⟨_,rfl⟩
 have HBW:Hid (Below w.heap.size w W):=hid (by rw[←hW];exact below_step (below_new _ _) (below_new _ _));have HXA:Hid (W.heap[w.heap.size]? = some (.cells #[.slice lo1 l1.length lc1,.int .u64 t1,.int .i64 k1,.int .u64 n1,.string Xa1,.string Xb1,.string Xu1] 54 (0,0))):=hid (by rw[←hW];exact (Below.heap_alloc _ _ _ (by simp)).trans (heap_alloc_new w _));have HXB:Hid (W.heap[w.heap.size+1]? = some (.cells #[.slice lo2 l2.length lc2,.int .u64 t2,.int .i64 k2,.int .u64 n2,.string Xa2,.string Xb2,.string Xu2] 54 (0,0))):=hid (by rw[←hW];have:=heap_alloc_new (w.alloc (.cells #[.slice lo1 l1.length lc1,.int .u64 t1,.int .i64 k1,.int .u64 n1,.string Xa1,.string Xb1,.string Xu1] 54)) (.cells #[.slice lo2 l2.length lc2,.int .u64 t2,.int .i64 k2,.int .u64 n2,.string Xa2,.string Xb2,.string Xu2] 54);simpa using this);have HK:=hid (keys_same l1 l2 lo1 lo2 lc1 lc2 P Q W HLEN.out HLIM.out (HRA.out.below HBW.out) (HRB.out.below HBW.out));have HW:=hid hW;clear hW
 by_cases et:t1=t2
 case neg =>
  have dt:((t1:Int) == (t2:Int))=false:=by rw[beq_eq_false_iff_ne];omega
  rw[alike_no (x:=((t1,(((k1,n1),(a1,b1)),l1)),u1)) (y:=((t2,(((k2,n2),(a2,b2)),l2)),u2)) (fun h=>et (by simp only[Prod.mk.injEq] at h;exact h.1.1))];clear  et ga1 ga2 gb1 gb2 gu1 gu2;go_enter Tryz.func21,Tryz.ntmps21;go_wp2_with fail;rw[HW.out];go_ret;exact ⟨rfl,HBW.out⟩
 case pos =>
  have dt:((t1:Int) == (t2:Int))=true:=by rw[beq_iff_eq];omega
  by_cases ek:k1=k2
  case neg =>
   have dk:((k1:Int) == (k2:Int))=false:=by rw[beq_eq_false_iff_ne];omega
   rw[alike_no (x:=((t1,(((k1,n1),(a1,b1)),l1)),u1)) (y:=((t2,(((k2,n2),(a2,b2)),l2)),u2)) (fun h=>ek (by simp only[Prod.mk.injEq] at h;exact h.1.2.1.1.1))];clear et ek ga1 ga2 gb1 gb2 gu1 gu2;go_enter Tryz.func21,Tryz.ntmps21;go_wp2_with fail;rw[HW.out];go_ret;exact ⟨rfl,HBW.out⟩
  case pos =>
   have dk:((k1:Int) == (k2:Int))=true:=by rw[beq_iff_eq];omega
   by_cases en:n1=n2
   case neg =>
    have dn:((n1:Int) == (n2:Int))=false:=by rw[beq_eq_false_iff_ne];omega
    rw[alike_no (x:=((t1,(((k1,n1),(a1,b1)),l1)),u1)) (y:=((t2,(((k2,n2),(a2,b2)),l2)),u2)) (fun h=>en (by simp only[Prod.mk.injEq] at h;exact h.1.2.1.1.2))];clear et ek en ga1 ga2 gb1 gb2 gu1 gu2;go_enter Tryz.func21,Tryz.ntmps21;go_wp2_with fail;rw[HW.out];go_ret;exact ⟨rfl,HBW.out⟩
   case pos =>
    have dn:((n1:Int) == (n2:Int))=true:=by rw[beq_iff_eq];omega
    by_cases ea:a1=a2
    case neg =>
     have da:=(text_ne ga1 ga2 ea).2;rw[alike_no (x:=((t1,(((k1,n1),(a1,b1)),l1)),u1)) (y:=((t2,(((k2,n2),(a2,b2)),l2)),u2)) (fun h=>ea (by simp only[Prod.mk.injEq] at h;exact h.1.2.1.2.1))];clear et ek en ea ga1 ga2 gb1 gb2 gu1 gu2;go_enter Tryz.func21,Tryz.ntmps21;go_wp2_with fail;rw[HW.out];go_ret;exact ⟨rfl,HBW.out⟩
    case pos =>
     obtain rfl:=ba_same ga1 ga2 ea
     by_cases eb:b1=b2
     case neg =>
      have db:=(text_ne gb1 gb2 eb).2;rw[alike_no (x:=((t1,(((k1,n1),(a1,b1)),l1)),u1)) (y:=((t2,(((k2,n2),(a2,b2)),l2)),u2)) (fun h=>eb (by simp only[Prod.mk.injEq] at h;exact h.1.2.1.2.2))];clear et ek en ea eb ga1 ga2 gb1 gb2 gu1 gu2;go_enter Tryz.func21,Tryz.ntmps21;go_wp2_with fail;rw[HW.out];go_ret;exact ⟨rfl,HBW.out⟩
     case pos =>
      obtain rfl:=ba_same gb1 gb2 eb
      by_cases eu:u1=u2
      case neg =>
       have du:=(text_ne gu1 gu2 eu).2;rw[alike_no (x:=((t1,(((k1,n1),(a1,b1)),l1)),u1)) (y:=((t2,(((k2,n2),(a2,b2)),l2)),u2)) (fun h=>eu (by simp only[Prod.mk.injEq] at h;exact h.2))];clear et ek en ea eb eu ga1 ga2 gb1 gb2 gu1 gu2;go_enter Tryz.func21,Tryz.ntmps21;go_wp2_with fail;rw[HW.out];go_ret;exact ⟨rfl,HBW.out⟩
      case pos =>
       obtain rfl:=ba_same gu1 gu2 eu
       have hr:alike ((t1,(((k1,n1),(a1,b1)),l1)),u1) ((t2,(((k2,n2),(a2,b2)),l2)),u2)=alike l1 l2:=by
        by_cases h:l1=l2
        · rw[alike_yes h,alike_yes (by rw[h,et,ek,en,ea,eb,eu])]
        · rw[alike_no h,alike_no (fun e=>h (by simp only[Prod.mk.injEq] at e;exact e.1.2.2))]
       rw[hr];clear hr et ek en ea eb eu ga1 ga2 gb1 gb2 gu1 gu2;go_enter Tryz.func21,Tryz.ntmps21;go_wp2_with fail;rw[HW.out];refine HK.out.mono ?_;rintro e w4 ⟨rfl,hb4⟩;have HB4:=hid (below_step HBW.out hb4);clear hb4;go_wp2_with fail;go_ret;exact ⟨rfl,HB4.out⟩
end Go.Proofs.YtficgfemmijaaaaGreat
