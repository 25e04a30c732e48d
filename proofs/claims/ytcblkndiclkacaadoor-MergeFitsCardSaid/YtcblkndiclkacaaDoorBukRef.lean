/-
  hyglaw14.BucketsJoins.
-/
import Derived.Test.YtcblkndiclkacaaDoorValTake
import Derived.Test.YtcblkndiclkacaaDoorBukWrite
import Derived.Test.YtcblkndiclkacaaDoorErrNew
import Derived.Deep.Cut
import Derived.Deep.MidRow
import Derived.Laws.Tables
import Derived.Laws.CopyOwn
import Derived.Deep.WholeRow
import Derived.Test.YtcblkndiclkacaaDoorMsgMath
import Derived.Test.YtcblkndiclkacaaDoorMsgWrite
import Derived.Deep.Strs
import Derived.IntWalk
import Derived.Test.YtcblkndiclkacaaDoorOrd
set_option maxRecDepth 1000000
set_option maxHeartbeats 16000000
namespace Go.Proofs.YtcblkndiclkacaaDoor
open Go.RowKit
open Go.RowKit
open Go.RowKit
theorem equal_any (ao bo:Option Addr) (cap bcap:Nat) (a b:List Nat) (w:World) (ha:Hid (Nats .u64 w ao a)) (hb:Hid (Nats .u64 w bo b)) (hla:a.length≤1000000000) {r:Bool} (hr:Hid (decide (a=b)=r)) :
  Calls Tryd.prog 79 #[.slice ao a.length cap,.slice bo b.length bcap] w fun e w'=>e = .returned (.bool r)∧Below w.heap.size w w':=by
 by_cases hne:a.length=b.length
 case neg =>
  have hr2:r=false:=by rw[←hr.out];exact decide_eq_false (fun h=>hne (by rw[h]))
  subst hr2
  have d1:((a.length:Int) == (b.length:Int))=false:=by rw[beq_eq_false_iff_ne];omega
  have d2:((a.length:Int) != (b.length:Int))=true:=by rw[bne_iff_ne];omega
  clear hr
  go_enter Tryd.func79,Tryd.ntmps79
  go_wp2_with fail
  go_ret
  exact ⟨rfl,Below.refl _ _⟩
 case pos =>
 obtain ⟨n,hn⟩:∃ n,a.length=n:=⟨_,rfl⟩
 have hnb:b.length=n:=by omega
 have HA0:=Lib.hid hn
 have HB0:=Lib.hid hnb
 rw[hn,hnb]
 have hn9:n≤1000000000:=by omega
 clear hne hn hnb hla
 go_enter Tryd.func79,Tryd.ntmps79
 go_wp2_with fail
 go_loopg [13] n (fun k i wr=>∃ j:Nat,j+k=n∧i = .int .i64 j∧Hid (∀ m (h1:m<a.length) (h2:m<b.length),m<j→a[m]=b[m])∧Below w.heap.size w wr)
 case atStart=>exact ⟨0,by omega,rfl,Lib.hid (fun m _ _ h=>by omega),Below.refl _ _⟩
 case round =>
  obtain ⟨j,hj,rfl,HM,hbr⟩:=hrel
  have HB:=Lib.hid hbr
  have HJ:=Lib.hid hj
  have HA:=Lib.hid (ha.out.below hbr)
  have HBB:=Lib.hid (hb.out.below hbr)
  have hjl:j≤n:=by omega
  clear hj hbr
  by_cases hlt:j<n
  ·obtain ⟨g,off,x,HX,rfl,hbl,hc⟩:=HA.out.at (i:=j) (by rw[HA0.out];exact hlt)
   obtain ⟨g2,off2,y,HY,rfl,hbl2,hc2⟩:=HBB.out.at (i:=j) (by rw[HB0.out];exact hlt)
   have hI:Below wr.heap.size wr wr.drew:=(Below.refl _ _).drew
   have hne:Nonempty { w':World // Below wr.heap.size wr w' }:=⟨⟨_,hI⟩⟩
   have hc3:∀ t:{ w':World // Below wr.heap.size wr w' },t.1.cell? ⟨g,off+j,none⟩=some (.int .u64 (x:Int)):=fun t=>(t.2.cell (p:=⟨g,off+j,none⟩) hbl).trans hc
   have hc4:∀ t:{ w':World // Below wr.heap.size wr w' },t.1.cell? ⟨g2,off2+j,none⟩=some (.int .u64 (y:Int)):=fun t=>(t.2.cell (p:=⟨g2,off2+j,none⟩) hbl2).trans hc2
   by_cases hxy:x=y
   ·have d1:((x:Int) == (y:Int))=true:=by rw[beq_iff_eq];omega
    have HM2:Hid (∀ m (h1:m<a.length) (h2:m<b.length),m<j+1→a[m]=b[m]):=Lib.hid (fun m h1 h2 hm=>by
     by_cases hmj:m=j
     ·subst hmj;rw[←HX.out,←HY.out,hxy]
     ·exact HM.out m h1 h2 (by omega))
    subst hxy
    go_wp2_with fail
    refine wp_region_seq (S:=fun w'=>Below wr.heap.size wr w') [(0,true),(1,true),(2,true),(3,true),(4,true),(5,true),(6,true),(7,true),(8,true)] (by kernel_rfl) (by kernel_rfl) (by kernel_rfl) (by kernel_rfl) hI ?_
    iterate 9 (refine seq_take _ rfl (fun K hK=>?_);go_simp;refine hK _ ?_;clear hK K)
    refine seq_done ?_
    clear hc3 hc4
    go_wp2_with fail
    have hj:=HJ.out
    go_roundg (gk - 1)
    case measure=>omega
    case rel=>exact ⟨j+1,by omega,by simp,HM2,HB.out.trans (hI.mono HB.out.size)⟩
   ·have hr2:r=false:=by
     rw[←hr.out]
     refine decide_eq_false (fun h=>?_)
     subst h
     exact hxy (by rw[HX.out,HY.out])
    subst hr2
    have d1:((x:Int) == (y:Int))=false:=by rw[beq_eq_false_iff_ne];omega
    have d2:((x:Int) != (y:Int))=true:=by rw[bne,d1];rfl
    clear hxy
    go_wp2_with fail
    refine wp_region_seq (S:=fun w'=>Below wr.heap.size wr w') [(0,true),(1,true),(2,true),(3,true),(4,true),(5,true),(6,true),(7,true),(8,true)] (by kernel_rfl) (by kernel_rfl) (by kernel_rfl) (by kernel_rfl) hI ?_
    iterate 9 (refine seq_take _ rfl (fun K hK=>?_);go_simp;refine hK _ ?_;clear hK K)
    refine seq_done ?_
    clear hc3 hc4
    go_wp2_with fail
    go_ret
    exact ⟨rfl,HB.out.trans (hI.mono HB.out.size)⟩
  ·have hjn:j=n:=by have:=HJ.out;omega
   have hr2:r=true:=by
    rw[←hr.out]
    exact decide_eq_true (List.ext_getElem (by rw[HA0.out,HB0.out]) (fun m h1 h2=>HM.out m h1 h2 (by rw[HA0.out] at h1;omega)))
   subst hr2
   go_wp2_with fail
   go_ret
   exact ⟨rfl,HB.out⟩
open Go.RowKit
open Go.ChangeShapes Go.WideShapes Go.ChangeAt Go.RowKit Go.Deep
open Go.RowKit
open Go.RowKit
theorem nums_any (ao bo:Option Addr) (cap bcap:Nat) (a b:List Nat) (w:World) (ha:Hid (Nats .u64 w ao a)) (hb:Hid (Nats .u64 w bo b)) (hla:a.length≤1000000000) {r:Bool} (hr:Hid (decide (a=b)=r)) :
  Calls Tryd.prog 23 #[.slice ao a.length cap,.slice bo b.length bcap] w fun e w'=>e = .returned (.bool r)∧Below w.heap.size w w':=by
 by_cases hne:a.length=b.length
 case neg =>
  have hr2:r=false:=by rw[←hr.out];exact decide_eq_false (fun h=>hne (by rw[h]))
  subst hr2
  have d1:((a.length:Int) == (b.length:Int))=false:=by rw[beq_eq_false_iff_ne];omega
  have d2:((a.length:Int) != (b.length:Int))=true:=by rw[bne_iff_ne];omega
  clear hr
  go_enter Tryd.func23,Tryd.ntmps23
  go_wp2_with fail
  go_ret
  exact ⟨rfl,Below.refl _ _⟩
 case pos =>
 obtain ⟨n,hn⟩:∃ n,a.length=n:=⟨_,rfl⟩
 have hnb:b.length=n:=by omega
 have HA0:=Lib.hid hn
 have HB0:=Lib.hid hnb
 rw[hn,hnb]
 have hn9:n≤1000000000:=by omega
 clear hne hn hnb hla
 go_enter Tryd.func23,Tryd.ntmps23
 go_wp2_with fail
 go_loopg [5] n (fun k i wr=>∃ j:Nat,j+k=n∧i = .int .i64 j∧Hid (∀ m (h1:m<a.length) (h2:m<b.length),m<j→a[m]=b[m])∧Below w.heap.size w wr)
 case atStart=>exact ⟨0,by omega,rfl,Lib.hid (fun m _ _ h=>by omega),Below.refl _ _⟩
 case round =>
  obtain ⟨j,hj,rfl,HM,hbr⟩:=hrel
  have HB:=Lib.hid hbr
  have HJ:=Lib.hid hj
  have HA:=Lib.hid (ha.out.below hbr)
  have HBB:=Lib.hid (hb.out.below hbr)
  have hjl:j≤n:=by omega
  clear hj hbr
  by_cases hlt:j<n
  ·obtain ⟨g,off,x,HX,rfl,hbl,hc⟩:=HA.out.at (i:=j) (by rw[HA0.out];exact hlt)
   obtain ⟨g2,off2,y,HY,rfl,hbl2,hc2⟩:=HBB.out.at (i:=j) (by rw[HB0.out];exact hlt)
   have hI:Below wr.heap.size wr wr.drew:=(Below.refl _ _).drew
   have hne:Nonempty { w':World // Below wr.heap.size wr w' }:=⟨⟨_,hI⟩⟩
   have hc3:∀ t:{ w':World // Below wr.heap.size wr w' },t.1.cell? ⟨g,off+j,none⟩=some (.int .u64 (x:Int)):=fun t=>(t.2.cell (p:=⟨g,off+j,none⟩) hbl).trans hc
   have hc4:∀ t:{ w':World // Below wr.heap.size wr w' },t.1.cell? ⟨g2,off2+j,none⟩=some (.int .u64 (y:Int)):=fun t=>(t.2.cell (p:=⟨g2,off2+j,none⟩) hbl2).trans hc2
   by_cases hxy:x=y
   ·have d1:((x:Int) == (y:Int))=true:=by rw[beq_iff_eq];omega
    have HM2:Hid (∀ m (h1:m<a.length) (h2:m<b.length),m<j+1→a[m]=b[m]):=Lib.hid (fun m h1 h2 hm=>by
     by_cases hmj:m=j
     ·subst hmj;rw[←HX.out,←HY.out,hxy]
     ·exact HM.out m h1 h2 (by omega))
    subst hxy
    go_wp2_with fail
    refine wp_region_seq (S:=fun w'=>Below wr.heap.size wr w') [(0,true),(1,true),(2,true),(3,true),(4,true),(5,true),(6,true),(7,true),(8,true)] (by kernel_rfl) (by kernel_rfl) (by kernel_rfl) (by kernel_rfl) hI ?_
    iterate 9 (refine seq_take _ rfl (fun K hK=>?_);go_simp;refine hK _ ?_;clear hK K)
    refine seq_done ?_
    clear hc3 hc4
    go_wp2_with fail
    have hj:=HJ.out
    go_roundg (gk - 1)
    case measure=>omega
    case rel=>exact ⟨j+1,by omega,by simp,HM2,HB.out.trans (hI.mono HB.out.size)⟩
   ·have hr2:r=false:=by
     rw[←hr.out]
     refine decide_eq_false (fun h=>?_)
     subst h
     exact hxy (by rw[HX.out,HY.out])
    subst hr2
    have d1:((x:Int) == (y:Int))=false:=by rw[beq_eq_false_iff_ne];omega
    have d2:((x:Int) != (y:Int))=true:=by rw[bne,d1];rfl
    clear hxy
    go_wp2_with fail
    refine wp_region_seq (S:=fun w'=>Below wr.heap.size wr w') [(0,true),(1,true),(2,true),(3,true),(4,true),(5,true),(6,true),(7,true),(8,true)] (by kernel_rfl) (by kernel_rfl) (by kernel_rfl) (by kernel_rfl) hI ?_
    iterate 9 (refine seq_take _ rfl (fun K hK=>?_);go_simp;refine hK _ ?_;clear hK K)
    refine seq_done ?_
    clear hc3 hc4
    go_wp2_with fail
    go_ret
    exact ⟨rfl,HB.out.trans (hI.mono HB.out.size)⟩
  ·have hjn:j=n:=by have:=HJ.out;omega
   have hr2:r=true:=by
    rw[←hr.out]
    exact decide_eq_true (List.ext_getElem (by rw[HA0.out,HB0.out]) (fun m h1 h2=>HM.out m h1 h2 (by rw[HA0.out] at h1;omega)))
   subst hr2
   go_wp2_with fail
   go_ret
   exact ⟨rfl,HB.out⟩
theorem refB_any (x y:Bk) (u v:List UInt8) (ao bo:Option Addr) (cap bcap:Nat) (w:World) (ha:Hid (Nats .u64 w ao x.cs)) (hb:Hid (Nats .u64 w bo y.cs)) (hla:x.cs.length≤1000000000) {r:Bool} (hr:Hid (decide (x.off=y.off∧u=v∧x.cs=y.cs)=r)) :
  Calls Tryd.prog 15 #[.agg #[.int .i32 x.off,.slice ao x.cs.length cap,.string ⟨u.toArray⟩],.agg #[.int .i32 y.off,.slice bo y.cs.length bcap,.string ⟨v.toArray⟩]] w fun e w'=>e = .returned (.bool r)∧Below w.heap.size w w':=by
 obtain ⟨X,hX⟩:∃ X:ByteArray,(⟨u.toArray⟩:ByteArray)=X:=⟨_,rfl⟩
 obtain ⟨Y,hY⟩:∃ X:ByteArray,(⟨v.toArray⟩:ByteArray)=X:=⟨_,rfl⟩
 have hXY:X=Y↔u=v:=by rw[←hX,←hY];simp
 rw[hX,hY]
 obtain ⟨W0,hW0⟩:∃ W,(w.alloc (.cells #[.int .i32 x.off,.slice ao x.cs.length cap,.string X] 24)).alloc (.cells #[.int .i32 y.off,.slice bo y.cs.length bcap,.string Y] 24)=W:=⟨_,rfl⟩
 have HB0:Hid (Below w.heap.size w W0):=Lib.hid (by rw[←hW0];exact below_step (below_new _ _) (below_new _ _))
 have HR0:Hid (W0.heap[w.heap.size]? = some (.cells #[.int .i32 x.off,.slice ao x.cs.length cap,.string X] 24 (0,0))):=Lib.hid (by rw[←hW0];exact (Below.heap_alloc _ _ _ (row_lt (heap_alloc_new w _))).trans (heap_alloc_new w _))
 have HS0:Hid (W0.heap[(w.alloc (.cells #[.int .i32 x.off,.slice ao x.cs.length cap,.string X] 24)).heap.size]? = some (.cells #[.int .i32 y.off,.slice bo y.cs.length bcap,.string Y] 24 (0,0))):=Lib.hid (by rw[←hW0];exact heap_alloc_new _ _)
 have HW0:=Lib.hid hW0
 have HNA:=Lib.hid (ha.out.below HB0.out)
 have HNB:=Lib.hid (hb.out.below HB0.out)
 obtain ⟨r1,hr1⟩:∃ r1,decide (x.cs=y.cs)=r1:=⟨_,rfl⟩
 have HP:=Lib.hid (nums_any ao bo cap bcap x.cs y.cs W0 HNA HNB hla (Lib.hid hr1))
 clear hX hY hW0 ha hb
 by_cases ho:x.off=y.off
 case neg =>
  have hr2:r=false:=by rw[←hr.out];exact decide_eq_false (fun h=>ho h.1)
  subst hr2
  have d1:(x.off == y.off)=false:=by rw[beq_eq_false_iff_ne];exact ho
  clear hr ho hXY hr1
  go_enter Tryd.func15,Tryd.ntmps15
  go_wp2_with fail
  go_ret
  rw[HW0.out]
  exact ⟨rfl,HB0.out⟩
 case pos =>
  have d1:(x.off == y.off)=true:=by rw[beq_iff_eq];exact ho
  have HRR:Hid ((r1&&decide (u=v))=r):=Lib.hid (by
   rw[←hr.out,←hr1,←Bool.decide_and]
   exact decide_eq_decide.2 ⟨fun h=>⟨ho,h.2,h.1⟩,fun h=>⟨h.2.2,h.2.1⟩⟩)
  have HXY:=Lib.hid hXY
  clear hr ho hr1 hXY
  go_enter Tryd.func15,Tryd.ntmps15
  go_wp2_with fail
  rw[HW0.out]
  refine HP.out.mono ?_;rintro e w1 ⟨rfl,hb1⟩
  have HB1:=Lib.hid (below_step HB0.out hb1)
  have hc0:=row_cell ((hb1.block _ (row_lt HR0.out)).trans HR0.out) (j:=2) rfl
  have hc1:=row_cell ((hb1.block _ (row_lt HS0.out)).trans HS0.out) (j:=2) rfl
  rw[show (w.alloc (.cells #[.int .i32 x.off,.slice ao x.cs.length cap,.string X] 24)).heap.size=w.heap.size+1 from Array.size_push ..] at hc1
  clear hb1
  cases r1 with
  | false =>
   have hr2:r=false:=by rw[←HRR.out];rfl
   subst hr2
   clear hc0 hc1
   go_wp2_with fail
   go_ret
   exact ⟨rfl,HB1.out⟩
  | true =>
   by_cases hu:u=v
   ·have hr2:r=true:=by rw[←HRR.out];simp[hu]
    subst hr2
    have d2:(X.toList == Y.toList)=true:=by rw[HXY.out.2 hu];simp
    clear hu
    go_wp2_with fail
    go_ret
    exact ⟨rfl,HB1.out⟩
   ·have hr2:r=false:=by rw[←HRR.out];simp[hu]
    subst hr2
    have d2:(X.toList == Y.toList)=false:=by
     rw[beq_eq_false_iff_ne,ByteArray.toList_eq,ByteArray.toList_eq]
     intro h
     exact hu (HXY.out.1 (ByteArray.ext (Array.ext' h)))
    clear hu
    go_wp2_with fail
    go_ret
    exact ⟨rfl,HB1.out⟩
end Go.Proofs.YtcblkndiclkacaaDoor
