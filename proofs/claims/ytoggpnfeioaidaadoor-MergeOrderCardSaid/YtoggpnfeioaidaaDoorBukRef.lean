/-
  hyglaw14.BucketsJoins.
-/
import Derived.Test.YtoggpnfeioaidaaDoorValTake
import Derived.Test.YtoggpnfeioaidaaDoorBukWrite
import Derived.Test.YtoggpnfeioaidaaDoorErrNew
import Derived.Deep.Cut
import Derived.Deep.MidRow
import Derived.Laws.Tables
import Derived.Laws.CopyOwn
import Derived.Deep.WholeRow
import Derived.Test.YtoggpnfeioaidaaDoorMsgMath
import Derived.Test.YtoggpnfeioaidaaDoorMsgWrite
import Derived.Deep.Strs
import Derived.IntWalk
import Derived.Test.YtoggpnfeioaidaaDoorOrd
set_option maxRecDepth 1000000
set_option maxHeartbeats 16000000
namespace Go.Proofs.YtoggpnfeioaidaaDoor
open Go.RowKit
open Go.RowKit
open Go.RowKit
theorem equal_any (ao bo:Option Addr) (cap bcap:Nat) (a b:List Nat) (w:World) (ha:Hid (Nats .u64 w ao a)) (hb:Hid (Nats .u64 w bo b)) (hla:a.length≤1000000000) {r:Bool} (hr:Hid (decide (a=b)=r)) :
  Calls Tryd.prog 53 #[.slice ao a.length cap,.slice bo b.length bcap] w fun e w'=>e = .returned (.bool r)∧Below w.heap.size w w':=by
 by_cases hne:a.length=b.length
 case neg =>
  have hr2:r=false:=by rw[←hr.out];exact decide_eq_false (fun h=>hne (by rw[h]))
  subst hr2
  have d1:((a.length:Int) == (b.length:Int))=false:=by rw[beq_eq_false_iff_ne];omega
  have d2:((a.length:Int) != (b.length:Int))=true:=by rw[bne_iff_ne];omega
  clear hr
  go_enter Tryd.func53,Tryd.ntmps53
  go_wp2_with fail
  go_ret
  exact ⟨rfl,Below.refl _ _⟩
 case pos =>
 obtain ⟨n,hn⟩:∃ n,a.length=n:=⟨_,rfl⟩
 have hnb:b.length=n:=by omega
 have HA0:=Lib.hid hn
 have HB0:=Lib.hid hnb
 rw[hn,hnb]
 have hn9:n≤1000000000:=by omega
 clear hne hn hnb hla
 go_enter Tryd.func53,Tryd.ntmps53
 go_wp2_with fail
 go_loopg [13] n (fun k i wr=>∃ j:Nat,j+k=n∧i = .int .i64 j∧Hid (∀ m (h1:m<a.length) (h2:m<b.length),m<j→a[m]=b[m])∧Below w.heap.size w wr)
 case atStart=>exact ⟨0,by omega,rfl,Lib.hid (fun m _ _ h=>by omega),Below.refl _ _⟩
 case round =>
  obtain ⟨j,hj,rfl,HM,hbr⟩:=hrel
  have HB:=Lib.hid hbr
  have HJ:=Lib.hid hj
  have HA:=Lib.hid (ha.out.below hbr)
  have HBB:=Lib.hid (hb.out.below hbr)
  have hjl:j≤n:=by omega
  clear hj hbr
  by_cases hlt:j<n
  ·obtain ⟨g,off,x,HX,rfl,hbl,hc⟩:=HA.out.at (i:=j) (by rw[HA0.out];exact hlt)
   obtain ⟨g2,off2,y,HY,rfl,hbl2,hc2⟩:=HBB.out.at (i:=j) (by rw[HB0.out];exact hlt)
   have hI:Below wr.heap.size wr wr.drew:=(Below.refl _ _).drew
   have hne:Nonempty { w':World // Below wr.heap.size wr w' }:=⟨⟨_,hI⟩⟩
   have hc3:∀ t:{ w':World // Below wr.heap.size wr w' },t.1.cell? ⟨g,off+j,none⟩=some (.int .u64 (x:Int)):=fun t=>(t.2.cell (p:=⟨g,off+j,none⟩) hbl).trans hc
   have hc4:∀ t:{ w':World // Below wr.heap.size wr w' },t.1.cell? ⟨g2,off2+j,none⟩=some (.int .u64 (y:Int)):=fun t=>(t.2.cell (p:=⟨g2,off2+j,none⟩) hbl2).trans hc2
   by_cases hxy:x=y
   ·have d1:((x:Int) == (y:Int))=true:=by rw[beq_iff_eq];omega
    have HM2:Hid (∀ m (h1:m<a.length) (h2:m<b.length),m<j+1→a[m]=b[m]):=Lib.hid (fun m h1 h2 hm=>by
     by_cases hmj:m=j
     ·subst hmj;rw[←HX.out,←HY.out,hxy]
     ·exact HM.out m h1 h2 (by omega))
    subst hxy
    go_wp2_with fail
    refine wp_region_seq (S:=fun w'=>Below wr.heap.size wr w') [(0,true),(1,true),(2,true),(3,true),(4,true),(5,true),(6,true),(7,true),(8,true)] (by kernel_rfl) (by kernel_rfl) (by kernel_rfl) (by kernel_rfl) hI ?_
    iterate 9 (refine seq_take _ rfl (fun K hK=>?_);go_simp;refine hK _ ?_;clear hK K)
    refine seq_done ?_
    clear hc3 hc4
    go_wp2_with fail
    have hj:=HJ.out
    go_roundg (gk - 1)
    case measure=>omega
    case rel=>exact ⟨j+1,by omega,by simp,HM2,HB.out.trans (hI.mono HB.out.size)⟩
   ·have hr2:r=false:=by
     rw[←hr.out]
     refine decide_eq_false (fun h=>?_)
     subst h
     exact hxy (by rw[HX.out,HY.out])
    subst hr2
    have d1:((x:Int) == (y:Int))=false:=by rw[beq_eq_false_iff_ne];omega
    have d2:((x:Int) != (y:Int))=true:=by rw[bne,d1];rfl
    clear hxy
    go_wp2_with fail
    refine wp_region_seq (S:=fun w'=>Below wr.heap.size wr w') [(0,true),(1,true),(2,true),(3,true),(4,true),(5,true),(6,true),(7,true),(8,true)] (by kernel_rfl) (by kernel_rfl) (by kernel_rfl) (by kernel_rfl) hI ?_
    iterate 9 (refine seq_take _ rfl (fun K hK=>?_);go_simp;refine hK _ ?_;clear hK K)
    refine seq_done ?_
    clear hc3 hc4
    go_wp2_with fail
    go_ret
    exact ⟨rfl,HB.out.trans (hI.mono HB.out.size)⟩
  ·have hjn:j=n:=by have:=HJ.out;omega
   have hr2:r=true:=by
    rw[←hr.out]
    exact decide_eq_true (List.ext_getElem (by rw[HA0.out,HB0.out]) (fun m h1 h2=>HM.out m h1 h2 (by rw[HA0.out] at h1;omega)))
   subst hr2
   go_wp2_with fail
   go_ret
   exact ⟨rfl,HB.out⟩
open Go.RowKit
open Go.ChangeShapes Go.WideShapes Go.ChangeAt Go.RowKit Go.Deep
open Go.RowKit
open Go.RowKit
theorem nums_any (ao bo:Option Addr) (cap bcap:Nat) (a b:List Nat) (w:World) (ha:Hid (Nats .u64 w ao a)) (hb:Hid (Nats .u64 w bo b)) (hla:a.length≤1000000000) {r:Bool} (hr:Hid (decide (a=b)=r)) :
  Calls Tryd.prog 14 #[.slice ao a.length cap,.slice bo b.length bcap] w fun e w'=>e = .returned (.bool r)∧Below w.heap.size w w':=by
 by_cases hne:a.length=b.length
 case neg =>
  have hr2:r=false:=by rw[←hr.out];exact decide_eq_false (fun h=>hne (by rw[h]))
  subst hr2
  have d1:((a.length:Int) == (b.length:Int))=false:=by rw[beq_eq_false_iff_ne];omega
  have d2:((a.length:Int) != (b.length:Int))=true:=by rw[bne_iff_ne];omega
  clear hr
  go_enter Tryd.func14,Tryd.ntmps14
  go_wp2_with fail
  go_ret
  exact ⟨rfl,Below.refl _ _⟩
 case pos =>
 obtain ⟨n,hn⟩:∃ n,a.length=n:=⟨_,rfl⟩
 have hnb:b.length=n:=by omega
 have HA0:=Lib.hid hn
 have HB0:=Lib.hid hnb
 rw[hn,hnb]
 have hn9:n≤1000000000:=by omega
 clear hne hn hnb hla
 go_enter Tryd.func14,Tryd.ntmps14
 go_wp2_with fail
 go_loopg [5] n (fun k i wr=>∃ j:Nat,j+k=n∧i = .int .i64 j∧Hid (∀ m (h1:m<a.length) (h2:m<b.length),m<j→a[m]=b[m])∧Below w.heap.size w wr)
 case atStart=>exact ⟨0,by omega,rfl,Lib.hid (fun m _ _ h=>by omega),Below.refl _ _⟩
 case round =>
  obtain ⟨j,hj,rfl,HM,hbr⟩:=hrel
  have HB:=Lib.hid hbr
  have HJ:=Lib.hid hj
  have HA:=Lib.hid (ha.out.below hbr)
  have HBB:=Lib.hid (hb.out.below hbr)
  have hjl:j≤n:=by omega
  clear hj hbr
  by_cases hlt:j<n
  ·obtain ⟨g,off,x,HX,rfl,hbl,hc⟩:=HA.out.at (i:=j) (by rw[HA0.out];exact hlt)
   obtain ⟨g2,off2,y,HY,rfl,hbl2,hc2⟩:=HBB.out.at (i:=j) (by rw[HB0.out];exact hlt)
   have hI:Below wr.heap.size wr wr.drew:=(Below.refl _ _).drew
   have hne:Nonempty { w':World // Below wr.heap.size wr w' }:=⟨⟨_,hI⟩⟩
   have hc3:∀ t:{ w':World // Below wr.heap.size wr w' },t.1.cell? ⟨g,off+j,none⟩=some (.int .u64 (x:Int)):=fun t=>(t.2.cell (p:=⟨g,off+j,none⟩) hbl).trans hc
   have hc4:∀ t:{ w':World // Below wr.heap.size wr w' },t.1.cell? ⟨g2,off2+j,none⟩=some (.int .u64 (y:Int)):=fun t=>(t.2.cell (p:=⟨g2,off2+j,none⟩) hbl2).trans hc2
   by_cases hxy:x=y
   ·have d1:((x:Int) == (y:Int))=true:=by rw[beq_iff_eq];omega
    have HM2:Hid (∀ m (h1:m<a.length) (h2:m<b.length),m<j+1→a[m]=b[m]):=Lib.hid (fun m h1 h2 hm=>by
     by_cases hmj:m=j
     ·subst hmj;rw[←HX.out,←HY.out,hxy]
     ·exact HM.out m h1 h2 (by omega))
    subst hxy
    go_wp2_with fail
    refine wp_region_seq (S:=fun w'=>Below wr.heap.size wr w') [(0,true),(1,true),(2,true),(3,true),(4,true),(5,true),(6,true),(7,true),(8,true)] (by kernel_rfl) (by kernel_rfl) (by kernel_rfl) (by kernel_rfl) hI ?_
    iterate 9 (refine seq_take _ rfl (fun K hK=>?_);go_simp;refine hK _ ?_;clear hK K)
    refine seq_done ?_
    clear hc3 hc4
    go_wp2_with fail
    have hj:=HJ.out
    go_roundg (gk - 1)
    case measure=>omega
    case rel=>exact ⟨j+1,by omega,by simp,HM2,HB.out.trans (hI.mono HB.out.size)⟩
   ·have hr2:r=false:=by
     rw[←hr.out]
     refine decide_eq_false (fun h=>?_)
     subst h
     exact hxy (by rw[HX.out,HY.out])
    subst hr2
    have d1:((x:Int) == (y:Int))=false:=by rw[beq_eq_false_iff_ne];omega
    have d2:((x:Int) != (y:Int))=true:=by rw[bne,d1];rfl
    clear hxy
    go_wp2_with fail
    refine wp_region_seq (S:=fun w'=>Below wr.heap.size wr w') [(0,true),(1,true),(2,true),(3,true),(4,true),(5,true),(6,true),(7,true),(8,true)] (by kernel_rfl) (by kernel_rfl) (by kernel_rfl) (by kernel_rfl) hI ?_
    iterate 9 (refine seq_take _ rfl (fun K hK=>?_);go_simp;refine hK _ ?_;clear hK K)
    refine seq_done ?_
    clear hc3 hc4
    go_wp2_with fail
    go_ret
    exact ⟨rfl,HB.out.trans (hI.mono HB.out.size)⟩
  ·have hjn:j=n:=by have:=HJ.out;omega
   have hr2:r=true:=by
    rw[←hr.out]
    exact decide_eq_true (List.ext_getElem (by rw[HA0.out,HB0.out]) (fun m h1 h2=>HM.out m h1 h2 (by rw[HA0.out] at h1;omega)))
   subst hr2
   go_wp2_with fail
   go_ret
   exact ⟨rfl,HB.out⟩
end Go.Proofs.YtoggpnfeioaidaaDoor
