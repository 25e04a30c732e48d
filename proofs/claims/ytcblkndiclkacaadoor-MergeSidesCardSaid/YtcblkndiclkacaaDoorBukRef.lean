/-
  hyglaw14.BucketsJoins.
-/
import Derived.Test.YtcblkndiclkacaaDoorMsgRead
import Derived.Test.YtcblkndiclkacaaDoorKit
import Derived.Deep.LoopGhost
import Derived.Test.YtcblkndiclkacaaDoorErrNew
import Derived.Test.YtcblkndiclkacaaDoorGet
import Derived.Test.YtcblkndiclkacaaDoorVal
import Derived.Deep.Cut
import Derived.Test.YtcblkndiclkacaaDoorOrd
import Derived.IntWalk
import Derived.Deep.MidRow
import Derived.Test.YtcblkndiclkacaaDoorUpd
import Derived.Test.YtcblkndiclkacaaDoorBukWrite
import Derived.Laws.Tables
import Derived.Laws.CopyOwn
import Derived.Deep.WholeRow
import Derived.Test.YtcblkndiclkacaaDoorMsgMath
import Derived.Test.YtcblkndiclkacaaDoorMsgWrite
import Derived.Deep.Strs
set_option maxRecDepth 1000000
set_option maxHeartbeats 16000000
namespace Go.Proofs.YtcblkndiclkacaaDoor
open Go.RowKit
open Go.RowKit
open Go.RowKit
theorem equal_any (ao bo:Option Addr) (cap bcap:Nat) (a b:List Nat) (w:World) (ha:Hid (Nats .u64 w ao a)) (hb:Hid (Nats .u64 w bo b)) (hla:a.length≤1000000000) {r:Bool} (hr:Hid (decide (a=b)=r)) :
  Calls Tryd.prog 79 #[.slice ao a.length cap,.slice bo b.length bcap] w fun e w'=>e = .returned (.bool r)∧Below w.heap.size w w':=by
 by_cases hne:a.length=b.length
 case neg =>
  have hr2:r=false:=by rw[←hr.out];exact decide_eq_false (fun h=>hne (by rw[h]))
  subst hr2
  have d1:((a.length:Int) == (b.length:Int))=false:=by rw[beq_eq_false_iff_ne];omega
  have d2:((a.length:Int) != (b.length:Int))=true:=by rw[bne_iff_ne];omega
  clear hr
  go_enter Tryd.func79,Tryd.ntmps79
  go_wp2_with fail
  go_ret
  exact ⟨rfl,Below.refl _ _⟩
 case pos =>
 obtain ⟨n,hn⟩:∃ n,a.length=n:=⟨_,rfl⟩
 have hnb:b.length=n:=by omega
 have HA0:=Lib.hid hn
 have HB0:=Lib.hid hnb
 rw[hn,hnb]
 have hn9:n≤1000000000:=by omega
 clear hne hn hnb hla
 go_enter Tryd.func79,Tryd.ntmps79
 go_wp2_with fail
 go_loopg [13] n (fun k i wr=>∃ j:Nat,j+k=n∧i = .int .i64 j∧Hid (∀ m (h1:m<a.length) (h2:m<b.length),m<j→a[m]=b[m])∧Below w.heap.size w wr)
 case atStart=>exact ⟨0,by omega,rfl,Lib.hid (fun m _ _ h=>by omega),Below.refl _ _⟩
 case round =>
  obtain ⟨j,hj,rfl,HM,hbr⟩:=hrel
  have HB:=Lib.hid hbr
  have HJ:=Lib.hid hj
  have HA:=Lib.hid (ha.out.below hbr)
  have HBB:=Lib.hid (hb.out.below hbr)
  have hjl:j≤n:=by omega
  clear hj hbr
  by_cases hlt:j<n
  ·obtain ⟨g,off,x,HX,rfl,hbl,hc⟩:=HA.out.at (i:=j) (by rw[HA0.out];exact hlt)
   obtain ⟨g2,off2,y,HY,rfl,hbl2,hc2⟩:=HBB.out.at (i:=j) (by rw[HB0.out];exact hlt)
   have hI:Below wr.heap.size wr wr.drew:=(Below.refl _ _).drew
   have hne:Nonempty { w':World // Below wr.heap.size wr w' }:=⟨⟨_,hI⟩⟩
   have hc3:∀ t:{ w':World // Below wr.heap.size wr w' },t.1.cell? ⟨g,off+j,none⟩=some (.int .u64 (x:Int)):=fun t=>(t.2.cell (p:=⟨g,off+j,none⟩) hbl).trans hc
   have hc4:∀ t:{ w':World // Below wr.heap.size wr w' },t.1.cell? ⟨g2,off2+j,none⟩=some (.int .u64 (y:Int)):=fun t=>(t.2.cell (p:=⟨g2,off2+j,none⟩) hbl2).trans hc2
   by_cases hxy:x=y
   ·have d1:((x:Int) == (y:Int))=true:=by rw[beq_iff_eq];omega
    have HM2:Hid (∀ m (h1:m<a.length) (h2:m<b.length),m<j+1→a[m]=b[m]):=Lib.hid (fun m h1 h2 hm=>by
     by_cases hmj:m=j
     ·subst hmj;rw[←HX.out,←HY.out,hxy]
     ·exact HM.out m h1 h2 (by omega))
    subst hxy
    go_wp2_with fail
    refine wp_region_seq (S:=fun w'=>Below wr.heap.size wr w') [(0,true),(1,true),(2,true),(3,true),(4,true),(5,true),(6,true),(7,true),(8,true)] (by kernel_rfl) (by kernel_rfl) (by kernel_rfl) (by kernel_rfl) hI ?_
    iterate 9 (refine seq_take _ rfl (fun K hK=>?_);go_simp;refine hK _ ?_;clear hK K)
    refine seq_done ?_
    clear hc3 hc4
    go_wp2_with fail
    have hj:=HJ.out
    go_roundg (gk - 1)
    case measure=>omega
    case rel=>exact ⟨j+1,by omega,by simp,HM2,HB.out.trans (hI.mono HB.out.size)⟩
   ·have hr2:r=false:=by
     rw[←hr.out]
     refine decide_eq_false (fun h=>?_)
     subst h
     exact hxy (by rw[HX.out,HY.out])
    subst hr2
    have d1:((x:Int) == (y:Int))=false:=by rw[beq_eq_false_iff_ne];omega
    have d2:((x:Int) != (y:Int))=true:=by rw[bne,d1];rfl
    clear hxy
    go_wp2_with fail
    refine wp_region_seq (S:=fun w'=>Below wr.heap.size wr w') [(0,true),(1,true),(2,true),(3,true),(4,true),(5,true),(6,true),(7,true),(8,true)] (by kernel_rfl) (by kernel_rfl) (by kernel_rfl) (by kernel_rfl) hI ?_
    iterate 9 (refine seq_take _ rfl (fun K hK=>?_);go_simp;refine hK _ ?_;clear hK K)
    refine seq_done ?_
    clear hc3 hc4
    go_wp2_with fail
    go_ret
    exact ⟨rfl,HB.out.trans (hI.mono HB.out.size)⟩
  ·have hjn:j=n:=by have:=HJ.out;omega
   have hr2:r=true:=by
    rw[←hr.out]
    exact decide_eq_true (List.ext_getElem (by rw[HA0.out,HB0.out]) (fun m h1 h2=>HM.out m h1 h2 (by rw[HA0.out] at h1;omega)))
   subst hr2
   go_wp2_with fail
   go_ret
   exact ⟨rfl,HB.out⟩
open Go.RowKit
open Go.ChangeShapes Go.WideShapes Go.ChangeAt Go.RowKit Go.Deep
theorem ints_trod {H:Type} {enc:TypeId × Value→H} {P:Program} {W:World} {sp:Nat→Bool} {T E:TypeId} {k:IntKind} {v:Value} {fuel:Nat} {x:DataW H × List MemPlace}
  (hT:P.underlying T=some (.slice E)) (hE:P.underlying E=some (.int k)) (hcE:P.cellsOf E=1)
  (hf:DataW.trod enc P W 0 sp true fuel T [v]=some x) (hlt:∀ y∈x.2,y.block<W.heap.size) :
  ∃ ao cap l,v = .slice ao (List.length l) cap∧Ints k W ao l∧(∀ n∈l,(Lit.int k n).wf=true)∧l.length≤maxLen:=by
 rcases open_ints hT hE hcE hf with ⟨hcs,hx⟩|⟨a,len,cap,zs,hcs,_,hl,hm,hz,hx,hcell,hwz⟩
 ·simp only[List.cons.injEq,and_true] at hcs
  subst hcs
  exact ⟨none,0,[],rfl,fun h=>absurd rfl h,by simp,by simp[maxLen]⟩
 ·simp only[List.cons.injEq,and_true] at hcs
  subst hcs
  have hle:len≤zs.length:=by rw[hz];split<;>omega
  have hll:(zs.take len).length=len:=by simp;omega
  refine ⟨some a,cap,zs.take len,by rw[hll],fun hne=>?_,fun n hn=>hwz n (List.mem_of_mem_take hn),by rw[hll];omega⟩
  have h0:0<len:=by
   rcases Nat.eq_zero_or_pos len with e|e
   ·subst e;exact absurd rfl hne
   ·exact e
  obtain ⟨b,off,spot⟩:=a
  have hspot:spot=none:=by simpa [Addr.add] using World.cell?_spot (hcell 0 (by omega))
  subst hspot
  subst hx
  refine ⟨b,off,rfl,hlt (.cell b off) (MemPlace.mem_row.2 ⟨0,by omega,by simp⟩),fun j hj=>?_⟩
  have hj':j<zs.length:=by omega
  have:=hcell j hj'
  have hadd:(⟨b,off,none⟩:Addr).add j=⟨b,off+j,none⟩:=by unfold Addr.add;split<;>simp_all
  rw[hadd] at this
  rw[this]
  simp[List.getElem_take,List.getElem?_eq_getElem hj']
theorem open_Bk {H:Type} {enc:TypeId × Value→H} {P:Program} {W:World} {sp:Nat→Bool} {base:Nat} {T E:TypeId} {f0 f1 f2:Field} {v:Value} {d:DataW H} {p:List MemPlace}
  (hT:P.underlying T=some (.struct #[f0,f1,f2])) (ce:P.cellsOf T=3) (o0:f0.offset=0) (o1:f1.offset=1) (o2:f2.offset=2) (c0:P.cellsOf f0.type=1) (c1:P.cellsOf f1.type=1) (c2:P.cellsOf f2.type=1)
  (h0:P.underlying f0.type=some (.int .i32)) (h1:P.underlying f1.type=some (.slice E)) (hE:P.underlying E=some (.int .u64)) (hcE:P.cellsOf E=1) (h2:P.underlying f2.type=some .string)
  (hv:Value.okWide P W .any base T v) (h:DataW.Trod enc P W 0 sp true T v d p) (hlt:∀ x∈p,x.block<W.heap.size) :
  ∃ (x:Bk) (u:List UInt8) (ao:Option Addr) (cap:Nat),v = .agg #[.int .i32 x.off,.slice ao x.cs.length cap,.string ⟨u.toArray⟩]∧Nats .u64 W ao x.cs∧BkOk x∧x.cs.length≤maxLen∧u.length≤maxLen:=by
 obtain ⟨cs,rfl,hsz⟩:=okWide_struct hT hv
 obtain ⟨fuel,hf⟩:=h
 have hcs:cs.size=3:=by rw[hsz,ce]
 obtain ⟨V0,V1,V2,rfl⟩:∃ V0 V1 V2,cs=#[V0,V1,V2]:=by
  match cs,hcs with
  | ⟨[a,b,c]⟩,_=>exact ⟨a,b,c,rfl⟩
 obtain ⟨y0,y1,y2,n,hx,_,g0,g1,g2⟩:=trod_struct3 hT hf
 rw[o0,c0] at g0
 rw[o1,c1] at g1
 rw[o2,c2] at g2
 obtain ⟨n0,e0,_,w0⟩:=DataW.trod_int h0 g0
 obtain ⟨s2,e2,_,w2⟩:=DataW.trod_string h2 g2
 simp only[Prod.mk.injEq] at hx
 obtain ⟨_,hp⟩:=hx
 have hV0:V0 = .int .i32 n0:=by simpa [Value.cells] using e0
 have hV2:V2 = .string s2:=by simpa [Value.cells] using e2
 obtain ⟨ao,cap,l,hV1,hI,hw,hm⟩:=ints_trod h1 hE hcE (v:=V1) (by simpa [Value.cells] using g1) (fun y hy=>hlt y (by rw[hp];simp[hy]))
 subst hV0;subst hV1;subst hV2
 have hw':∀ n∈l,0≤n∧n<18446744073709551616:=fun n hn=>by
  have:=hw n hn
  simp[Lit.wf,IntKind.min,IntKind.max,IntKind.signed,IntKind.bits] at this
  omega
 simp[Lit.wf,IntKind.min,IntKind.max,IntKind.signed,IntKind.bits] at w0
 refine ⟨⟨n0,l.map Int.toNat⟩,s2.data.toList,ao,cap,by simp,hI.nats (fun n hn=>(hw' n hn).1),⟨by show -2147483648≤n0;omega,by show n0≤2147483647;omega,fun n hn=>?_⟩,by simpa using hm,by simpa using w2⟩
 obtain ⟨z,hz,rfl⟩:=List.mem_map.1 hn
 have:=hw' z hz
 omega
theorem take_any (a b:Int) (w:World) (ha : -10≤a∧a≤1000000) (hb:0≤b∧b≤9223372036854775807) :
  Calls Tryd.prog 29 #[.int .i64 a,.int .i64 b] w fun e w'=>w=w'∧((a<0∨a - 20<b)∧e = .returned (.int .i64 (-1))∨0≤a∧b≤a - 20∧e = .returned (.int .i64 (a - b - 20))):=by
 have q1:IntKind.i64.wrap (a - 20)=a - 20:=IntWalk.i64_in _ (by omega)
 by_cases h1:a<0
 ·have d1:decide (a<0)=true:=decide_eq_true h1
  go_enter Tryd.func29,Tryd.ntmps29
  go_wp2_with fail
  go_ret
  exact ⟨rfl,.inl ⟨.inl h1,rfl⟩⟩
 ·have d1:decide (a<0)=false:=decide_eq_false h1
  by_cases h2:b>a - 20
  ·have d2:decide (b>a - 20)=true:=decide_eq_true h2
   have H2:=Lib.hid h2
   clear h1 h2
   go_enter Tryd.func29,Tryd.ntmps29
   go_wp2_with fail
   go_ret
   exact ⟨rfl,.inl ⟨.inr H2.out,rfl⟩⟩
  ·have d2:decide (b>a - 20)=false:=decide_eq_false h2
   have q2:IntKind.i64.wrap (a - b)=a - b:=IntWalk.i64_in _ (by omega)
   have q3:IntKind.i64.wrap (a - b - 20)=a - b - 20:=IntWalk.i64_in _ (by omega)
   have H1:=Lib.hid h1
   have H2:=Lib.hid h2
   clear h1 h2
   go_enter Tryd.func29,Tryd.ntmps29
   go_wp2_with fail
   go_ret
   exact ⟨rfl,.inr ⟨by have:=H1.out;omega,by have:=H2.out;omega,rfl⟩⟩
theorem roomB_any (x:Bk) (u:List UInt8) (ao:Option Addr) (cap:Nat) (w:World) (hl:x.cs.length≤9223372036854775807) (hu:u.length≤9223372036854775807) :
  Calls Tryd.prog 10 #[.agg #[.int .i32 x.off,.slice ao x.cs.length cap,.string ⟨u.toArray⟩],.int .i64 12000] w fun e w'=>Below w.heap.size w w'∧∃ r:Int,e = .returned (.int .i64 r)∧(r<0∨x.cs.length≤2000∧u.length≤12000):=by
 obtain ⟨X,hX⟩:∃ X:ByteArray,(⟨u.toArray⟩:ByteArray)=X:=⟨_,rfl⟩
 have hXs:X.size=u.length:=by rw[←hX];simp[ByteArray.size]
 rw[hX]
 rw[←hXs] at hu ⊢
 clear hX hXs
 obtain ⟨n,hn⟩:∃ n,x.cs.length=n:=⟨_,rfl⟩
 rw[hn] at hl ⊢
 clear hn
 obtain ⟨m,hm⟩:∃ m:Int,min (n:Int) 100000=m:=⟨_,rfl⟩
 have hmb:0≤m∧m≤100000∧(m=n∨m=100000):=by rw[←hm];omega
 have HM:=Lib.hid hm
 have q1:IntKind.i64.wrap (8 * m)=8 * m:=IntWalk.i64_in _ (by omega)
 have HMB:=Lib.hid hmb
 clear hm hmb
 obtain ⟨W0,hW0⟩:∃ W0,w.alloc (.cells #[.int .i32 x.off,.slice ao n cap,.string X] 24)=W0:=⟨_,rfl⟩
 have HBW0:Hid (Below w.heap.size w W0):=Lib.hid (by rw[←hW0];exact below_new _ _)
 have HR0:Hid (W0.heap[w.heap.size]? = some (.cells #[.int .i32 x.off,.slice ao n cap,.string X] 24 (0,0))):=Lib.hid (by rw[←hW0];exact heap_alloc_new w _)
 have HW0:=Lib.hid hW0
 clear hW0
 obtain ⟨b,hb⟩:∃ b,w.heap.size=b:=⟨_,rfl⟩
 have HBB:=Lib.hid hb
 go_enter Tryd.func10,Tryd.ntmps10
 go_wp2_with fail
 rw[HW0.out]
 obtain ⟨D,hD⟩:∃ D,W0.drew=D:=⟨_,rfl⟩
 have HBD:Hid (Below w.heap.size w D):=Lib.hid (by rw[←hD];exact HBW0.out.drew)
 have HRD:Hid (D.heap[w.heap.size]? = some (.cells #[.int .i32 x.off,.slice ao n cap,.string X] 24 (0,0))):=Lib.hid (by rw[←hD];exact HR0.out)
 have hs0:D.cell? ⟨w.heap.size,2,none⟩=some (.string X)∧D.cell? ⟨w.heap.size,1,none⟩=some (.slice ao n cap):=⟨row_cell HRD.out (j:=2) rfl,row_cell HRD.out (j:=1) rfl⟩
 refine wp_region_seq (S:=fun w'=>w'.cell? ⟨w.heap.size,2,none⟩=some (.string X)∧w'.cell? ⟨w.heap.size,1,none⟩=some (.slice ao n cap)) [(0,true),(1,true),(2,true),(3,true),(5,true),(6,true),(7,true),(8,true),(9,true),(4,false),(10,false),(11,true)] (by kernel_rfl) (by kernel_rfl) (by kernel_rfl) (by kernel_rfl) (by rw[hD];exact hs0) ?_
 rw[hD]
 iterate 7 (refine seq_take _ rfl (fun K hK=>?_);go_simp;(first|refine hK _ ?_|refine ⟨_,fun _ _ _=>rfl,hK _ ?_⟩|refine ⟨.string X,fun a ha _=>by rw[ha];rfl,hK _ ?_⟩|refine ⟨.slice ao n cap,fun a _ ha=>by rw[ha];rfl,hK _ ?_⟩);clear hK K)
 refine seq_take _ rfl (fun K hK=>?_);go_simp;refine ⟨.int .i64 m,fun a _ _=>by rw[HM.out],hK _ ?_⟩;clear hK K
 refine seq_take _ rfl (fun K hK=>?_);go_simp;(first|refine hK _ ?_|refine ⟨_,fun _ _ _=>rfl,hK _ ?_⟩);clear hK K
 refine seq_come _ rfl (fun K hK=>?_);go_simp
 refine (take_any 12000 X.size D (by omega) (by omega)).mono ?_;rintro e w1 ⟨rfl,hc1⟩
 obtain ⟨r1,rfl,hr1⟩:∃ r1:Int,e = .returned (.int .i64 r1)∧(r1 = -1∨(0≤r1∧r1≤11980∧X.size≤12000)):=by
  rcases hc1 with ⟨_,rfl⟩|⟨_,h,rfl⟩
  ·exact ⟨_,rfl,.inl rfl⟩
  ·exact ⟨_,rfl,.inr ⟨by omega,by omega,by omega⟩⟩
 have HR1:=Lib.hid hr1
 have HC2:=Lib.hid (take_any r1 (8 * m) D (by omega) (by have:=HMB.out;omega))
 clear hr1 hc1
 go_simp;refine hK.out _ _ hs0 ?_;clear hK K
 refine seq_come _ rfl (fun K hK=>?_);go_simp
 refine HC2.out.mono ?_;rintro e w1 ⟨rfl,hc2⟩
 obtain ⟨r2,rfl,hr2⟩:∃ r2:Int,e = .returned (.int .i64 r2)∧(r2<0∨n≤2000∧X.size≤12000):=by
  have h1:=HR1.out
  have h2:=HMB.out
  rcases hc2 with ⟨_,rfl⟩|⟨_,h,rfl⟩
  ·exact ⟨_,rfl,.inl (by omega)⟩
  ·exact ⟨_,rfl,.inr ⟨by omega,by omega⟩⟩
 have HR2:=Lib.hid hr2
 clear hr2 hc2
 go_simp;refine hK.out _ _ hs0 ?_;clear hK K
 refine seq_take _ rfl (fun K hK=>?_);go_simp;(first|refine hK _ ?_|refine ⟨_,fun _ _ _=>rfl,hK _ ?_⟩);clear hK K
 refine seq_done ?_
 go_wp2_with fail
 go_ret
 exact ⟨HBD.out,_,rfl,HR2.out⟩
open Go.RowKit
open Go.RowKit
theorem nums_any (ao bo:Option Addr) (cap bcap:Nat) (a b:List Nat) (w:World) (ha:Hid (Nats .u64 w ao a)) (hb:Hid (Nats .u64 w bo b)) (hla:a.length≤1000000000) {r:Bool} (hr:Hid (decide (a=b)=r)) :
  Calls Tryd.prog 23 #[.slice ao a.length cap,.slice bo b.length bcap] w fun e w'=>e = .returned (.bool r)∧Below w.heap.size w w':=by
 by_cases hne:a.length=b.length
 case neg =>
  have hr2:r=false:=by rw[←hr.out];exact decide_eq_false (fun h=>hne (by rw[h]))
  subst hr2
  have d1:((a.length:Int) == (b.length:Int))=false:=by rw[beq_eq_false_iff_ne];omega
  have d2:((a.length:Int) != (b.length:Int))=true:=by rw[bne_iff_ne];omega
  clear hr
  go_enter Tryd.func23,Tryd.ntmps23
  go_wp2_with fail
  go_ret
  exact ⟨rfl,Below.refl _ _⟩
 case pos =>
 obtain ⟨n,hn⟩:∃ n,a.length=n:=⟨_,rfl⟩
 have hnb:b.length=n:=by omega
 have HA0:=Lib.hid hn
 have HB0:=Lib.hid hnb
 rw[hn,hnb]
 have hn9:n≤1000000000:=by omega
 clear hne hn hnb hla
 go_enter Tryd.func23,Tryd.ntmps23
 go_wp2_with fail
 go_loopg [5] n (fun k i wr=>∃ j:Nat,j+k=n∧i = .int .i64 j∧Hid (∀ m (h1:m<a.length) (h2:m<b.length),m<j→a[m]=b[m])∧Below w.heap.size w wr)
 case atStart=>exact ⟨0,by omega,rfl,Lib.hid (fun m _ _ h=>by omega),Below.refl _ _⟩
 case round =>
  obtain ⟨j,hj,rfl,HM,hbr⟩:=hrel
  have HB:=Lib.hid hbr
  have HJ:=Lib.hid hj
  have HA:=Lib.hid (ha.out.below hbr)
  have HBB:=Lib.hid (hb.out.below hbr)
  have hjl:j≤n:=by omega
  clear hj hbr
  by_cases hlt:j<n
  ·obtain ⟨g,off,x,HX,rfl,hbl,hc⟩:=HA.out.at (i:=j) (by rw[HA0.out];exact hlt)
   obtain ⟨g2,off2,y,HY,rfl,hbl2,hc2⟩:=HBB.out.at (i:=j) (by rw[HB0.out];exact hlt)
   have hI:Below wr.heap.size wr wr.drew:=(Below.refl _ _).drew
   have hne:Nonempty { w':World // Below wr.heap.size wr w' }:=⟨⟨_,hI⟩⟩
   have hc3:∀ t:{ w':World // Below wr.heap.size wr w' },t.1.cell? ⟨g,off+j,none⟩=some (.int .u64 (x:Int)):=fun t=>(t.2.cell (p:=⟨g,off+j,none⟩) hbl).trans hc
   have hc4:∀ t:{ w':World // Below wr.heap.size wr w' },t.1.cell? ⟨g2,off2+j,none⟩=some (.int .u64 (y:Int)):=fun t=>(t.2.cell (p:=⟨g2,off2+j,none⟩) hbl2).trans hc2
   by_cases hxy:x=y
   ·have d1:((x:Int) == (y:Int))=true:=by rw[beq_iff_eq];omega
    have HM2:Hid (∀ m (h1:m<a.length) (h2:m<b.length),m<j+1→a[m]=b[m]):=Lib.hid (fun m h1 h2 hm=>by
     by_cases hmj:m=j
     ·subst hmj;rw[←HX.out,←HY.out,hxy]
     ·exact HM.out m h1 h2 (by omega))
    subst hxy
    go_wp2_with fail
    refine wp_region_seq (S:=fun w'=>Below wr.heap.size wr w') [(0,true),(1,true),(2,true),(3,true),(4,true),(5,true),(6,true),(7,true),(8,true)] (by kernel_rfl) (by kernel_rfl) (by kernel_rfl) (by kernel_rfl) hI ?_
    iterate 9 (refine seq_take _ rfl (fun K hK=>?_);go_simp;refine hK _ ?_;clear hK K)
    refine seq_done ?_
    clear hc3 hc4
    go_wp2_with fail
    have hj:=HJ.out
    go_roundg (gk - 1)
    case measure=>omega
    case rel=>exact ⟨j+1,by omega,by simp,HM2,HB.out.trans (hI.mono HB.out.size)⟩
   ·have hr2:r=false:=by
     rw[←hr.out]
     refine decide_eq_false (fun h=>?_)
     subst h
     exact hxy (by rw[HX.out,HY.out])
    subst hr2
    have d1:((x:Int) == (y:Int))=false:=by rw[beq_eq_false_iff_ne];omega
    have d2:((x:Int) != (y:Int))=true:=by rw[bne,d1];rfl
    clear hxy
    go_wp2_with fail
    refine wp_region_seq (S:=fun w'=>Below wr.heap.size wr w') [(0,true),(1,true),(2,true),(3,true),(4,true),(5,true),(6,true),(7,true),(8,true)] (by kernel_rfl) (by kernel_rfl) (by kernel_rfl) (by kernel_rfl) hI ?_
    iterate 9 (refine seq_take _ rfl (fun K hK=>?_);go_simp;refine hK _ ?_;clear hK K)
    refine seq_done ?_
    clear hc3 hc4
    go_wp2_with fail
    go_ret
    exact ⟨rfl,HB.out.trans (hI.mono HB.out.size)⟩
  ·have hjn:j=n:=by have:=HJ.out;omega
   have hr2:r=true:=by
    rw[←hr.out]
    exact decide_eq_true (List.ext_getElem (by rw[HA0.out,HB0.out]) (fun m h1 h2=>HM.out m h1 h2 (by rw[HA0.out] at h1;omega)))
   subst hr2
   go_wp2_with fail
   go_ret
   exact ⟨rfl,HB.out⟩
theorem refB_any (x y:Bk) (u v:List UInt8) (ao bo:Option Addr) (cap bcap:Nat) (w:World) (ha:Hid (Nats .u64 w ao x.cs)) (hb:Hid (Nats .u64 w bo y.cs)) (hla:x.cs.length≤1000000000) {r:Bool} (hr:Hid (decide (x.off=y.off∧u=v∧x.cs=y.cs)=r)) :
  Calls Tryd.prog 15 #[.agg #[.int .i32 x.off,.slice ao x.cs.length cap,.string ⟨u.toArray⟩],.agg #[.int .i32 y.off,.slice bo y.cs.length bcap,.string ⟨v.toArray⟩]] w fun e w'=>e = .returned (.bool r)∧Below w.heap.size w w':=by
 obtain ⟨X,hX⟩:∃ X:ByteArray,(⟨u.toArray⟩:ByteArray)=X:=⟨_,rfl⟩
 obtain ⟨Y,hY⟩:∃ X:ByteArray,(⟨v.toArray⟩:ByteArray)=X:=⟨_,rfl⟩
 have hXY:X=Y↔u=v:=by rw[←hX,←hY];simp
 rw[hX,hY]
 obtain ⟨W0,hW0⟩:∃ W,(w.alloc (.cells #[.int .i32 x.off,.slice ao x.cs.length cap,.string X] 24)).alloc (.cells #[.int .i32 y.off,.slice bo y.cs.length bcap,.string Y] 24)=W:=⟨_,rfl⟩
 have HB0:Hid (Below w.heap.size w W0):=Lib.hid (by rw[←hW0];exact below_step (below_new _ _) (below_new _ _))
 have HR0:Hid (W0.heap[w.heap.size]? = some (.cells #[.int .i32 x.off,.slice ao x.cs.length cap,.string X] 24 (0,0))):=Lib.hid (by rw[←hW0];exact (Below.heap_alloc _ _ _ (row_lt (heap_alloc_new w _))).trans (heap_alloc_new w _))
 have HS0:Hid (W0.heap[(w.alloc (.cells #[.int .i32 x.off,.slice ao x.cs.length cap,.string X] 24)).heap.size]? = some (.cells #[.int .i32 y.off,.slice bo y.cs.length bcap,.string Y] 24 (0,0))):=Lib.hid (by rw[←hW0];exact heap_alloc_new _ _)
 have HW0:=Lib.hid hW0
 have HNA:=Lib.hid (ha.out.below HB0.out)
 have HNB:=Lib.hid (hb.out.below HB0.out)
 obtain ⟨r1,hr1⟩:∃ r1,decide (x.cs=y.cs)=r1:=⟨_,rfl⟩
 have HP:=Lib.hid (nums_any ao bo cap bcap x.cs y.cs W0 HNA HNB hla (Lib.hid hr1))
 clear hX hY hW0 ha hb
 by_cases ho:x.off=y.off
 case neg =>
  have hr2:r=false:=by rw[←hr.out];exact decide_eq_false (fun h=>ho h.1)
  subst hr2
  have d1:(x.off == y.off)=false:=by rw[beq_eq_false_iff_ne];exact ho
  clear hr ho hXY hr1
  go_enter Tryd.func15,Tryd.ntmps15
  go_wp2_with fail
  go_ret
  rw[HW0.out]
  exact ⟨rfl,HB0.out⟩
 case pos =>
  have d1:(x.off == y.off)=true:=by rw[beq_iff_eq];exact ho
  have HRR:Hid ((r1&&decide (u=v))=r):=Lib.hid (by
   rw[←hr.out,←hr1,←Bool.decide_and]
   exact decide_eq_decide.2 ⟨fun h=>⟨ho,h.2,h.1⟩,fun h=>⟨h.2.2,h.2.1⟩⟩)
  have HXY:=Lib.hid hXY
  clear hr ho hr1 hXY
  go_enter Tryd.func15,Tryd.ntmps15
  go_wp2_with fail
  rw[HW0.out]
  refine HP.out.mono ?_;rintro e w1 ⟨rfl,hb1⟩
  have HB1:=Lib.hid (below_step HB0.out hb1)
  have hc0:=row_cell ((hb1.block _ (row_lt HR0.out)).trans HR0.out) (j:=2) rfl
  have hc1:=row_cell ((hb1.block _ (row_lt HS0.out)).trans HS0.out) (j:=2) rfl
  rw[show (w.alloc (.cells #[.int .i32 x.off,.slice ao x.cs.length cap,.string X] 24)).heap.size=w.heap.size+1 from Array.size_push ..] at hc1
  clear hb1
  cases r1 with
  | false =>
   have hr2:r=false:=by rw[←HRR.out];rfl
   subst hr2
   clear hc0 hc1
   go_wp2_with fail
   go_ret
   exact ⟨rfl,HB1.out⟩
  | true =>
   by_cases hu:u=v
   ·have hr2:r=true:=by rw[←HRR.out];simp[hu]
    subst hr2
    have d2:(X.toList == Y.toList)=true:=by rw[HXY.out.2 hu];simp
    clear hu
    go_wp2_with fail
    go_ret
    exact ⟨rfl,HB1.out⟩
   ·have hr2:r=false:=by rw[←HRR.out];simp[hu]
    subst hr2
    have d2:(X.toList == Y.toList)=false:=by
     rw[beq_eq_false_iff_ne,ByteArray.toList_eq,ByteArray.toList_eq]
     intro h
     exact hu (HXY.out.1 (ByteArray.ext (Array.ext' h)))
    clear hu
    go_wp2_with fail
    go_ret
    exact ⟨rfl,HB1.out⟩
end Go.Proofs.YtcblkndiclkacaaDoor
