/-
  OpenV, ValOut
-/
import Derived.Test.YtoggpnfeioaidaaDoorAlikeB
import Derived.Deep.Strs
import Derived.Deep.SlicePairs
import Derived.Test.YtoggpnfeioaidaaDoorVal
import Derived.Test.YtoggpnfeioaidaaDoorValPlain
import Derived.Test.YtoggpnfeioaidaaDoorMsgOpen
set_option maxRecDepth 1000000
set_option maxHeartbeats 16000000
namespace Go.Proofs.YtoggpnfeioaidaaDoor
open Go.RowKit Go.ChangeShapes Go.WideShapes Go.ChangeAt Go.Deep
theorem val_shape:∃ f0 f1 f2 f3 f4 f5 f6 f7:Field,Tryd.prog.underlying 129=some (.struct #[f0,f1,f2,f3,f4,f5,f6,f7])∧Tryd.prog.cellsOf 129=8 ∧
  (f0.offset=0∧f1.offset=1∧f2.offset=2∧f3.offset=3∧f4.offset=4∧f5.offset=5∧f6.offset=6∧f7.offset=7) ∧
  (Tryd.prog.cellsOf f0.type=1∧Tryd.prog.cellsOf f1.type=1∧Tryd.prog.cellsOf f2.type=1∧Tryd.prog.cellsOf f3.type=1∧Tryd.prog.cellsOf f4.type=1∧Tryd.prog.cellsOf f5.type=1∧Tryd.prog.cellsOf f6.type=1∧Tryd.prog.cellsOf f7.type=1) ∧
  (Tryd.prog.underlying f0.type=some (.int .i64)∧Tryd.prog.underlying f1.type=some .string∧Tryd.prog.underlying f2.type=some .bool∧Tryd.prog.underlying f3.type=some (.int .u64)∧Tryd.prog.underlying f4.type=some (.slice 129)∧Tryd.prog.underlying f5.type=some (.slice 131)∧Tryd.prog.underlying f6.type=some .string∧Tryd.prog.underlying f7.type=some .string) :=
 ⟨_,_,_,_,_,_,_,_,Tryd.underlying129,by kernel_rfl,⟨by kernel_rfl,by kernel_rfl,by kernel_rfl,by kernel_rfl,by kernel_rfl,by kernel_rfl,by kernel_rfl,by kernel_rfl⟩,⟨by kernel_rfl,by kernel_rfl,by kernel_rfl,by kernel_rfl,by kernel_rfl,by kernel_rfl,by kernel_rfl,by kernel_rfl⟩,⟨by kernel_rfl,by kernel_rfl,by kernel_rfl,by kernel_rfl,by kernel_rfl,by kernel_rfl,by kernel_rfl,by kernel_rfl⟩⟩
theorem key_shape:∃ f0 f1 f2 f3:Field,Tryd.prog.underlying 131=some (.struct #[f0,f1,f2,f3])∧Tryd.prog.cellsOf 131=11 ∧
  (f0.offset=0∧f1.offset=1∧f2.offset=2∧f3.offset=10) ∧
  (Tryd.prog.cellsOf f0.type=1∧Tryd.prog.cellsOf f1.type=1∧Tryd.prog.cellsOf f2.type=8∧Tryd.prog.cellsOf f3.type=1) ∧
  (Tryd.prog.underlying f0.type=some .string∧Tryd.prog.underlying f1.type=some .bool∧f2.type=129∧Tryd.prog.underlying f3.type=some .string) :=
 ⟨_,_,_,_,Tryd.underlying131,by kernel_rfl,⟨by kernel_rfl,by kernel_rfl,by kernel_rfl,by kernel_rfl⟩,⟨by kernel_rfl,by kernel_rfl,by kernel_rfl,by kernel_rfl⟩,⟨by kernel_rfl,by kernel_rfl,by kernel_rfl,by kernel_rfl⟩⟩
theorem cells_of {w:World} {base c:Nat} {b off:Nat} {cs:List Value} (h:w.cells? base ⟨b,off,none⟩ c=some cs):Cells w b off cs∧cs.length=c:=by
 obtain ⟨_,h2,h3⟩:=World.cells?_some h
 refine ⟨fun i hi=>?_,h2⟩
 have:=h3 i (by omega)
 have e:(⟨b,off,none⟩:Addr).add i=⟨b,off+i,none⟩:=by unfold Addr.add;split<;>simp_all
 rw[e] at this
 rw[this,List.getElem?_eq_getElem hi]
theorem slice_tree {α:Type} {H:Type} {enc:TypeId × Value→H} {W:World} {sp:Nat→Bool} {t e:TypeId} {fuel c:Nat} {cs:List Value} {x:DataW H × List MemPlace} (good:α→List Value→Prop) (hc:Tryd.prog.cellsOf e=c) (hpos:0<c) (ht:Tryd.prog.underlying t=some (.slice e))
  (hel:∀ n,n<fuel→∀ cs x,DataW.trod enc Tryd.prog W 0 sp true n e cs=some x→∃ a:α,good a cs) (h:DataW.trod enc Tryd.prog W 0 sp true fuel t cs=some x) :
  ∃ (lo:Option Addr) (cap:Nat) (l:List α),cs=[.slice lo l.length cap]∧l.length≤9223372036854775807∧(l≠[]→∃ g off,lo=some ⟨g,off,none⟩∧g<W.heap.size∧∀ j (h:j<l.length),∃ ds,Cells W g (off+c * j) ds∧good l[j] ds):=by
 rcases DataW.trod_slice ht h with ⟨h1,_⟩|⟨a,len,cap,elems,rest,n,hf,h1,_,_,hlc,hcm,hl,hx,_,_⟩
 ·exact ⟨none,0,[],h1,by simp,fun h=>absurd rfl h⟩
 ·subst hf
  have hcm':cap≤9223372036854775807:=hcm
  have each:∀ i,i<len→∃ y:α,∃ ds,W.cells? 0 (a.add (i * c)) c=some ds∧good y ds:=fun i hi=>by
   have h2:=hx i hi
   rw[hc] at h2
   rw[List.getElem?_eq_getElem (by omega)] at h2
   cases hw:W.cells? 0 (a.add (i * c)) c with
   | none=>rw[hw] at h2;cases h2
   | some ds =>
    rw[hw] at h2
    obtain ⟨y,hy⟩:=hel n (by omega) ds _ h2
    exact ⟨y,ds,rfl,hy⟩
  rcases Nat.eq_zero_or_pos len with e0|hp
  ·subst e0
   exact ⟨some a,cap,[],h1,by simp,fun h=>absurd rfl h⟩
  ·obtain ⟨y0,_⟩:=each 0 hp
   have:Inhabited α:=⟨y0⟩
   obtain ⟨Y,hY⟩:=choose_lt each
   have hll:((List.range len).map Y).length=len:=by simp
   have hspot:∀ i,i<len→∀ ds,W.cells? 0 (a.add (i * c)) c=some ds→W.cell? ((a.add (i * c)).add 0)=ds[0]?:=fun i _ ds hd=>(World.cells?_some hd).2.2 0 hpos
   obtain ⟨b,off,spot⟩:=a
   obtain ⟨ds0,hd0,_⟩:=hY 0 hp
   have hd0l:=(World.cells?_some hd0).2.1
   have hcell:=hspot 0 hp ds0 hd0
   rw[List.getElem?_eq_getElem (by omega)] at hcell
   have hsp:spot=none:=by simpa [Addr.add] using World.cell?_spot hcell
   subst hsp
   have hb:b<W.heap.size:=by
    have:=World.block_lt_of_cell? W _ hcell
    simpa [Addr.add] using this
   refine ⟨some ⟨b,off,none⟩,cap,(List.range len).map Y,by rw[hll];exact h1,by rw[hll];omega,fun _=>⟨b,off,rfl,hb,fun j hj=>?_⟩⟩
   have hj':j<len:=by simpa using hj
   obtain ⟨ds,hd,hg⟩:=hY j hj'
   have ea:(⟨b,off,none⟩:Addr).add (j * c)=⟨b,off+c * j,none⟩:=by unfold Addr.add;split<;>simp_all [Nat.mul_comm]
   rw[ea] at hd
   exact ⟨ds,(cells_of hd).1,by simpa using hg⟩
theorem vrels_of {w:World} {P:Nat→Prop} {g off:Nat} (hg:P g) (hlt:g<w.heap.size):∀ (l:List Val) (i:Nat),(∀ j (h:j<l.length),∃ ds,Cells w g (off+8 * (i+j)) ds∧VRel w P l[j] ds)→VRels w P l (some ⟨g,off,none⟩) i
 | [],_,_=>by rw[VRels];trivial
 | x::xs,i,h=>by
  rw[VRels]
  obtain ⟨ds,h1,h2⟩:=h 0 (by simp)
  refine ⟨⟨g,off,ds,rfl,hg,hlt,h1,h2⟩,vrels_of hg hlt xs (i+1) fun j hj=>?_⟩
  obtain ⟨ds,h1,h2⟩:=h (j+1) (by simpa using hj)
  exact ⟨ds,by rw[show i+1+j=i+(j+1) by omega];exact h1,h2⟩
theorem krels_of {w:World} {P:Nat→Prop} {g off:Nat} (hg:P g) (hlt:g<w.heap.size):∀ (l:List KV) (i:Nat),(∀ j (h:j<l.length),∃ ds,Cells w g (off+11 * (i+j)) ds∧KRel w P l[j] ds)→KRels w P l (some ⟨g,off,none⟩) i
 | [],_,_=>by rw[KRels];trivial
 | x::xs,i,h=>by
  rw[KRels]
  obtain ⟨ds,h1,h2⟩:=h 0 (by simp)
  refine ⟨⟨g,off,ds,rfl,hg,hlt,h1,h2⟩,krels_of hg hlt xs (i+1) fun j hj=>?_⟩
  obtain ⟨ds,h1,h2⟩:=h (j+1) (by simpa using hj)
  exact ⟨ds,by rw[show i+1+j=i+(j+1) by omega];exact h1,h2⟩
theorem vslice_tree {H:Type} {enc:TypeId × Value→H} {W:World} {sp:Nat→Bool} {t:TypeId} {fuel:Nat} {cs:List Value} {x:DataW H × List MemPlace} (ht:Tryd.prog.underlying t=some (.slice 129))
  (hel:∀ n,n<fuel→∀ cs x,DataW.trod enc Tryd.prog W 0 sp true n 129 cs=some x→∃ a:Val,VRel W (fun k=>k<W.heap.size) a cs∧vlim a∧vfit a) (h:DataW.trod enc Tryd.prog W 0 sp true fuel t cs=some x) :
  ∃ (lo:Option Addr) (cap:Nat) (l:List Val),cs=[.slice lo l.length cap]∧l.length≤9223372036854775807∧VRels W (fun k=>k<W.heap.size) l lo 0∧vslim l∧vsfit l:=by
 obtain ⟨lo,cap,l,h1,h2,h3⟩:=slice_tree (fun (a:Val) cs=>VRel W (fun k=>k<W.heap.size) a cs∧vlim a∧vfit a) (c:=8) (by kernel_rfl) (by decide) ht hel h
 by_cases h0:l=[]
 ·subst h0
  exact ⟨lo,cap,[],h1,h2,by rw[VRels];trivial,by rw[vslim];trivial,by rw[vsfit];trivial⟩
 ·obtain ⟨g,off,rfl,hg,hh⟩:=h3 h0
  refine ⟨_,cap,l,h1,h2,vrels_of (P:=fun k=>k<W.heap.size) hg hg l 0 (fun j hj=>?_),vslim_of (fun y hy=>?_),vsfit_of (fun y hy=>?_)⟩
  ·obtain ⟨ds,h4,h5⟩:=hh j hj
   exact ⟨ds,by rw[Nat.zero_add];exact h4,h5.1⟩
  ·obtain ⟨j,hj,rfl⟩:=List.getElem_of_mem hy
   obtain ⟨ds,h4,h5⟩:=hh j hj
   exact h5.2.1
  ·obtain ⟨j,hj,rfl⟩:=List.getElem_of_mem hy
   obtain ⟨ds,h4,h5⟩:=hh j hj
   exact h5.2.2
theorem kslice_tree {H:Type} {enc:TypeId × Value→H} {W:World} {sp:Nat→Bool} {t:TypeId} {fuel:Nat} {cs:List Value} {x:DataW H × List MemPlace} (ht:Tryd.prog.underlying t=some (.slice 131))
  (hel:∀ n,n<fuel→∀ cs x,DataW.trod enc Tryd.prog W 0 sp true n 131 cs=some x→∃ a:KV,KRel W (fun k=>k<W.heap.size) a cs∧klim a∧kfit a) (h:DataW.trod enc Tryd.prog W 0 sp true fuel t cs=some x) :
  ∃ (lo:Option Addr) (cap:Nat) (l:List KV),cs=[.slice lo l.length cap]∧l.length≤9223372036854775807∧KRels W (fun k=>k<W.heap.size) l lo 0∧kslim l∧ksfit l:=by
 obtain ⟨lo,cap,l,h1,h2,h3⟩:=slice_tree (fun (a:KV) cs=>KRel W (fun k=>k<W.heap.size) a cs∧klim a∧kfit a) (c:=11) (by kernel_rfl) (by decide) ht hel h
 by_cases h0:l=[]
 ·subst h0
  exact ⟨lo,cap,[],h1,h2,by rw[KRels];trivial,by rw[kslim];trivial,by rw[ksfit];trivial⟩
 ·obtain ⟨g,off,rfl,hg,hh⟩:=h3 h0
  refine ⟨_,cap,l,h1,h2,krels_of (P:=fun k=>k<W.heap.size) hg hg l 0 (fun j hj=>?_),kslim_of (fun y hy=>?_),ksfit_of (fun y hy=>?_)⟩
  ·obtain ⟨ds,h4,h5⟩:=hh j hj
   exact ⟨ds,by rw[Nat.zero_add];exact h4,h5.1⟩
  ·obtain ⟨j,hj,rfl⟩:=List.getElem_of_mem hy
   obtain ⟨ds,h4,h5⟩:=hh j hj
   exact h5.2.1
  ·obtain ⟨j,hj,rfl⟩:=List.getElem_of_mem hy
   obtain ⟨ds,h4,h5⟩:=hh j hj
   exact h5.2.2
theorem tree_all {H:Type} {enc:TypeId × Value→H} {W:World} {sp:Nat→Bool}:∀ (N n:Nat),n<N→(∀ cs x,DataW.trod enc Tryd.prog W 0 sp true n 129 cs=some x→∃ a:Val,VRel W (fun k=>k<W.heap.size) a cs∧vlim a∧vfit a)∧(∀ cs x,DataW.trod enc Tryd.prog W 0 sp true n 131 cs=some x→∃ a:KV,KRel W (fun k=>k<W.heap.size) a cs∧klim a∧kfit a)
 | 0,_,h=>by omega
 | N+1,n,hn=>by
  have ih:=tree_all (enc:=enc) (W:=W) (sp:=sp) N
  refine ⟨fun cs x h=>?_,fun cs x h=>?_⟩
  ·obtain ⟨f0,f1,f2,f3,f4,f5,f6,f7,hT,ce,⟨o0,o1,o2,o3,o4,o5,o6,o7⟩,⟨c0,c1,c2,c3,c4,c5,c6,c7⟩,⟨t0,t1,t2,t3,t4,t5,t6,t7⟩⟩:=val_shape
   obtain ⟨xs,n',hf,_,hl,hlen,hx⟩:=DataW.trod_struct hT h
   rw[ce] at hl
   obtain ⟨V0,V1,V2,V3,V4,V5,V6,V7,rfl⟩:∃ V0 V1 V2 V3 V4 V5 V6 V7,cs=[V0,V1,V2,V3,V4,V5,V6,V7]:=by
    match cs,hl with
    | [a,b,c,d,e,f,g,h],_=>exact ⟨a,b,c,d,e,f,g,h,rfl⟩
   match xs,hlen with
   | [y0,y1,y2,y3,y4,y5,y6,y7],_ =>
   have g0:=hx 0 f0 rfl
   have g1:=hx 1 f1 rfl
   have g2:=hx 2 f2 rfl
   have g3:=hx 3 f3 rfl
   have g4:=hx 4 f4 rfl
   have g5:=hx 5 f5 rfl
   have g6:=hx 6 f6 rfl
   have g7:=hx 7 f7 rfl
   rw[o0,c0] at g0
   rw[o1,c1] at g1
   rw[o2,c2] at g2
   rw[o3,c3] at g3
   rw[o4,c4] at g4
   rw[o5,c5] at g5
   rw[o6,c6] at g6
   rw[o7,c7] at g7
   obtain ⟨z0,e0,_,w0⟩:=DataW.trod_int t0 g0
   obtain ⟨z1,e1,_,w1⟩:=DataW.trod_string t1 g1
   obtain ⟨z2,e2,_⟩:=DataW.trod_bool t2 g2
   obtain ⟨z3,e3,_,w3⟩:=DataW.trod_int t3 g3
   obtain ⟨lo,lc,l,e4,b4,r4,m4,n4⟩:=vslice_tree t4 (fun q hq=>(ih q (by omega)).1) g4
   obtain ⟨mo,mc,m,e5,b5,r5,m5,n5⟩:=kslice_tree t5 (fun q hq=>(ih q (by omega)).2) g5
   obtain ⟨z6,e6,_,w6⟩:=DataW.trod_string t6 g6
   obtain ⟨z7,e7,_,w7⟩:=DataW.trod_string t7 g7
   simp only[List.drop_zero,List.drop_succ_cons,List.take_succ_cons,List.take_zero,List.cons.injEq,and_true] at e0 e1 e2 e3 e4 e5 e6 e7
   subst e0 e1 e2 e3 e4 e5 e6 e7
   simp[Lit.wf,IntKind.min,IntKind.max,IntKind.signed,IntKind.bits] at w0 w3
   obtain ⟨k3,rfl⟩:∃ k:Nat,z3=(k:Int):=⟨z3.toNat,by omega⟩
   have w1':z1.size≤9223372036854775807:=w1
   have w6':z6.size≤9223372036854775807:=w6
   have w7':z7.size≤9223372036854775807:=w7
   refine ⟨.mk z0 z1.data.toList z2 k3 l m z6.data.toList z7.data.toList,?_,?_,?_⟩
   ·rw[VRel]
    exact ⟨lo,lc,mo,mc,by simp[strV],r4,r5⟩
   ·rw[vlim]
    exact ⟨b4,b5,m4,m5⟩
   ·rw[vfit]
    exact ⟨by omega,by omega,by simpa using w1',by simpa using w6',by simpa using w7',n4,n5⟩
  ·obtain ⟨f0,f1,f2,f3,hT,ce,⟨o0,o1,o2,o3⟩,⟨c0,c1,c2,c3⟩,⟨t0,t1,t2,t3⟩⟩:=key_shape
   obtain ⟨xs,n',hf,_,hl,hlen,hx⟩:=DataW.trod_struct hT h
   rw[ce] at hl
   obtain ⟨V0,V1,V2,V3,V4,V5,V6,V7,V8,V9,V10,rfl⟩:∃ V0 V1 V2 V3 V4 V5 V6 V7 V8 V9 V10,cs=[V0,V1,V2,V3,V4,V5,V6,V7,V8,V9,V10]:=by
    match cs,hl with
    | [a,b,c,d,e,f,g,h,i,j,k],_=>exact ⟨a,b,c,d,e,f,g,h,i,j,k,rfl⟩
   match xs,hlen with
   | [y0,y1,y2,y3],_ =>
   have g0:=hx 0 f0 rfl
   have g1:=hx 1 f1 rfl
   have g2:=hx 2 f2 rfl
   have g3:=hx 3 f3 rfl
   rw[o0,c0] at g0
   rw[o1,c1] at g1
   rw[o2,c2,t2] at g2
   rw[o3,c3] at g3
   obtain ⟨z0,e0,_,w0⟩:=DataW.trod_string t0 g0
   obtain ⟨z1,e1,_⟩:=DataW.trod_bool t1 g1
   obtain ⟨z3,e3,_,w3⟩:=DataW.trod_string t3 g3
   obtain ⟨v,hv,hvl,hvf⟩:=(ih n' (by omega)).1 _ _ g2
   simp only[List.drop_zero,List.drop_succ_cons,List.take_succ_cons,List.take_zero,List.cons.injEq,and_true] at e0 e1 e3 hv
   subst e0 e1 e3
   have w0':z0.size≤9223372036854775807:=w0
   have w3':z3.size≤9223372036854775807:=w3
   refine ⟨.mk z0.data.toList z1 v z3.data.toList,?_,?_,?_⟩
   ·rw[KRel]
    exact ⟨_,hv,by simp[strV]⟩
   ·rw[klim]
    exact hvl
   ·rw[kfit]
    exact ⟨by simpa using w0',by simpa using w3',hvf⟩
open Go.RowKit
def rF (num n:Nat):Rec:=⟨num,1,n,[],vput (8 * num+1)++eight 8 n⟩
def vrec (k:Int) (s:List UInt8) (b:Bool) (n:Nat) (L M i:List UInt8):List UInt8 :=
  if k=1∨k=7 then (rB k.toNat s).raw
  else if k=2 then (rN 2 (if b then 1 else n)).raw
  else if k=3 then (rN 3 n).raw
  else if k=4 then (rF 4 n).raw
  else if k=5 then (rB 5 (L++i)).raw
  else if k=6 then (rB 6 (M++i)).raw
  else []
def krec (key:List UInt8):List UInt8:=if key=[] then [] else (rB 1 key).raw
mutual
def vout:Val→List UInt8
  | .mk k s b n l m i u=>vrec k s b n (vouts 1 l) (kouts 1 m) i++u
def kout:KV→List UInt8
  | .mk key has v u=>(krec key++(if has then (rB 2 (vout v)).raw else []))++u
def vouts:Nat→List Val→List UInt8
  | _,[]=>[]
  | num,x::xs=>(rB num (vout x)).raw++vouts num xs
def kouts:Nat→List KV→List UInt8
  | _,[]=>[]
  | num,x::xs=>(rB num (kout x)).raw++kouts num xs
end
def vnone:Val→Bool
  | .mk k s b n l m i u=>decide (k=0)&&u.isEmpty&&vpl k s.isEmpty b n l.length m.length i.isEmpty
mutual
def vmay:Val→Int→Bool
  | .mk k s b n l m i u,d=>(vpl k s.isEmpty b n l.length m.length i.isEmpty&&(!decide (k=1)||uvalid s)&&(!decide (k=5∨k=6)||(decide (1≤d)&&((vmays l (d - 1)&&kmays m (d - 1))&&munkOk itk i (d - 1)))))&&munkOk vtk u d
def kmay:KV→Int→Bool
  | .mk key has v u,d=>(uvalid key&&(if has then decide (1≤d)&&vmay v (d - 1) else vnone v))&&munkOk ktk u d
def vmays:List Val→Int→Bool
  | [],_=>true
  | x::xs,d=>(decide (1≤d)&&vmay x (d - 1))&&vmays xs d
def kmays:List KV→Int→Bool
  | [],_=>true
  | x::xs,d=>(decide (1≤d)&&kmay x (d - 1))&&kmays xs d
end
open Go.RowKit
end Go.Proofs.YtoggpnfeioaidaaDoor
