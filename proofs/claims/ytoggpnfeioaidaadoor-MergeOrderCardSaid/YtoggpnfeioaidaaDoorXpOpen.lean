/-
  HiOpen, XpOpen
-/
import Derived.Test.YtoggpnfeioaidaaDoorExBack
import Derived.Test.YtoggpnfeioaidaaDoorValOut
import Derived.Test.YtoggpnfeioaidaaDoorAlikeB
import Derived.Test.YtoggpnfeioaidaaDoorHiBack
import Derived.Test.YtoggpnfeioaidaaDoorXpBack
import Derived.Test.YtoggpnfeioaidaaDoorMgEach
set_option maxRecDepth 1000000
set_option maxHeartbeats 16000000
namespace Go.Proofs.YtoggpnfeioaidaaDoor
open Go.RowKit Go.ChangeShapes Go.WideShapes Go.ChangeAt Go.Deep
theorem ex_shape:∃ f0 f1 f2 f3 f4 f5 f6:Field,Tryd.prog.underlying 112=some (.struct #[f0,f1,f2,f3,f4,f5,f6])∧Tryd.prog.cellsOf 112=7 ∧
  (f0.offset=0∧f1.offset=1∧f2.offset=2∧f3.offset=3∧f4.offset=4∧f5.offset=5∧f6.offset=6) ∧
  (Tryd.prog.cellsOf f0.type=1∧Tryd.prog.cellsOf f1.type=1∧Tryd.prog.cellsOf f2.type=1∧Tryd.prog.cellsOf f3.type=1∧Tryd.prog.cellsOf f4.type=1∧Tryd.prog.cellsOf f5.type=1∧Tryd.prog.cellsOf f6.type=1) ∧
  (Tryd.prog.underlying f0.type=some (.slice 131)∧Tryd.prog.underlying f1.type=some (.int .u64)∧Tryd.prog.underlying f2.type=some (.int .i64)∧Tryd.prog.underlying f3.type=some (.int .u64)∧Tryd.prog.underlying f4.type=some .string∧Tryd.prog.underlying f5.type=some .string∧Tryd.prog.underlying f6.type=some .string) :=
 ⟨_,_,_,_,_,_,_,Tryd.underlying112,by kernel_rfl,⟨by kernel_rfl,by kernel_rfl,by kernel_rfl,by kernel_rfl,by kernel_rfl,by kernel_rfl,by kernel_rfl⟩,⟨by kernel_rfl,by kernel_rfl,by kernel_rfl,by kernel_rfl,by kernel_rfl,by kernel_rfl,by kernel_rfl⟩,⟨by kernel_rfl,by kernel_rfl,by kernel_rfl,by kernel_rfl,by kernel_rfl,by kernel_rfl,by kernel_rfl⟩⟩
theorem tree_ex {H:Type} {enc:TypeId × Value→H} {W:World} {sp:Nat→Bool} {fuel:Nat} {cs:List Value} {x:DataW H × List MemPlace} (hf:DataW.trod enc Tryd.prog W 0 sp true fuel 112 cs=some x) :
  ∃ (x:Ex),exCel.R W (fun k=>k<W.heap.size) x cs∧ex_arg x:=by
 obtain ⟨f0,f1,f2,f3,f4,f5,f6,hT,ce,⟨o0,o1,o2,o3,o4,o5,o6⟩,⟨c0,c1,c2,c3,c4,c5,c6⟩,⟨t0,t1,t2,t3,t4,t5,t6⟩⟩:=ex_shape
 obtain ⟨xs,n',hf',_,hl,hlen,hx⟩:=DataW.trod_struct hT hf
 rw[ce] at hl
 obtain ⟨V0,V1,V2,V3,V4,V5,V6,rfl⟩:∃ V0 V1 V2 V3 V4 V5 V6,cs=[V0,V1,V2,V3,V4,V5,V6]:=by
  match cs,hl with
  | [q0,q1,q2,q3,q4,q5,q6],_=>exact ⟨q0,q1,q2,q3,q4,q5,q6,rfl⟩
 match xs,hlen with
 | [y0,y1,y2,y3,y4,y5,y6],_ =>
 have g0:=hx 0 f0 rfl
 have g1:=hx 1 f1 rfl
 have g2:=hx 2 f2 rfl
 have g3:=hx 3 f3 rfl
 have g4:=hx 4 f4 rfl
 have g5:=hx 5 f5 rfl
 have g6:=hx 6 f6 rfl
 rw[o0,c0] at g0
 rw[o1,c1] at g1
 rw[o2,c2] at g2
 rw[o3,c3] at g3
 rw[o4,c4] at g4
 rw[o5,c5] at g5
 rw[o6,c6] at g6
 obtain ⟨lo,lc,l0,e0,b0,r0,m0,n0⟩:=kslice_tree t0 (fun q hq=>(tree_all (enc:=enc) (W:=W) (sp:=sp) (q+1) q (by omega)).2) g0
 obtain ⟨z1,e1,_,w1⟩:=DataW.trod_int t1 g1
 obtain ⟨z2,e2,_,_⟩:=DataW.trod_int t2 g2
 obtain ⟨z3,e3,_,w3⟩:=DataW.trod_int t3 g3
 obtain ⟨S4,e4,_,w4⟩:=DataW.trod_string t4 g4
 obtain ⟨S5,e5,_,w5⟩:=DataW.trod_string t5 g5
 obtain ⟨S6,e6,_,w6⟩:=DataW.trod_string t6 g6
 simp only[List.drop_zero,List.drop_succ_cons,List.take_succ_cons,List.take_zero,List.cons.injEq,and_true] at e0 e1 e2 e3 e4 e5 e6
 subst e0 e1 e2 e3 e4 e5 e6
 simp[Lit.wf,IntKind.min,IntKind.max,IntKind.signed,IntKind.bits] at w1
 obtain ⟨k1,rfl⟩:∃ k:Nat,z1=(k:Int):=⟨z1.toNat,by omega⟩
 simp[Lit.wf,IntKind.min,IntKind.max,IntKind.signed,IntKind.bits] at w3
 obtain ⟨k3,rfl⟩:∃ k:Nat,z3=(k:Int):=⟨z3.toNat,by omega⟩
 have w4':S4.size≤9223372036854775807:=w4
 have w5':S5.size≤9223372036854775807:=w5
 have w6':S6.size≤9223372036854775807:=w6
 refine ⟨((k1,(((z2,k3),(S4.data.toList,S5.data.toList)),l0)),S6.data.toList),⟨lo,lc,by simp[strV],r0⟩,⟨(by show k1<_;omega),(by show k3<_;omega),(by simpa using w4'),(by simpa using w5'),n0,m0,b0,(by simpa using w6')⟩⟩
theorem exslice_tree {H:Type} {enc:TypeId × Value→H} {W:World} {sp:Nat→Bool} {t:TypeId} {fuel:Nat} {cs:List Value} {x:DataW H × List MemPlace} (ht:Tryd.prog.underlying t=some (.slice 112)) (h:DataW.trod enc Tryd.prog W 0 sp true fuel t cs=some x) :
  ∃ (lo:Option Addr) (cap:Nat) (l:List Ex),cs=[.slice lo l.length cap]∧l.length≤9223372036854775807∧CRels exCel W (fun k=>k<W.heap.size) l lo∧∀ x∈l,ex_arg x:=by
 obtain ⟨lo,cap,l,h1,h2,h3⟩:=slice_tree (fun (a:Ex) cs=>exCel.R W (fun k=>k<W.heap.size) a cs∧ex_arg a) (c:=7) (by kernel_rfl) (by decide) ht (fun n hn cs x h=>tree_ex h) h
 by_cases h0:l=[]
 · subst h0
   exact ⟨lo,cap,[],h1,h2,CRels.nil _ _ _ _,fun x hx=>by cases hx⟩
 · obtain ⟨g,off,rfl,hg,hh⟩:=h3 h0
   refine ⟨_,cap,l,h1,h2,fun j hj=>?_,fun y hy=>?_⟩
   · obtain ⟨ds,h4,h5⟩:=hh j hj
     exact ⟨g,off,ds,rfl,hg,hg,h4,h5.1⟩
   · obtain ⟨j,hj,rfl⟩:=List.getElem_of_mem hy
     obtain ⟨ds,h4,h5⟩:=hh j hj
     exact h5.2
open Go.RowKit Go.ChangeShapes Go.WideShapes Go.ChangeAt Go.Deep
theorem opt_shape:∃ f0 f1:Field,Tryd.prog.underlying 25=some (.struct #[f0,f1])∧Tryd.prog.cellsOf 25=2∧(f0.offset=0∧f1.offset=1)∧(Tryd.prog.cellsOf f0.type=1∧Tryd.prog.cellsOf f1.type=1)∧(Tryd.prog.underlying f0.type=some .bool∧Tryd.prog.underlying f1.type=some (.int .u64)) :=
 ⟨_,_,Tryd.underlying25,by kernel_rfl,⟨by kernel_rfl,by kernel_rfl⟩,⟨by kernel_rfl,by kernel_rfl⟩,⟨by kernel_rfl,by kernel_rfl⟩⟩
theorem tree_opt {H:Type} {enc:TypeId × Value→H} {W:World} {sp:Nat→Bool} {fuel:Nat} {cs:List Value} {x:DataW H × List MemPlace} (hf:DataW.trod enc Tryd.prog W 0 sp true fuel 25 cs=some x) :
  ∃ (b:Bool) (n:Nat),cs=[.bool b,.int .u64 (n:Int)]∧n<18446744073709551616:=by
 obtain ⟨f0,f1,hT,ce,⟨o0,o1⟩,⟨c0,c1⟩,⟨t0,t1⟩⟩:=opt_shape
 obtain ⟨xs,n',hf',_,hl,hlen,hx⟩:=DataW.trod_struct hT hf
 rw[ce] at hl
 obtain ⟨V0,V1,rfl⟩:∃ V0 V1,cs=[V0,V1]:=by
  match cs,hl with
  | [q0,q1],_=>exact ⟨q0,q1,rfl⟩
 match xs,hlen with
 | [y0,y1],_ =>
 have g0:=hx 0 f0 rfl
 have g1:=hx 1 f1 rfl
 rw[o0,c0] at g0
 rw[o1,c1] at g1
 obtain ⟨z0,e0,_⟩:=DataW.trod_bool t0 g0
 obtain ⟨z1,e1,_,w1⟩:=DataW.trod_int t1 g1
 simp only[List.drop_zero,List.drop_succ_cons,List.take_succ_cons,List.take_zero,List.cons.injEq,and_true] at e0 e1
 subst e0 e1
 simp[Lit.wf,IntKind.min,IntKind.max,IntKind.signed,IntKind.bits] at w1
 obtain ⟨k1,rfl⟩:∃ k:Nat,z1=(k:Int):=⟨z1.toNat,by omega⟩
 exact ⟨z0,k1,rfl,by omega⟩
theorem tree_nat {H:Type} {enc:TypeId × Value→H} {W:World} {sp:Nat→Bool} {fuel:Nat} {cs:List Value} {x:DataW H × List MemPlace} (h:DataW.trod enc Tryd.prog W 0 sp true fuel 23 cs=some x):∃ n:Nat,cs=[.int .u64 (n:Int)]∧n<18446744073709551616:=by
 obtain ⟨z1,e1,_,w1⟩:=DataW.trod_int Tryd.underlying23 h
 subst e1
 simp[Lit.wf,IntKind.min,IntKind.max,IntKind.signed,IntKind.bits] at w1
 obtain ⟨k1,rfl⟩:∃ k:Nat,z1=(k:Int):=⟨z1.toNat,by omega⟩
 exact ⟨k1,rfl,by omega⟩
theorem nslice_tree {H:Type} {enc:TypeId × Value→H} {W:World} {sp:Nat→Bool} {t:TypeId} {fuel:Nat} {cs:List Value} {x:DataW H × List MemPlace} (ht:Tryd.prog.underlying t=some (.slice 23)) (h:DataW.trod enc Tryd.prog W 0 sp true fuel t cs=some x) :
  ∃ (lo:Option Addr) (cap:Nat) (l:List Nat),cs=[.slice lo l.length cap]∧l.length≤9223372036854775807∧CRels natCel W (fun k=>k<W.heap.size) l lo∧∀ n∈l,n<18446744073709551616:=by
 obtain ⟨lo,cap,l,h1,h2,h3⟩:=slice_tree (fun (n:Nat) cs=>cs=[.int .u64 (n:Int)]∧n<18446744073709551616) (c:=1) (by kernel_rfl) (by decide) ht (fun n _ cs x hx=>tree_nat hx) h
 by_cases h0:l=[]
 · subst h0
   exact ⟨lo,cap,[],h1,h2,CRels.nil _ _ _ _,fun n hn=>by cases hn⟩
 · obtain ⟨g,off,rfl,hg,hh⟩:=h3 h0
   refine ⟨_,cap,l,h1,h2,fun j hj=>?_,fun y hy=>?_⟩
   · obtain ⟨ds,h4,h5,_⟩:=hh j hj
     exact ⟨g,off,ds,rfl,hg,hg,h4,h5⟩
   · obtain ⟨j,hj,rfl⟩:=List.getElem_of_mem hy
     obtain ⟨ds,h4,h5⟩:=hh j hj
     exact h5.2
theorem hi_shape:∃ f0 f1 f2 f3 f4 f6 f8 f10 f11 f12 f13 f14:Field,Tryd.prog.underlying 48=some (.struct #[f0,f1,f2,f3,f4,f6,f8,f10,f11,f12,f13,f14])∧Tryd.prog.cellsOf 48=15 ∧
  (f0.offset=0∧f1.offset=1∧f2.offset=2∧f3.offset=3∧f4.offset=4∧f6.offset=6∧f8.offset=8∧f10.offset=10∧f11.offset=11∧f12.offset=12∧f13.offset=13∧f14.offset=14) ∧
  (Tryd.prog.cellsOf f0.type=1∧Tryd.prog.cellsOf f1.type=1∧Tryd.prog.cellsOf f2.type=1∧Tryd.prog.cellsOf f3.type=1∧Tryd.prog.cellsOf f4.type=2∧Tryd.prog.cellsOf f6.type=2∧Tryd.prog.cellsOf f8.type=2∧Tryd.prog.cellsOf f10.type=1∧Tryd.prog.cellsOf f11.type=1∧Tryd.prog.cellsOf f12.type=1∧Tryd.prog.cellsOf f13.type=1∧Tryd.prog.cellsOf f14.type=1) ∧
  (Tryd.prog.underlying f0.type=some (.slice 131)∧Tryd.prog.underlying f1.type=some (.int .u64)∧Tryd.prog.underlying f2.type=some (.int .u64)∧Tryd.prog.underlying f3.type=some (.int .u64)∧f4.type=25∧f6.type=25∧f8.type=25∧Tryd.prog.underlying f10.type=some (.slice 23)∧Tryd.prog.underlying f11.type=some (.slice 23)∧Tryd.prog.underlying f12.type=some (.slice 112)∧Tryd.prog.underlying f13.type=some (.int .u32)∧Tryd.prog.underlying f14.type=some .string) :=
 ⟨_,_,_,_,_,_,_,_,_,_,_,_,Tryd.underlying48,by kernel_rfl,⟨by kernel_rfl,by kernel_rfl,by kernel_rfl,by kernel_rfl,by kernel_rfl,by kernel_rfl,by kernel_rfl,by kernel_rfl,by kernel_rfl,by kernel_rfl,by kernel_rfl,by kernel_rfl⟩,⟨by kernel_rfl,by kernel_rfl,by kernel_rfl,by kernel_rfl,by kernel_rfl,by kernel_rfl,by kernel_rfl,by kernel_rfl,by kernel_rfl,by kernel_rfl,by kernel_rfl,by kernel_rfl⟩,⟨by kernel_rfl,by kernel_rfl,by kernel_rfl,by kernel_rfl,by kernel_rfl,by kernel_rfl,by kernel_rfl,by kernel_rfl,by kernel_rfl,by kernel_rfl,by kernel_rfl,by kernel_rfl⟩⟩
theorem tree_hi {H:Type} {enc:TypeId × Value→H} {W:World} {sp:Nat→Bool} {fuel:Nat} {cs:List Value} {x:DataW H × List MemPlace} (hf:DataW.trod enc Tryd.prog W 0 sp true fuel 48 cs=some x) :
  ∃ (x:Hi),hiCel.R W (fun k=>k<W.heap.size) x cs∧hi_arg x:=by
 obtain ⟨f0,f1,f2,f3,f4,f6,f8,f10,f11,f12,f13,f14,hT,ce,⟨o0,o1,o2,o3,o4,o6,o8,o10,o11,o12,o13,o14⟩,⟨c0,c1,c2,c3,c4,c6,c8,c10,c11,c12,c13,c14⟩,⟨t0,t1,t2,t3,t4,t6,t8,t10,t11,t12,t13,t14⟩⟩:=hi_shape
 obtain ⟨xs,n',hf',_,hl,hlen,hx⟩:=DataW.trod_struct hT hf
 rw[ce] at hl
 obtain ⟨V0,V1,V2,V3,V4,V5,V6,V7,V8,V9,V10,V11,V12,V13,V14,rfl⟩:∃ V0 V1 V2 V3 V4 V5 V6 V7 V8 V9 V10 V11 V12 V13 V14,cs=[V0,V1,V2,V3,V4,V5,V6,V7,V8,V9,V10,V11,V12,V13,V14]:=by
  match cs,hl with
  | [q0,q1,q2,q3,q4,q5,q6,q7,q8,q9,q10,q11,q12,q13,q14],_=>exact ⟨q0,q1,q2,q3,q4,q5,q6,q7,q8,q9,q10,q11,q12,q13,q14,rfl⟩
 match xs,hlen with
 | [y0,y1,y2,y3,y4,y6,y8,y10,y11,y12,y13,y14],_ =>
 have g0:=hx 0 f0 rfl
 have g1:=hx 1 f1 rfl
 have g2:=hx 2 f2 rfl
 have g3:=hx 3 f3 rfl
 have g4:=hx 4 f4 rfl
 have g6:=hx 5 f6 rfl
 have g8:=hx 6 f8 rfl
 have g10:=hx 7 f10 rfl
 have g11:=hx 8 f11 rfl
 have g12:=hx 9 f12 rfl
 have g13:=hx 10 f13 rfl
 have g14:=hx 11 f14 rfl
 rw[o0,c0] at g0
 rw[o1,c1] at g1
 rw[o2,c2] at g2
 rw[o3,c3] at g3
 rw[o4,c4,t4] at g4
 rw[o6,c6,t6] at g6
 rw[o8,c8,t8] at g8
 rw[o10,c10] at g10
 rw[o11,c11] at g11
 rw[o12,c12] at g12
 rw[o13,c13] at g13
 rw[o14,c14] at g14
 obtain ⟨lo,lc,l0,e0,b0,r0,m0,n0⟩:=kslice_tree t0 (fun q hq=>(tree_all (enc:=enc) (W:=W) (sp:=sp) (q+1) q (by omega)).2) g0
 obtain ⟨z1,e1,_,w1⟩:=DataW.trod_int t1 g1
 obtain ⟨z2,e2,_,w2⟩:=DataW.trod_int t2 g2
 obtain ⟨z3,e3,_,w3⟩:=DataW.trod_int t3 g3
 obtain ⟨b4,n4,e4,w4⟩:=tree_opt g4
 obtain ⟨b6,n6,e6,w6⟩:=tree_opt g6
 obtain ⟨b8,n8,e8,w8⟩:=tree_opt g8
 obtain ⟨nco,ncc,l10,e10,b10,r10,n10⟩:=nslice_tree t10 g10
 obtain ⟨nbo,nbc,l11,e11,b11,r11,n11⟩:=nslice_tree t11 g11
 obtain ⟨eo,ec,l12,e12,b12,r12,n12⟩:=exslice_tree t12 g12
 obtain ⟨z13,e13,_,w13⟩:=DataW.trod_int t13 g13
 obtain ⟨S14,e14,_,w14⟩:=DataW.trod_string t14 g14
 simp only[List.drop_zero,List.drop_succ_cons,List.take_succ_cons,List.take_zero,List.cons.injEq,and_true] at e0 e1 e2 e3 e4 e6 e8 e10 e11 e12 e13 e14
 obtain ⟨e4,e5⟩:=e4
 obtain ⟨e6,e7⟩:=e6
 obtain ⟨e8,e9⟩:=e8
 subst e0 e1 e2 e3 e4 e5 e6 e7 e8 e9 e10 e11 e12 e13 e14
 simp[Lit.wf,IntKind.min,IntKind.max,IntKind.signed,IntKind.bits] at w1
 obtain ⟨k1,rfl⟩:∃ k:Nat,z1=(k:Int):=⟨z1.toNat,by omega⟩
 simp[Lit.wf,IntKind.min,IntKind.max,IntKind.signed,IntKind.bits] at w2
 obtain ⟨k2,rfl⟩:∃ k:Nat,z2=(k:Int):=⟨z2.toNat,by omega⟩
 simp[Lit.wf,IntKind.min,IntKind.max,IntKind.signed,IntKind.bits] at w3
 obtain ⟨k3,rfl⟩:∃ k:Nat,z3=(k:Int):=⟨z3.toNat,by omega⟩
 simp[Lit.wf,IntKind.min,IntKind.max,IntKind.signed,IntKind.bits] at w13
 obtain ⟨k13,rfl⟩:∃ k:Nat,z13=(k:Int):=⟨z13.toNat,by omega⟩
 have w14':S14.size≤9223372036854775807:=w14
 refine ⟨((k1,(k2,(k3,((b4,n4),(l10,(l11,(l12,(l0,(k13,((b6,n6),(b8,n8))))))))))),S14.data.toList),⟨lo,lc,nco,ncc,nbo,nbc,eo,ec,by simp[strV],r0,r10,r11,r12⟩,⟨(by show k1<_;omega),(by show k2<_;omega),(by show k3<_;omega),w4,n10,b10,n11,b11,n12,b12,n0,m0,b0,(by show k13<_;omega),w6,w8,(by simpa using w14')⟩⟩
theorem open_hi {H:Type} {enc:TypeId × Value→H} {W:World} {sp:Nat→Bool} {base:Nat} {v:Value} {d:DataW H} {p:List MemPlace} (hv:Value.okWide Tryd.prog W .any base 48 v) (h:DataW.Trod enc Tryd.prog W 0 sp true 48 v d p) :
  ∃ (x:Hi) (cs:List Value),v = .agg cs.toArray∧hiCel.R W (fun k=>k<W.heap.size) x cs∧hi_arg x:=by
 obtain ⟨cs,rfl,hsz⟩:=okWide_struct Tryd.underlying48 hv
 obtain ⟨fuel,hf⟩:=h
 obtain ⟨x,h1,h2⟩:=tree_hi hf
 exact ⟨x,cs.toList,by simp,h1,h2⟩
open Go.RowKit
def XpRel (w:World) (P:Nat→Prop):Xp→List Value→Prop
  | ((l,(a,(t,(k,((bp,vp),(sc,(zc,((gp,pb,pu),((gn,nb,nu),(f,(es,((bm,vm),((bg,vg),th))))))))))))),u),cs=>∃ (lo:Option Addr) (lc:Nat) (po:Option Addr) (pc:Nat) (no:Option Addr) (nc:Nat) (eo:Option Addr) (ec:Nat),cs=[.slice lo l.length lc,.int .u64 (a:Int),.int .u64 (t:Int),.int .u64 (k:Int),.bool bp,.int .u64 (vp:Int),.bool bm,.int .u64 (vm:Int),.bool bg,.int .u64 (vg:Int),.int .i32 sc,.int .u64 (zc:Int),.bool gp,.int .i32 pb.off,.slice po pb.cs.length pc,strV pu,.bool gn,.int .i32 nb.off,.slice no nb.cs.length nc,strV nu,.slice eo es.length ec,.int .u32 (f:Int),.int .u64 (th:Int),strV u]∧KRels w P l lo 0∧CRels natCel w P pb.cs po∧CRels natCel w P nb.cs no∧CRels exCel w P es eo
def xpCel:Cel Xp where
  R:=XpRel
  size:=24
  len:=by rintro w P ⟨⟨l,⟨a,⟨t,⟨k,⟨⟨bp,vp⟩,⟨sc,⟨zc,⟨⟨gp,pb,pu⟩,⟨⟨gn,nb,nu⟩,⟨f,⟨es,⟨⟨bm,vm⟩,⟨⟨bg,vg⟩,th⟩⟩⟩⟩⟩⟩⟩⟩⟩⟩⟩⟩⟩,u⟩ cs ⟨lo,lc,po,pc,no,nc,eo,ec,rfl,_,_,_,_⟩;rfl
  upd:=by rintro w w' S P Q ⟨⟨l,⟨a,⟨t,⟨k,⟨⟨bp,vp⟩,⟨sc,⟨zc,⟨⟨gp,pb,pu⟩,⟨⟨gn,nb,nu⟩,⟨f,⟨es,⟨⟨bm,vm⟩,⟨⟨bg,vg⟩,th⟩⟩⟩⟩⟩⟩⟩⟩⟩⟩⟩⟩⟩,u⟩ cs hu hs hq ⟨lo,lc,po,pc,no,nc,eo,ec,h,h0,h1,h2,h3⟩;exact ⟨lo,lc,po,pc,no,nc,eo,ec,h,KRels.upd hu hs hq _ _ _ h0,CRels.upd hu hs hq h1,CRels.upd hu hs hq h2,CRels.upd hu hs hq h3⟩
  lt:=by rintro w P ⟨⟨l,⟨a,⟨t,⟨k,⟨⟨bp,vp⟩,⟨sc,⟨zc,⟨⟨gp,pb,pu⟩,⟨⟨gn,nb,nu⟩,⟨f,⟨es,⟨⟨bm,vm⟩,⟨⟨bg,vg⟩,th⟩⟩⟩⟩⟩⟩⟩⟩⟩⟩⟩⟩⟩,u⟩ cs ⟨lo,lc,po,pc,no,nc,eo,ec,h,h0,h1,h2,h3⟩;exact ⟨lo,lc,po,pc,no,nc,eo,ec,h,KRels.lt _ _ _ h0,CRels.lt h1,CRels.lt h2,CRels.lt h3⟩
theorem xp_zrel (w:World) (P:Nat→Prop):xpCel.R w P (([],0,0,0,(false,0),0,0,(false,⟨0,[]⟩,[]),(false,⟨0,[]⟩,[]),0,[],(false,0),(false,0),0),[]) [.slice none 0 0,.int .u64 0,.int .u64 0,.int .u64 0,.bool false,.int .u64 0,.bool false,.int .u64 0,.bool false,.int .u64 0,.int .i32 0,.int .u64 0,.bool false,.int .i32 0,.slice none 0 0,.string ⟨#[]⟩,.bool false,.int .i32 0,.slice none 0 0,.string ⟨#[]⟩,.slice none 0 0,.int .u32 0,.int .u64 0,.string ⟨#[]⟩]:=⟨none,0,none,0,none,0,none,0,rfl,(by rw[KRels];trivial),CRels.nil _ _ _ _,CRels.nil _ _ _ _,CRels.nil _ _ _ _⟩
open Go.RowKit Go.ChangeShapes Go.WideShapes Go.ChangeAt Go.Deep
theorem bk_shape:∃ f0 f1 f2:Field,Tryd.prog.underlying 28=some (.struct #[f0,f1,f2])∧Tryd.prog.cellsOf 28=3∧(f0.offset=0∧f1.offset=1∧f2.offset=2)∧(Tryd.prog.cellsOf f0.type=1∧Tryd.prog.cellsOf f1.type=1∧Tryd.prog.cellsOf f2.type=1)∧(Tryd.prog.underlying f0.type=some (.int .i32)∧Tryd.prog.underlying f1.type=some (.slice 23)∧Tryd.prog.underlying f2.type=some .string) :=
 ⟨_,_,_,Tryd.underlying28,by kernel_rfl,⟨by kernel_rfl,by kernel_rfl,by kernel_rfl⟩,⟨by kernel_rfl,by kernel_rfl,by kernel_rfl⟩,⟨by kernel_rfl,by kernel_rfl,by kernel_rfl⟩⟩
theorem tree_bk {H:Type} {enc:TypeId × Value→H} {W:World} {sp:Nat→Bool} {fuel:Nat} {cs:List Value} {x:DataW H × List MemPlace} (hf:DataW.trod enc Tryd.prog W 0 sp true fuel 28 cs=some x) :
  ∃ (x:Bk) (lo:Option Addr) (cap:Nat) (S:ByteArray),cs=[.int .i32 x.off,.slice lo x.cs.length cap,.string S]∧BkOk x∧x.cs.length≤9223372036854775807∧S.size≤9223372036854775807∧CRels natCel W (fun k=>k<W.heap.size) x.cs lo:=by
 obtain ⟨f0,f1,f2,hT,ce,⟨o0,o1,o2⟩,⟨c0,c1,c2⟩,⟨t0,t1,t2⟩⟩:=bk_shape
 obtain ⟨xs,n',hf',_,hl,hlen,hx⟩:=DataW.trod_struct hT hf
 rw[ce] at hl
 obtain ⟨V0,V1,V2,rfl⟩:∃ V0 V1 V2,cs=[V0,V1,V2]:=by
  match cs,hl with
  | [q0,q1,q2],_=>exact ⟨q0,q1,q2,rfl⟩
 match xs,hlen with
 | [y0,y1,y2],_ =>
 have g0:=hx 0 f0 rfl
 have g1:=hx 1 f1 rfl
 have g2:=hx 2 f2 rfl
 rw[o0,c0] at g0
 rw[o1,c1] at g1
 rw[o2,c2] at g2
 obtain ⟨z0,e0,_,w0⟩:=DataW.trod_int t0 g0
 obtain ⟨lo,cap,l1,e1,b1,r1,n1⟩:=nslice_tree t1 g1
 obtain ⟨S2,e2,_,w2⟩:=DataW.trod_string t2 g2
 simp only[List.drop_zero,List.drop_succ_cons,List.take_succ_cons,List.take_zero,List.cons.injEq,and_true] at e0 e1 e2
 subst e0 e1 e2
 simp[Lit.wf,IntKind.min,IntKind.max,IntKind.signed,IntKind.bits] at w0
 exact ⟨⟨z0,l1⟩,lo,cap,S2,rfl,⟨by show -2147483648≤z0;omega,by show z0≤2147483647;omega,fun n hn=>n1 n hn⟩,b1,w2,r1⟩
theorem xp_shape:∃ f0 f1 f2 f3 f4 f6 f8 f10 f11 f12 f13 f16 f17 f20 f21 f22 f23:Field,Tryd.prog.underlying 32=some (.struct #[f0,f1,f2,f3,f4,f6,f8,f10,f11,f12,f13,f16,f17,f20,f21,f22,f23])∧Tryd.prog.cellsOf 32=24 ∧
  (f0.offset=0∧f1.offset=1∧f2.offset=2∧f3.offset=3∧f4.offset=4∧f6.offset=6∧f8.offset=8∧f10.offset=10∧f11.offset=11∧f12.offset=12∧f13.offset=13∧f16.offset=16∧f17.offset=17∧f20.offset=20∧f21.offset=21∧f22.offset=22∧f23.offset=23) ∧
  (Tryd.prog.cellsOf f0.type=1∧Tryd.prog.cellsOf f1.type=1∧Tryd.prog.cellsOf f2.type=1∧Tryd.prog.cellsOf f3.type=1∧Tryd.prog.cellsOf f4.type=2∧Tryd.prog.cellsOf f6.type=2∧Tryd.prog.cellsOf f8.type=2∧Tryd.prog.cellsOf f10.type=1∧Tryd.prog.cellsOf f11.type=1∧Tryd.prog.cellsOf f12.type=1∧Tryd.prog.cellsOf f13.type=3∧Tryd.prog.cellsOf f16.type=1∧Tryd.prog.cellsOf f17.type=3∧Tryd.prog.cellsOf f20.type=1∧Tryd.prog.cellsOf f21.type=1∧Tryd.prog.cellsOf f22.type=1∧Tryd.prog.cellsOf f23.type=1) ∧
  (Tryd.prog.underlying f0.type=some (.slice 131)∧Tryd.prog.underlying f1.type=some (.int .u64)∧Tryd.prog.underlying f2.type=some (.int .u64)∧Tryd.prog.underlying f3.type=some (.int .u64)∧f4.type=25∧f6.type=25∧f8.type=25∧Tryd.prog.underlying f10.type=some (.int .i32)∧Tryd.prog.underlying f11.type=some (.int .u64)∧Tryd.prog.underlying f12.type=some .bool∧f13.type=28∧Tryd.prog.underlying f16.type=some .bool∧f17.type=28∧Tryd.prog.underlying f20.type=some (.slice 112)∧Tryd.prog.underlying f21.type=some (.int .u32)∧Tryd.prog.underlying f22.type=some (.int .u64)∧Tryd.prog.underlying f23.type=some .string) :=
 ⟨_,_,_,_,_,_,_,_,_,_,_,_,_,_,_,_,_,Tryd.underlying32,by kernel_rfl,⟨by kernel_rfl,by kernel_rfl,by kernel_rfl,by kernel_rfl,by kernel_rfl,by kernel_rfl,by kernel_rfl,by kernel_rfl,by kernel_rfl,by kernel_rfl,by kernel_rfl,by kernel_rfl,by kernel_rfl,by kernel_rfl,by kernel_rfl,by kernel_rfl,by kernel_rfl⟩,⟨by kernel_rfl,by kernel_rfl,by kernel_rfl,by kernel_rfl,by kernel_rfl,by kernel_rfl,by kernel_rfl,by kernel_rfl,by kernel_rfl,by kernel_rfl,by kernel_rfl,by kernel_rfl,by kernel_rfl,by kernel_rfl,by kernel_rfl,by kernel_rfl,by kernel_rfl⟩,⟨by kernel_rfl,by kernel_rfl,by kernel_rfl,by kernel_rfl,by kernel_rfl,by kernel_rfl,by kernel_rfl,by kernel_rfl,by kernel_rfl,by kernel_rfl,by kernel_rfl,by kernel_rfl,by kernel_rfl,by kernel_rfl,by kernel_rfl,by kernel_rfl,by kernel_rfl⟩⟩
theorem tree_xp {H:Type} {enc:TypeId × Value→H} {W:World} {sp:Nat→Bool} {fuel:Nat} {cs:List Value} {x:DataW H × List MemPlace} (hf:DataW.trod enc Tryd.prog W 0 sp true fuel 32 cs=some x) :
  ∃ (x:Xp),xpCel.R W (fun k=>k<W.heap.size) x cs∧xp_arg x:=by
 obtain ⟨f0,f1,f2,f3,f4,f6,f8,f10,f11,f12,f13,f16,f17,f20,f21,f22,f23,hT,ce,⟨o0,o1,o2,o3,o4,o6,o8,o10,o11,o12,o13,o16,o17,o20,o21,o22,o23⟩,⟨c0,c1,c2,c3,c4,c6,c8,c10,c11,c12,c13,c16,c17,c20,c21,c22,c23⟩,⟨t0,t1,t2,t3,t4,t6,t8,t10,t11,t12,t13,t16,t17,t20,t21,t22,t23⟩⟩:=xp_shape
 obtain ⟨xs,n',hf',_,hl,hlen,hx⟩:=DataW.trod_struct hT hf
 rw[ce] at hl
 obtain ⟨V0,V1,V2,V3,V4,V5,V6,V7,V8,V9,V10,V11,V12,V13,V14,V15,V16,V17,V18,V19,V20,V21,V22,V23,rfl⟩:∃ V0 V1 V2 V3 V4 V5 V6 V7 V8 V9 V10 V11 V12 V13 V14 V15 V16 V17 V18 V19 V20 V21 V22 V23,cs=[V0,V1,V2,V3,V4,V5,V6,V7,V8,V9,V10,V11,V12,V13,V14,V15,V16,V17,V18,V19,V20,V21,V22,V23]:=by
  match cs,hl with
  | [q0,q1,q2,q3,q4,q5,q6,q7,q8,q9,q10,q11,q12,q13,q14,q15,q16,q17,q18,q19,q20,q21,q22,q23],_=>exact ⟨q0,q1,q2,q3,q4,q5,q6,q7,q8,q9,q10,q11,q12,q13,q14,q15,q16,q17,q18,q19,q20,q21,q22,q23,rfl⟩
 match xs,hlen with
 | [y0,y1,y2,y3,y4,y6,y8,y10,y11,y12,y13,y16,y17,y20,y21,y22,y23],_ =>
 have g0:=hx 0 f0 rfl
 have g1:=hx 1 f1 rfl
 have g2:=hx 2 f2 rfl
 have g3:=hx 3 f3 rfl
 have g4:=hx 4 f4 rfl
 have g6:=hx 5 f6 rfl
 have g8:=hx 6 f8 rfl
 have g10:=hx 7 f10 rfl
 have g11:=hx 8 f11 rfl
 have g12:=hx 9 f12 rfl
 have g13:=hx 10 f13 rfl
 have g16:=hx 11 f16 rfl
 have g17:=hx 12 f17 rfl
 have g20:=hx 13 f20 rfl
 have g21:=hx 14 f21 rfl
 have g22:=hx 15 f22 rfl
 have g23:=hx 16 f23 rfl
 rw[o0,c0] at g0
 rw[o1,c1] at g1
 rw[o2,c2] at g2
 rw[o3,c3] at g3
 rw[o4,c4,t4] at g4
 rw[o6,c6,t6] at g6
 rw[o8,c8,t8] at g8
 rw[o10,c10] at g10
 rw[o11,c11] at g11
 rw[o12,c12] at g12
 rw[o13,c13,t13] at g13
 rw[o16,c16] at g16
 rw[o17,c17,t17] at g17
 rw[o20,c20] at g20
 rw[o21,c21] at g21
 rw[o22,c22] at g22
 rw[o23,c23] at g23
 obtain ⟨lo,lc,l0,e0,b0,r0,m0,n0⟩:=kslice_tree t0 (fun q hq=>(tree_all (enc:=enc) (W:=W) (sp:=sp) (q+1) q (by omega)).2) g0
 obtain ⟨z1,e1,_,w1⟩:=DataW.trod_int t1 g1
 obtain ⟨z2,e2,_,w2⟩:=DataW.trod_int t2 g2
 obtain ⟨z3,e3,_,w3⟩:=DataW.trod_int t3 g3
 obtain ⟨b4,n4,e4,w4⟩:=tree_opt g4
 obtain ⟨b6,n6,e6,w6⟩:=tree_opt g6
 obtain ⟨b8,n8,e8,w8⟩:=tree_opt g8
 obtain ⟨z10,e10,_,w10⟩:=DataW.trod_int t10 g10
 obtain ⟨z11,e11,_,w11⟩:=DataW.trod_int t11 g11
 obtain ⟨b12,e12,_⟩:=DataW.trod_bool t12 g12
 obtain ⟨x13,po,pc,S13,e13,h13,b13,w13,r13⟩:=tree_bk g13
 obtain ⟨b16,e16,_⟩:=DataW.trod_bool t16 g16
 obtain ⟨x17,no,nc,S17,e17,h17,b17,w17,r17⟩:=tree_bk g17
 obtain ⟨eo,ec,l20,e20,b20,r20,n20⟩:=exslice_tree t20 g20
 obtain ⟨z21,e21,_,w21⟩:=DataW.trod_int t21 g21
 obtain ⟨z22,e22,_,w22⟩:=DataW.trod_int t22 g22
 obtain ⟨S23,e23,_,w23⟩:=DataW.trod_string t23 g23
 simp only[List.drop_zero,List.drop_succ_cons,List.take_succ_cons,List.take_zero,List.cons.injEq,and_true] at e0 e1 e2 e3 e4 e6 e8 e10 e11 e12 e13 e16 e17 e20 e21 e22 e23
 obtain ⟨e4,e5⟩:=e4
 obtain ⟨e6,e7⟩:=e6
 obtain ⟨e8,e9⟩:=e8
 obtain ⟨e13,e14,e15⟩:=e13
 obtain ⟨e17,e18,e19⟩:=e17
 subst e0 e1 e2 e3 e4 e5 e6 e7 e8 e9 e10 e11 e12 e13 e14 e15 e16 e17 e18 e19 e20 e21 e22 e23
 simp[Lit.wf,IntKind.min,IntKind.max,IntKind.signed,IntKind.bits] at w1
 obtain ⟨k1,rfl⟩:∃ k:Nat,z1=(k:Int):=⟨z1.toNat,by omega⟩
 simp[Lit.wf,IntKind.min,IntKind.max,IntKind.signed,IntKind.bits] at w2
 obtain ⟨k2,rfl⟩:∃ k:Nat,z2=(k:Int):=⟨z2.toNat,by omega⟩
 simp[Lit.wf,IntKind.min,IntKind.max,IntKind.signed,IntKind.bits] at w3
 obtain ⟨k3,rfl⟩:∃ k:Nat,z3=(k:Int):=⟨z3.toNat,by omega⟩
 simp[Lit.wf,IntKind.min,IntKind.max,IntKind.signed,IntKind.bits] at w10
 simp[Lit.wf,IntKind.min,IntKind.max,IntKind.signed,IntKind.bits] at w11
 obtain ⟨k11,rfl⟩:∃ k:Nat,z11=(k:Int):=⟨z11.toNat,by omega⟩
 simp[Lit.wf,IntKind.min,IntKind.max,IntKind.signed,IntKind.bits] at w21
 obtain ⟨k21,rfl⟩:∃ k:Nat,z21=(k:Int):=⟨z21.toNat,by omega⟩
 simp[Lit.wf,IntKind.min,IntKind.max,IntKind.signed,IntKind.bits] at w22
 obtain ⟨k22,rfl⟩:∃ k:Nat,z22=(k:Int):=⟨z22.toNat,by omega⟩
 have w13':S13.size≤9223372036854775807:=w13
 have w17':S17.size≤9223372036854775807:=w17
 have w23':S23.size≤9223372036854775807:=w23
 refine ⟨((l0,(k1,(k2,(k3,((b4,n4),(z10,(k11,((b12,x13,S13.data.toList),((b16,x17,S17.data.toList),(k21,(l20,((b6,n6),((b8,n8),k22))))))))))))),S23.data.toList),⟨lo,lc,po,pc,no,nc,eo,ec,by simp[strV],r0,r13,r17,r20⟩,⟨n0,m0,b0,(by show k1<_;omega),(by show k2<_;omega),(by show k3<_;omega),w4,(by show -2147483648≤z10∧z10≤2147483647;omega),(by show k11<_;omega),h13,b13,(by simpa using w13'),h17,b17,(by simpa using w17'),(by show k21<_;omega),n20,b20,w6,w8,(by show k22<_;omega),(by simpa using w23')⟩⟩
theorem open_xp {H:Type} {enc:TypeId × Value→H} {W:World} {sp:Nat→Bool} {base:Nat} {v:Value} {d:DataW H} {p:List MemPlace} (hv:Value.okWide Tryd.prog W .any base 32 v) (h:DataW.Trod enc Tryd.prog W 0 sp true 32 v d p) :
  ∃ (x:Xp) (cs:List Value),v = .agg cs.toArray∧xpCel.R W (fun k=>k<W.heap.size) x cs∧xp_arg x:=by
 obtain ⟨cs,rfl,hsz⟩:=okWide_struct Tryd.underlying32 hv
 obtain ⟨fuel,hf⟩:=h
 obtain ⟨x,h1,h2⟩:=tree_xp hf
 exact ⟨x,cs.toList,by simp,h1,h2⟩
end Go.Proofs.YtoggpnfeioaidaaDoor
