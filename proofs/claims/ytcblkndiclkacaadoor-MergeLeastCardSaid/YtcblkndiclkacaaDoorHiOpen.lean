/-
  ExOpen, HiOpen
-/
import Derived.Test.YtcblkndiclkacaaDoorExBack
import Derived.Test.YtcblkndiclkacaaDoorOpenV
import Derived.Test.YtcblkndiclkacaaDoorAlikeB
import Derived.Test.YtcblkndiclkacaaDoorHiBack
set_option maxRecDepth 1000000
set_option maxHeartbeats 16000000
namespace Go.Proofs.YtcblkndiclkacaaDoor
open Go.RowKit Go.ChangeShapes Go.WideShapes Go.ChangeAt Go.Deep
theorem ex_shape:∃ f0 f1 f2 f3 f4 f5 f6:Field,Tryd.prog.underlying 153=some (.struct #[f0,f1,f2,f3,f4,f5,f6])∧Tryd.prog.cellsOf 153=7 ∧
  (f0.offset=0∧f1.offset=1∧f2.offset=2∧f3.offset=3∧f4.offset=4∧f5.offset=5∧f6.offset=6) ∧
  (Tryd.prog.cellsOf f0.type=1∧Tryd.prog.cellsOf f1.type=1∧Tryd.prog.cellsOf f2.type=1∧Tryd.prog.cellsOf f3.type=1∧Tryd.prog.cellsOf f4.type=1∧Tryd.prog.cellsOf f5.type=1∧Tryd.prog.cellsOf f6.type=1) ∧
  (Tryd.prog.underlying f0.type=some (.slice 161)∧Tryd.prog.underlying f1.type=some (.int .u64)∧Tryd.prog.underlying f2.type=some (.int .i64)∧Tryd.prog.underlying f3.type=some (.int .u64)∧Tryd.prog.underlying f4.type=some .string∧Tryd.prog.underlying f5.type=some .string∧Tryd.prog.underlying f6.type=some .string) :=
 ⟨_,_,_,_,_,_,_,Tryd.underlying153,by kernel_rfl,⟨by kernel_rfl,by kernel_rfl,by kernel_rfl,by kernel_rfl,by kernel_rfl,by kernel_rfl,by kernel_rfl⟩,⟨by kernel_rfl,by kernel_rfl,by kernel_rfl,by kernel_rfl,by kernel_rfl,by kernel_rfl,by kernel_rfl⟩,⟨by kernel_rfl,by kernel_rfl,by kernel_rfl,by kernel_rfl,by kernel_rfl,by kernel_rfl,by kernel_rfl⟩⟩
theorem tree_ex {H:Type} {enc:TypeId × Value→H} {W:World} {sp:Nat→Bool} {fuel:Nat} {cs:List Value} {x:DataW H × List MemPlace} (hf:DataW.trod enc Tryd.prog W 0 sp true fuel 153 cs=some x) :
  ∃ (x:Ex),exCel.R W (fun k=>k<W.heap.size) x cs∧ex_arg x:=by
 obtain ⟨f0,f1,f2,f3,f4,f5,f6,hT,ce,⟨o0,o1,o2,o3,o4,o5,o6⟩,⟨c0,c1,c2,c3,c4,c5,c6⟩,⟨t0,t1,t2,t3,t4,t5,t6⟩⟩:=ex_shape
 obtain ⟨xs,n',hf',_,hl,hlen,hx⟩:=DataW.trod_struct hT hf
 rw[ce] at hl
 obtain ⟨V0,V1,V2,V3,V4,V5,V6,rfl⟩:∃ V0 V1 V2 V3 V4 V5 V6,cs=[V0,V1,V2,V3,V4,V5,V6]:=by
  match cs,hl with
  | [q0,q1,q2,q3,q4,q5,q6],_=>exact ⟨q0,q1,q2,q3,q4,q5,q6,rfl⟩
 match xs,hlen with
 | [y0,y1,y2,y3,y4,y5,y6],_ =>
 have g0:=hx 0 f0 rfl
 have g1:=hx 1 f1 rfl
 have g2:=hx 2 f2 rfl
 have g3:=hx 3 f3 rfl
 have g4:=hx 4 f4 rfl
 have g5:=hx 5 f5 rfl
 have g6:=hx 6 f6 rfl
 rw[o0,c0] at g0
 rw[o1,c1] at g1
 rw[o2,c2] at g2
 rw[o3,c3] at g3
 rw[o4,c4] at g4
 rw[o5,c5] at g5
 rw[o6,c6] at g6
 obtain ⟨lo,lc,l0,e0,b0,r0,m0,n0⟩:=kslice_tree t0 (fun q hq=>(tree_all (enc:=enc) (W:=W) (sp:=sp) (q+1) q (by omega)).2) g0
 obtain ⟨z1,e1,_,w1⟩:=DataW.trod_int t1 g1
 obtain ⟨z2,e2,_,_⟩:=DataW.trod_int t2 g2
 obtain ⟨z3,e3,_,w3⟩:=DataW.trod_int t3 g3
 obtain ⟨S4,e4,_,w4⟩:=DataW.trod_string t4 g4
 obtain ⟨S5,e5,_,w5⟩:=DataW.trod_string t5 g5
 obtain ⟨S6,e6,_,w6⟩:=DataW.trod_string t6 g6
 simp only[List.drop_zero,List.drop_succ_cons,List.take_succ_cons,List.take_zero,List.cons.injEq,and_true] at e0 e1 e2 e3 e4 e5 e6
 subst e0 e1 e2 e3 e4 e5 e6
 simp[Lit.wf,IntKind.min,IntKind.max,IntKind.signed,IntKind.bits] at w1
 obtain ⟨k1,rfl⟩:∃ k:Nat,z1=(k:Int):=⟨z1.toNat,by omega⟩
 simp[Lit.wf,IntKind.min,IntKind.max,IntKind.signed,IntKind.bits] at w3
 obtain ⟨k3,rfl⟩:∃ k:Nat,z3=(k:Int):=⟨z3.toNat,by omega⟩
 have w4':S4.size≤9223372036854775807:=w4
 have w5':S5.size≤9223372036854775807:=w5
 have w6':S6.size≤9223372036854775807:=w6
 refine ⟨((k1,(((z2,k3),(S4.data.toList,S5.data.toList)),l0)),S6.data.toList),⟨lo,lc,by simp[strV],r0⟩,⟨(by show k1<_;omega),(by show k3<_;omega),(by simpa using w4'),(by simpa using w5'),n0,m0,b0,(by simpa using w6')⟩⟩
theorem exslice_tree {H:Type} {enc:TypeId × Value→H} {W:World} {sp:Nat→Bool} {t:TypeId} {fuel:Nat} {cs:List Value} {x:DataW H × List MemPlace} (ht:Tryd.prog.underlying t=some (.slice 153)) (h:DataW.trod enc Tryd.prog W 0 sp true fuel t cs=some x) :
  ∃ (lo:Option Addr) (cap:Nat) (l:List Ex),cs=[.slice lo l.length cap]∧l.length≤9223372036854775807∧CRels exCel W (fun k=>k<W.heap.size) l lo∧∀ x∈l,ex_arg x:=by
 obtain ⟨lo,cap,l,h1,h2,h3⟩:=slice_tree (fun (a:Ex) cs=>exCel.R W (fun k=>k<W.heap.size) a cs∧ex_arg a) (c:=7) (by kernel_rfl) (by decide) ht (fun n hn cs x h=>tree_ex h) h
 by_cases h0:l=[]
 · subst h0
   exact ⟨lo,cap,[],h1,h2,CRels.nil _ _ _ _,fun x hx=>by cases hx⟩
 · obtain ⟨g,off,rfl,hg,hh⟩:=h3 h0
   refine ⟨_,cap,l,h1,h2,fun j hj=>?_,fun y hy=>?_⟩
   · obtain ⟨ds,h4,h5⟩:=hh j hj
     exact ⟨g,off,ds,rfl,hg,hg,h4,h5.1⟩
   · obtain ⟨j,hj,rfl⟩:=List.getElem_of_mem hy
     obtain ⟨ds,h4,h5⟩:=hh j hj
     exact h5.2
open Go.RowKit Go.ChangeShapes Go.WideShapes Go.ChangeAt Go.Deep
theorem opt_shape:∃ f0 f1:Field,Tryd.prog.underlying 42=some (.struct #[f0,f1])∧Tryd.prog.cellsOf 42=2∧(f0.offset=0∧f1.offset=1)∧(Tryd.prog.cellsOf f0.type=1∧Tryd.prog.cellsOf f1.type=1)∧(Tryd.prog.underlying f0.type=some .bool∧Tryd.prog.underlying f1.type=some (.int .u64)) :=
 ⟨_,_,Tryd.underlying42,by kernel_rfl,⟨by kernel_rfl,by kernel_rfl⟩,⟨by kernel_rfl,by kernel_rfl⟩,⟨by kernel_rfl,by kernel_rfl⟩⟩
theorem tree_opt {H:Type} {enc:TypeId × Value→H} {W:World} {sp:Nat→Bool} {fuel:Nat} {cs:List Value} {x:DataW H × List MemPlace} (hf:DataW.trod enc Tryd.prog W 0 sp true fuel 42 cs=some x) :
  ∃ (b:Bool) (n:Nat),cs=[.bool b,.int .u64 (n:Int)]∧n<18446744073709551616:=by
 obtain ⟨f0,f1,hT,ce,⟨o0,o1⟩,⟨c0,c1⟩,⟨t0,t1⟩⟩:=opt_shape
 obtain ⟨xs,n',hf',_,hl,hlen,hx⟩:=DataW.trod_struct hT hf
 rw[ce] at hl
 obtain ⟨V0,V1,rfl⟩:∃ V0 V1,cs=[V0,V1]:=by
  match cs,hl with
  | [q0,q1],_=>exact ⟨q0,q1,rfl⟩
 match xs,hlen with
 | [y0,y1],_ =>
 have g0:=hx 0 f0 rfl
 have g1:=hx 1 f1 rfl
 rw[o0,c0] at g0
 rw[o1,c1] at g1
 obtain ⟨z0,e0,_⟩:=DataW.trod_bool t0 g0
 obtain ⟨z1,e1,_,w1⟩:=DataW.trod_int t1 g1
 simp only[List.drop_zero,List.drop_succ_cons,List.take_succ_cons,List.take_zero,List.cons.injEq,and_true] at e0 e1
 subst e0 e1
 simp[Lit.wf,IntKind.min,IntKind.max,IntKind.signed,IntKind.bits] at w1
 obtain ⟨k1,rfl⟩:∃ k:Nat,z1=(k:Int):=⟨z1.toNat,by omega⟩
 exact ⟨z0,k1,rfl,by omega⟩
theorem tree_nat {H:Type} {enc:TypeId × Value→H} {W:World} {sp:Nat→Bool} {fuel:Nat} {cs:List Value} {x:DataW H × List MemPlace} (h:DataW.trod enc Tryd.prog W 0 sp true fuel 40 cs=some x):∃ n:Nat,cs=[.int .u64 (n:Int)]∧n<18446744073709551616:=by
 obtain ⟨z1,e1,_,w1⟩:=DataW.trod_int Tryd.underlying40 h
 subst e1
 simp[Lit.wf,IntKind.min,IntKind.max,IntKind.signed,IntKind.bits] at w1
 obtain ⟨k1,rfl⟩:∃ k:Nat,z1=(k:Int):=⟨z1.toNat,by omega⟩
 exact ⟨k1,rfl,by omega⟩
theorem nslice_tree {H:Type} {enc:TypeId × Value→H} {W:World} {sp:Nat→Bool} {t:TypeId} {fuel:Nat} {cs:List Value} {x:DataW H × List MemPlace} (ht:Tryd.prog.underlying t=some (.slice 40)) (h:DataW.trod enc Tryd.prog W 0 sp true fuel t cs=some x) :
  ∃ (lo:Option Addr) (cap:Nat) (l:List Nat),cs=[.slice lo l.length cap]∧l.length≤9223372036854775807∧CRels natCel W (fun k=>k<W.heap.size) l lo∧∀ n∈l,n<18446744073709551616:=by
 obtain ⟨lo,cap,l,h1,h2,h3⟩:=slice_tree (fun (n:Nat) cs=>cs=[.int .u64 (n:Int)]∧n<18446744073709551616) (c:=1) (by kernel_rfl) (by decide) ht (fun n _ cs x hx=>tree_nat hx) h
 by_cases h0:l=[]
 · subst h0
   exact ⟨lo,cap,[],h1,h2,CRels.nil _ _ _ _,fun n hn=>by cases hn⟩
 · obtain ⟨g,off,rfl,hg,hh⟩:=h3 h0
   refine ⟨_,cap,l,h1,h2,fun j hj=>?_,fun y hy=>?_⟩
   · obtain ⟨ds,h4,h5,_⟩:=hh j hj
     exact ⟨g,off,ds,rfl,hg,hg,h4,h5⟩
   · obtain ⟨j,hj,rfl⟩:=List.getElem_of_mem hy
     obtain ⟨ds,h4,h5⟩:=hh j hj
     exact h5.2
theorem hi_shape:∃ f0 f1 f2 f3 f4 f6 f8 f10 f11 f12 f13 f14:Field,Tryd.prog.underlying 56=some (.struct #[f0,f1,f2,f3,f4,f6,f8,f10,f11,f12,f13,f14])∧Tryd.prog.cellsOf 56=15 ∧
  (f0.offset=0∧f1.offset=1∧f2.offset=2∧f3.offset=3∧f4.offset=4∧f6.offset=6∧f8.offset=8∧f10.offset=10∧f11.offset=11∧f12.offset=12∧f13.offset=13∧f14.offset=14) ∧
  (Tryd.prog.cellsOf f0.type=1∧Tryd.prog.cellsOf f1.type=1∧Tryd.prog.cellsOf f2.type=1∧Tryd.prog.cellsOf f3.type=1∧Tryd.prog.cellsOf f4.type=2∧Tryd.prog.cellsOf f6.type=2∧Tryd.prog.cellsOf f8.type=2∧Tryd.prog.cellsOf f10.type=1∧Tryd.prog.cellsOf f11.type=1∧Tryd.prog.cellsOf f12.type=1∧Tryd.prog.cellsOf f13.type=1∧Tryd.prog.cellsOf f14.type=1) ∧
  (Tryd.prog.underlying f0.type=some (.slice 161)∧Tryd.prog.underlying f1.type=some (.int .u64)∧Tryd.prog.underlying f2.type=some (.int .u64)∧Tryd.prog.underlying f3.type=some (.int .u64)∧f4.type=42∧f6.type=42∧f8.type=42∧Tryd.prog.underlying f10.type=some (.slice 40)∧Tryd.prog.underlying f11.type=some (.slice 40)∧Tryd.prog.underlying f12.type=some (.slice 153)∧Tryd.prog.underlying f13.type=some (.int .u32)∧Tryd.prog.underlying f14.type=some .string) :=
 ⟨_,_,_,_,_,_,_,_,_,_,_,_,Tryd.underlying56,by kernel_rfl,⟨by kernel_rfl,by kernel_rfl,by kernel_rfl,by kernel_rfl,by kernel_rfl,by kernel_rfl,by kernel_rfl,by kernel_rfl,by kernel_rfl,by kernel_rfl,by kernel_rfl,by kernel_rfl⟩,⟨by kernel_rfl,by kernel_rfl,by kernel_rfl,by kernel_rfl,by kernel_rfl,by kernel_rfl,by kernel_rfl,by kernel_rfl,by kernel_rfl,by kernel_rfl,by kernel_rfl,by kernel_rfl⟩,⟨by kernel_rfl,by kernel_rfl,by kernel_rfl,by kernel_rfl,by kernel_rfl,by kernel_rfl,by kernel_rfl,by kernel_rfl,by kernel_rfl,by kernel_rfl,by kernel_rfl,by kernel_rfl⟩⟩
theorem tree_hi {H:Type} {enc:TypeId × Value→H} {W:World} {sp:Nat→Bool} {fuel:Nat} {cs:List Value} {x:DataW H × List MemPlace} (hf:DataW.trod enc Tryd.prog W 0 sp true fuel 56 cs=some x) :
  ∃ (x:Hi),hiCel.R W (fun k=>k<W.heap.size) x cs∧hi_arg x:=by
 obtain ⟨f0,f1,f2,f3,f4,f6,f8,f10,f11,f12,f13,f14,hT,ce,⟨o0,o1,o2,o3,o4,o6,o8,o10,o11,o12,o13,o14⟩,⟨c0,c1,c2,c3,c4,c6,c8,c10,c11,c12,c13,c14⟩,⟨t0,t1,t2,t3,t4,t6,t8,t10,t11,t12,t13,t14⟩⟩:=hi_shape
 obtain ⟨xs,n',hf',_,hl,hlen,hx⟩:=DataW.trod_struct hT hf
 rw[ce] at hl
 obtain ⟨V0,V1,V2,V3,V4,V5,V6,V7,V8,V9,V10,V11,V12,V13,V14,rfl⟩:∃ V0 V1 V2 V3 V4 V5 V6 V7 V8 V9 V10 V11 V12 V13 V14,cs=[V0,V1,V2,V3,V4,V5,V6,V7,V8,V9,V10,V11,V12,V13,V14]:=by
  match cs,hl with
  | [q0,q1,q2,q3,q4,q5,q6,q7,q8,q9,q10,q11,q12,q13,q14],_=>exact ⟨q0,q1,q2,q3,q4,q5,q6,q7,q8,q9,q10,q11,q12,q13,q14,rfl⟩
 match xs,hlen with
 | [y0,y1,y2,y3,y4,y6,y8,y10,y11,y12,y13,y14],_ =>
 have g0:=hx 0 f0 rfl
 have g1:=hx 1 f1 rfl
 have g2:=hx 2 f2 rfl
 have g3:=hx 3 f3 rfl
 have g4:=hx 4 f4 rfl
 have g6:=hx 5 f6 rfl
 have g8:=hx 6 f8 rfl
 have g10:=hx 7 f10 rfl
 have g11:=hx 8 f11 rfl
 have g12:=hx 9 f12 rfl
 have g13:=hx 10 f13 rfl
 have g14:=hx 11 f14 rfl
 rw[o0,c0] at g0
 rw[o1,c1] at g1
 rw[o2,c2] at g2
 rw[o3,c3] at g3
 rw[o4,c4,t4] at g4
 rw[o6,c6,t6] at g6
 rw[o8,c8,t8] at g8
 rw[o10,c10] at g10
 rw[o11,c11] at g11
 rw[o12,c12] at g12
 rw[o13,c13] at g13
 rw[o14,c14] at g14
 obtain ⟨lo,lc,l0,e0,b0,r0,m0,n0⟩:=kslice_tree t0 (fun q hq=>(tree_all (enc:=enc) (W:=W) (sp:=sp) (q+1) q (by omega)).2) g0
 obtain ⟨z1,e1,_,w1⟩:=DataW.trod_int t1 g1
 obtain ⟨z2,e2,_,w2⟩:=DataW.trod_int t2 g2
 obtain ⟨z3,e3,_,w3⟩:=DataW.trod_int t3 g3
 obtain ⟨b4,n4,e4,w4⟩:=tree_opt g4
 obtain ⟨b6,n6,e6,w6⟩:=tree_opt g6
 obtain ⟨b8,n8,e8,w8⟩:=tree_opt g8
 obtain ⟨nco,ncc,l10,e10,b10,r10,n10⟩:=nslice_tree t10 g10
 obtain ⟨nbo,nbc,l11,e11,b11,r11,n11⟩:=nslice_tree t11 g11
 obtain ⟨eo,ec,l12,e12,b12,r12,n12⟩:=exslice_tree t12 g12
 obtain ⟨z13,e13,_,w13⟩:=DataW.trod_int t13 g13
 obtain ⟨S14,e14,_,w14⟩:=DataW.trod_string t14 g14
 simp only[List.drop_zero,List.drop_succ_cons,List.take_succ_cons,List.take_zero,List.cons.injEq,and_true] at e0 e1 e2 e3 e4 e6 e8 e10 e11 e12 e13 e14
 obtain ⟨e4,e5⟩:=e4
 obtain ⟨e6,e7⟩:=e6
 obtain ⟨e8,e9⟩:=e8
 subst e0 e1 e2 e3 e4 e5 e6 e7 e8 e9 e10 e11 e12 e13 e14
 simp[Lit.wf,IntKind.min,IntKind.max,IntKind.signed,IntKind.bits] at w1
 obtain ⟨k1,rfl⟩:∃ k:Nat,z1=(k:Int):=⟨z1.toNat,by omega⟩
 simp[Lit.wf,IntKind.min,IntKind.max,IntKind.signed,IntKind.bits] at w2
 obtain ⟨k2,rfl⟩:∃ k:Nat,z2=(k:Int):=⟨z2.toNat,by omega⟩
 simp[Lit.wf,IntKind.min,IntKind.max,IntKind.signed,IntKind.bits] at w3
 obtain ⟨k3,rfl⟩:∃ k:Nat,z3=(k:Int):=⟨z3.toNat,by omega⟩
 simp[Lit.wf,IntKind.min,IntKind.max,IntKind.signed,IntKind.bits] at w13
 obtain ⟨k13,rfl⟩:∃ k:Nat,z13=(k:Int):=⟨z13.toNat,by omega⟩
 have w14':S14.size≤9223372036854775807:=w14
 refine ⟨((k1,(k2,(k3,((b4,n4),(l10,(l11,(l12,(l0,(k13,((b6,n6),(b8,n8))))))))))),S14.data.toList),⟨lo,lc,nco,ncc,nbo,nbc,eo,ec,by simp[strV],r0,r10,r11,r12⟩,⟨(by show k1<_;omega),(by show k2<_;omega),(by show k3<_;omega),w4,n10,b10,n11,b11,n12,b12,n0,m0,b0,(by show k13<_;omega),w6,w8,(by simpa using w14')⟩⟩
theorem open_hi {H:Type} {enc:TypeId × Value→H} {W:World} {sp:Nat→Bool} {base:Nat} {v:Value} {d:DataW H} {p:List MemPlace} (hv:Value.okWide Tryd.prog W .any base 56 v) (h:DataW.Trod enc Tryd.prog W 0 sp true 56 v d p) :
  ∃ (x:Hi) (cs:List Value),v = .agg cs.toArray∧hiCel.R W (fun k=>k<W.heap.size) x cs∧hi_arg x:=by
 obtain ⟨cs,rfl,hsz⟩:=okWide_struct Tryd.underlying56 hv
 obtain ⟨fuel,hf⟩:=h
 obtain ⟨x,h1,h2⟩:=tree_hi hf
 exact ⟨x,cs.toList,by simp,h1,h2⟩
end Go.Proofs.YtcblkndiclkacaaDoor
