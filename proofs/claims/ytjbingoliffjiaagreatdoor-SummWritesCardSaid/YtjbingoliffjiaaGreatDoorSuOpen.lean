/-
  A quantile, a point of a summary as an argument.
-/
import Derived.Test.YtjbingoliffjiaaGreatDoorSuBack
import Derived.Test.YtjbingoliffjiaaGreatDoorOpenV
import Derived.Test.YtjbingoliffjiaaGreatDoorAlikeB
set_option maxRecDepth 1000000
set_option maxHeartbeats 16000000
namespace Go.Proofs.YtjbingoliffjiaaGreatDoor
open Go.RowKit Go.ChangeShapes Go.WideShapes Go.ChangeAt Go.Deep
theorem qu_shape:∃ f0 f1 f2:Field,Tryz.prog.underlying 141=some (.struct #[f0,f1,f2])∧Tryz.prog.cellsOf 141=3 ∧
  (f0.offset=0∧f1.offset=1∧f2.offset=2) ∧
  (Tryz.prog.cellsOf f0.type=1∧Tryz.prog.cellsOf f1.type=1∧Tryz.prog.cellsOf f2.type=1) ∧
  (Tryz.prog.underlying f0.type=some (.int .u64)∧Tryz.prog.underlying f1.type=some (.int .u64)∧Tryz.prog.underlying f2.type=some .string) :=
 ⟨_,_,_,Tryz.underlying141,by kernel_rfl,⟨by kernel_rfl,by kernel_rfl,by kernel_rfl⟩,⟨by kernel_rfl,by kernel_rfl,by kernel_rfl⟩,⟨by kernel_rfl,by kernel_rfl,by kernel_rfl⟩⟩
theorem tree_qu {H:Type} {enc:TypeId × Value→H} {W:World} {sp:Nat→Bool} {fuel:Nat} {cs:List Value} {x:DataW H × List MemPlace} (hf:DataW.trod enc Tryz.prog W 0 sp true fuel 141 cs=some x) :
  ∃ (x:Qu),quCel.R W (fun k=>k<W.heap.size) x cs∧qu_arg x:=by
 obtain ⟨f0,f1,f2,hT,ce,⟨o0,o1,o2⟩,⟨c0,c1,c2⟩,⟨t0,t1,t2⟩⟩:=qu_shape
 obtain ⟨xs,n',hf',_,hl,hlen,hx⟩:=DataW.trod_struct hT hf
 rw[ce] at hl
 obtain ⟨V0,V1,V2,rfl⟩:∃ V0 V1 V2,cs=[V0,V1,V2]:=by
  match cs,hl with
  | [q0,q1,q2],_=>exact ⟨q0,q1,q2,rfl⟩
 match xs,hlen with
 | [y0,y1,y2],_ =>
 have g0:=hx 0 f0 rfl
 have g1:=hx 1 f1 rfl
 have g2:=hx 2 f2 rfl
 rw[o0,c0] at g0
 rw[o1,c1] at g1
 rw[o2,c2] at g2
 obtain ⟨z0,e0,_,w0⟩:=DataW.trod_int t0 g0
 obtain ⟨z1,e1,_,w1⟩:=DataW.trod_int t1 g1
 obtain ⟨S2,e2,_,w2⟩:=DataW.trod_string t2 g2
 simp only[List.drop_zero,List.drop_succ_cons,List.take_succ_cons,List.take_zero,List.cons.injEq,and_true] at e0 e1 e2
 subst e0 e1 e2
 simp[Lit.wf,IntKind.min,IntKind.max,IntKind.signed,IntKind.bits] at w0
 obtain ⟨k0,rfl⟩:∃ k:Nat,z0=(k:Int):=⟨z0.toNat,by omega⟩
 simp[Lit.wf,IntKind.min,IntKind.max,IntKind.signed,IntKind.bits] at w1
 obtain ⟨k1,rfl⟩:∃ k:Nat,z1=(k:Int):=⟨z1.toNat,by omega⟩
 have w2':S2.size≤9223372036854775807:=w2
 refine ⟨((k0,k1),S2.data.toList),by show _=_;simp[strV],⟨(by show k0<_;omega),(by show k1<_;omega),(by simpa using w2')⟩⟩
theorem quslice_tree {H:Type} {enc:TypeId × Value→H} {W:World} {sp:Nat→Bool} {t:TypeId} {fuel:Nat} {cs:List Value} {x:DataW H × List MemPlace} (ht:Tryz.prog.underlying t=some (.slice 141)) (h:DataW.trod enc Tryz.prog W 0 sp true fuel t cs=some x) :
  ∃ (lo:Option Addr) (cap:Nat) (l:List Qu),cs=[.slice lo l.length cap]∧l.length≤9223372036854775807∧CRels quCel W (fun k=>k<W.heap.size) l lo∧∀ x∈l,qu_arg x:=by
 obtain ⟨lo,cap,l,h1,h2,h3⟩:=slice_tree (fun (a:Qu) cs=>quCel.R W (fun k=>k<W.heap.size) a cs∧qu_arg a) (c:=3) (by kernel_rfl) (by decide) ht (fun n hn cs x h=>tree_qu h) h
 by_cases h0:l=[]
 · subst h0
   exact ⟨lo,cap,[],h1,h2,CRels.nil _ _ _ _,fun x hx=>by cases hx⟩
 · obtain ⟨g,off,rfl,hg,hh⟩:=h3 h0
   refine ⟨_,cap,l,h1,h2,fun j hj=>?_,fun y hy=>?_⟩
   · obtain ⟨ds,h4,h5⟩:=hh j hj
     exact ⟨g,off,ds,rfl,hg,hg,h4,h5.1⟩
   · obtain ⟨j,hj,rfl⟩:=List.getElem_of_mem hy
     obtain ⟨ds,h4,h5⟩:=hh j hj
     exact h5.2
theorem su_shape:∃ f0 f1 f2 f3 f4 f5 f6 f7:Field,Tryz.prog.underlying 64=some (.struct #[f0,f1,f2,f3,f4,f5,f6,f7])∧Tryz.prog.cellsOf 64=8 ∧
  (f0.offset=0∧f1.offset=1∧f2.offset=2∧f3.offset=3∧f4.offset=4∧f5.offset=5∧f6.offset=6∧f7.offset=7) ∧
  (Tryz.prog.cellsOf f0.type=1∧Tryz.prog.cellsOf f1.type=1∧Tryz.prog.cellsOf f2.type=1∧Tryz.prog.cellsOf f3.type=1∧Tryz.prog.cellsOf f4.type=1∧Tryz.prog.cellsOf f5.type=1∧Tryz.prog.cellsOf f6.type=1∧Tryz.prog.cellsOf f7.type=1) ∧
  (Tryz.prog.underlying f0.type=some (.slice 98)∧Tryz.prog.underlying f1.type=some (.int .u64)∧Tryz.prog.underlying f2.type=some (.int .u64)∧Tryz.prog.underlying f3.type=some (.int .u64)∧Tryz.prog.underlying f4.type=some (.int .u64)∧Tryz.prog.underlying f5.type=some (.slice 141)∧Tryz.prog.underlying f6.type=some (.int .u32)∧Tryz.prog.underlying f7.type=some .string) :=
 ⟨_,_,_,_,_,_,_,_,Tryz.underlying64,by kernel_rfl,⟨by kernel_rfl,by kernel_rfl,by kernel_rfl,by kernel_rfl,by kernel_rfl,by kernel_rfl,by kernel_rfl,by kernel_rfl⟩,⟨by kernel_rfl,by kernel_rfl,by kernel_rfl,by kernel_rfl,by kernel_rfl,by kernel_rfl,by kernel_rfl,by kernel_rfl⟩,⟨by kernel_rfl,by kernel_rfl,by kernel_rfl,by kernel_rfl,by kernel_rfl,by kernel_rfl,by kernel_rfl,by kernel_rfl⟩⟩
theorem tree_su {H:Type} {enc:TypeId × Value→H} {W:World} {sp:Nat→Bool} {fuel:Nat} {cs:List Value} {x:DataW H × List MemPlace} (hf:DataW.trod enc Tryz.prog W 0 sp true fuel 64 cs=some x) :
  ∃ (x:Su),suCel.R W (fun k=>k<W.heap.size) x cs∧su_arg x:=by
 obtain ⟨f0,f1,f2,f3,f4,f5,f6,f7,hT,ce,⟨o0,o1,o2,o3,o4,o5,o6,o7⟩,⟨c0,c1,c2,c3,c4,c5,c6,c7⟩,⟨t0,t1,t2,t3,t4,t5,t6,t7⟩⟩:=su_shape
 obtain ⟨xs,n',hf',_,hl,hlen,hx⟩:=DataW.trod_struct hT hf
 rw[ce] at hl
 obtain ⟨V0,V1,V2,V3,V4,V5,V6,V7,rfl⟩:∃ V0 V1 V2 V3 V4 V5 V6 V7,cs=[V0,V1,V2,V3,V4,V5,V6,V7]:=by
  match cs,hl with
  | [q0,q1,q2,q3,q4,q5,q6,q7],_=>exact ⟨q0,q1,q2,q3,q4,q5,q6,q7,rfl⟩
 match xs,hlen with
 | [y0,y1,y2,y3,y4,y5,y6,y7],_ =>
 have g0:=hx 0 f0 rfl
 have g1:=hx 1 f1 rfl
 have g2:=hx 2 f2 rfl
 have g3:=hx 3 f3 rfl
 have g4:=hx 4 f4 rfl
 have g5:=hx 5 f5 rfl
 have g6:=hx 6 f6 rfl
 have g7:=hx 7 f7 rfl
 rw[o0,c0] at g0
 rw[o1,c1] at g1
 rw[o2,c2] at g2
 rw[o3,c3] at g3
 rw[o4,c4] at g4
 rw[o5,c5] at g5
 rw[o6,c6] at g6
 rw[o7,c7] at g7
 obtain ⟨lo,lc,l0,e0,b0,r0,m0,n0⟩:=kslice_tree t0 (fun q hq=>(tree_all (enc:=enc) (W:=W) (sp:=sp) (q+1) q (by omega)).2) g0
 obtain ⟨z1,e1,_,w1⟩:=DataW.trod_int t1 g1
 obtain ⟨z2,e2,_,w2⟩:=DataW.trod_int t2 g2
 obtain ⟨z3,e3,_,w3⟩:=DataW.trod_int t3 g3
 obtain ⟨z4,e4,_,w4⟩:=DataW.trod_int t4 g4
 obtain ⟨qo,qc,l5,e5,b5,r5,n5⟩:=quslice_tree t5 g5
 obtain ⟨z6,e6,_,w6⟩:=DataW.trod_int t6 g6
 obtain ⟨S7,e7,_,w7⟩:=DataW.trod_string t7 g7
 simp only[List.drop_zero,List.drop_succ_cons,List.take_succ_cons,List.take_zero,List.cons.injEq,and_true] at e0 e1 e2 e3 e4 e5 e6 e7
 subst e0 e1 e2 e3 e4 e5 e6 e7
 simp[Lit.wf,IntKind.min,IntKind.max,IntKind.signed,IntKind.bits] at w1
 obtain ⟨k1,rfl⟩:∃ k:Nat,z1=(k:Int):=⟨z1.toNat,by omega⟩
 simp[Lit.wf,IntKind.min,IntKind.max,IntKind.signed,IntKind.bits] at w2
 obtain ⟨k2,rfl⟩:∃ k:Nat,z2=(k:Int):=⟨z2.toNat,by omega⟩
 simp[Lit.wf,IntKind.min,IntKind.max,IntKind.signed,IntKind.bits] at w3
 obtain ⟨k3,rfl⟩:∃ k:Nat,z3=(k:Int):=⟨z3.toNat,by omega⟩
 simp[Lit.wf,IntKind.min,IntKind.max,IntKind.signed,IntKind.bits] at w4
 obtain ⟨k4,rfl⟩:∃ k:Nat,z4=(k:Int):=⟨z4.toNat,by omega⟩
 simp[Lit.wf,IntKind.min,IntKind.max,IntKind.signed,IntKind.bits] at w6
 obtain ⟨k6,rfl⟩:∃ k:Nat,z6=(k:Int):=⟨z6.toNat,by omega⟩
 have w7':S7.size≤9223372036854775807:=w7
 refine ⟨((k1,(k2,(k3,(k4,(l5,(l0,k6)))))),S7.data.toList),⟨lo,lc,qo,qc,by simp[strV],r0,r5⟩,⟨(by show k1<_;omega),(by show k2<_;omega),(by show k3<_;omega),(by show k4<_;omega),n5,b5,n0,m0,b0,(by show k6<_;omega),(by simpa using w7')⟩⟩
theorem open_su {H:Type} {enc:TypeId × Value→H} {W:World} {sp:Nat→Bool} {base:Nat} {v:Value} {d:DataW H} {p:List MemPlace} (hv:Value.okWide Tryz.prog W .any base 64 v) (h:DataW.Trod enc Tryz.prog W 0 sp true 64 v d p) :
  ∃ (x:Su) (cs:List Value),v = .agg cs.toArray∧suCel.R W (fun k=>k<W.heap.size) x cs∧su_arg x:=by
 obtain ⟨cs,rfl,hsz⟩:=okWide_struct Tryz.underlying64 hv
 obtain ⟨fuel,hf⟩:=h
 obtain ⟨x,h1,h2⟩:=tree_su hf
 exact ⟨x,cs.toList,by simp,h1,h2⟩
end Go.Proofs.YtjbingoliffjiaaGreatDoor
