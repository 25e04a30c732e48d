/-
  An exemplar, exemplars as arguments.
-/
import Derived.Test.YtmlghmjjlpioeaaExBack
import Derived.Test.YtmlghmjjlpioeaaOpenV
import Derived.Test.YtmlghmjjlpioeaaAlikeB
set_option maxRecDepth 1000000
set_option maxHeartbeats 16000000
namespace Go.Proofs.Ytmlghmjjlpioeaa
open Go.RowKit Go.ChangeShapes Go.WideShapes Go.ChangeAt Go.Deep
theorem ex_shape:∃ f0 f1 f2 f3 f4 f5 f6:Field,Try.prog.underlying 110=some (.struct #[f0,f1,f2,f3,f4,f5,f6])∧Try.prog.cellsOf 110=7 ∧
  (f0.offset=0∧f1.offset=1∧f2.offset=2∧f3.offset=3∧f4.offset=4∧f5.offset=5∧f6.offset=6) ∧
  (Try.prog.cellsOf f0.type=1∧Try.prog.cellsOf f1.type=1∧Try.prog.cellsOf f2.type=1∧Try.prog.cellsOf f3.type=1∧Try.prog.cellsOf f4.type=1∧Try.prog.cellsOf f5.type=1∧Try.prog.cellsOf f6.type=1) ∧
  (Try.prog.underlying f0.type=some (.slice 80)∧Try.prog.underlying f1.type=some (.int .u64)∧Try.prog.underlying f2.type=some (.int .i64)∧Try.prog.underlying f3.type=some (.int .u64)∧Try.prog.underlying f4.type=some .string∧Try.prog.underlying f5.type=some .string∧Try.prog.underlying f6.type=some .string) :=
 ⟨_,_,_,_,_,_,_,Try.underlying110,by kernel_rfl,⟨by kernel_rfl,by kernel_rfl,by kernel_rfl,by kernel_rfl,by kernel_rfl,by kernel_rfl,by kernel_rfl⟩,⟨by kernel_rfl,by kernel_rfl,by kernel_rfl,by kernel_rfl,by kernel_rfl,by kernel_rfl,by kernel_rfl⟩,⟨by kernel_rfl,by kernel_rfl,by kernel_rfl,by kernel_rfl,by kernel_rfl,by kernel_rfl,by kernel_rfl⟩⟩
theorem tree_ex {H:Type}{enc:TypeId × Value→H}{W:World}{sp:Nat→Bool}{fuel:Nat}{cs:List Value}{x:DataW H × List MemPlace}(hf:DataW.trod enc Try.prog W 0 sp true fuel 110 cs=some x) :
  ∃ (x:Ex),exCel.R W (fun k=>k<W.heap.size) x cs∧ex_arg x:=by
 obtain ⟨f0,f1,f2,f3,f4,f5,f6,hT,ce,⟨o0,o1,o2,o3,o4,o5,o6⟩,⟨c0,c1,c2,c3,c4,c5,c6⟩,⟨t0,t1,t2,t3,t4,t5,t6⟩⟩:=ex_shape
 obtain ⟨xs,n',hf',_,hl,hlen,hx⟩:=DataW.trod_struct hT hf
 rw[ce] at hl
 obtain ⟨V0,V1,V2,V3,V4,V5,V6,rfl⟩:∃ V0 V1 V2 V3 V4 V5 V6,cs=[V0,V1,V2,V3,V4,V5,V6]:=by
  match cs,hl with
  | [q0,q1,q2,q3,q4,q5,q6],_=>exact ⟨q0,q1,q2,q3,q4,q5,q6,rfl⟩
 match xs,hlen with
 | [y0,y1,y2,y3,y4,y5,y6],_ =>
 have g0:=hx 0 f0 rfl
 have g1:=hx 1 f1 rfl
 have g2:=hx 2 f2 rfl
 have g3:=hx 3 f3 rfl
 have g4:=hx 4 f4 rfl
 have g5:=hx 5 f5 rfl
 have g6:=hx 6 f6 rfl
 rw[o0,c0] at g0
 rw[o1,c1] at g1
 rw[o2,c2] at g2
 rw[o3,c3] at g3
 rw[o4,c4] at g4
 rw[o5,c5] at g5
 rw[o6,c6] at g6
 obtain ⟨lo,lc,l0,e0,b0,r0,m0,n0⟩:=kslice_tree t0 (fun q hq=>(tree_all (enc:=enc) (W:=W) (sp:=sp) (q+1) q (by omega)).2) g0
 obtain ⟨z1,e1,_,w1⟩:=DataW.trod_int t1 g1
 obtain ⟨z2,e2,_,_⟩:=DataW.trod_int t2 g2
 obtain ⟨z3,e3,_,w3⟩:=DataW.trod_int t3 g3
 obtain ⟨S4,e4,_,w4⟩:=DataW.trod_string t4 g4
 obtain ⟨S5,e5,_,w5⟩:=DataW.trod_string t5 g5
 obtain ⟨S6,e6,_,w6⟩:=DataW.trod_string t6 g6
 simp only[List.drop_zero,List.drop_succ_cons,List.take_succ_cons,List.take_zero,List.cons.injEq,and_true] at e0 e1 e2 e3 e4 e5 e6
 subst e0 e1 e2 e3 e4 e5 e6
 simp[Lit.wf,IntKind.min,IntKind.max,IntKind.signed,IntKind.bits] at w1
 obtain ⟨k1,rfl⟩:∃ k:Nat,z1=(k:Int):=⟨z1.toNat,by omega⟩
 simp[Lit.wf,IntKind.min,IntKind.max,IntKind.signed,IntKind.bits] at w3
 obtain ⟨k3,rfl⟩:∃ k:Nat,z3=(k:Int):=⟨z3.toNat,by omega⟩
 have w4':S4.size≤9223372036854775807:=w4
 have w5':S5.size≤9223372036854775807:=w5
 have w6':S6.size≤9223372036854775807:=w6
 refine ⟨((k1,(((z2,k3),(S4.data.toList,S5.data.toList)),l0)),S6.data.toList),⟨lo,lc,by simp[strV],r0⟩,⟨(by show k1<_;omega),(by show k3<_;omega),(by simpa using w4'),(by simpa using w5'),n0,m0,b0,(by simpa using w6')⟩⟩
theorem exslice_tree {H:Type}{enc:TypeId × Value→H}{W:World}{sp:Nat→Bool}{t:TypeId}{fuel:Nat}{cs:List Value}{x:DataW H × List MemPlace}(ht:Try.prog.underlying t=some (.slice 110))(h:DataW.trod enc Try.prog W 0 sp true fuel t cs=some x) :
  ∃ (lo:Option Addr) (cap:Nat) (l:List Ex),cs=[.slice lo l.length cap]∧l.length≤9223372036854775807∧CRels exCel W (fun k=>k<W.heap.size) l lo∧∀ x∈l,ex_arg x:=by
 obtain ⟨lo,cap,l,h1,h2,h3⟩:=slice_tree (fun (a:Ex) cs=>exCel.R W (fun k=>k<W.heap.size) a cs∧ex_arg a) (c:=7) (by kernel_rfl) (by decide) ht (fun n hn cs x h=>tree_ex h) h
 by_cases h0:l=[]
 · subst h0
   exact ⟨lo,cap,[],h1,h2,CRels.nil _ _ _ _,fun x hx=>by cases hx⟩
 · obtain ⟨g,off,rfl,hg,hh⟩:=h3 h0
   refine ⟨_,cap,l,h1,h2,fun j hj=>?_,fun y hy=>?_⟩
   · obtain ⟨ds,h4,h5⟩:=hh j hj
     exact ⟨g,off,ds,rfl,hg,hg,h4,h5.1⟩
   · obtain ⟨j,hj,rfl⟩:=List.getElem_of_mem hy
     obtain ⟨ds,h4,h5⟩:=hh j hj
     exact h5.2
end Go.Proofs.Ytmlghmjjlpioeaa
