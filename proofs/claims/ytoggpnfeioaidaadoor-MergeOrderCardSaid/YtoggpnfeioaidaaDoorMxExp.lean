/-
  merge.Exp.
-/
import Derived.Test.YtoggpnfeioaidaaDoorMxFit
import Derived.Test.YtoggpnfeioaidaaDoorMhHist
set_option maxRecDepth 1000000
set_option maxHeartbeats 16000000
namespace Go.Proofs.YtoggpnfeioaidaaDoor
open Go.RowKit
theorem usum_fit {a b:Nat} (h:a+b<18446744073709551616):usum a b=a+b:=by unfold usum;exact Nat.mod_eq_of_lt h
def iteW (b:Bool) (v:Value):Value:=if b=true then v else undef
theorem iteW_true (v:Value):iteW true v=v:=rfl
theorem iteW_false (v:Value):iteW false v=undef:=rfl
theorem seqB_ite {P:Program} {ops:Array Oper} {Q:Exit→Act→World→Prop} {S:World→Prop} {bs:List Nat} {i:Nat} {r:List (Nat × Bool)} {a:Act} {w:World} {b:Bool} {v:Value} (o:Oper) (ho:ops[i]? = some o) (hS:S w)
  (hw:Region.wanted o (yielded ops a.tmps)=b) (hv:b=true→∀ t:{ x:World // S x },(execOp a.eval o).run P t.1 = .ok (.value v) t.1) (h:wpSeqB P ops Q S bs r (a.put o.dst (iteW b v)) w):wpSeqB P ops Q S bs ((i,true)::r) a w :=
 seqB_take o ho hS fun K hK=>⟨iteW b v,by cases b with
  | true=>rw[if_pos hw];exact hv rfl
  | false=>rw[if_neg (by rw[hw];decide)];rfl,hK _ h⟩
theorem seqB_val {P:Program} {ops:Array Oper} {Q:Exit→Act→World→Prop} {S:World→Prop} {bs:List Nat} {i:Nat} {r:List (Nat × Bool)} {a:Act} {w:World} {v:Value} (o:Oper) (ho:ops[i]? = some o) (hS:S w)
  (hw:Region.wanted o (yielded ops a.tmps)=true) (hv:∀ t:{ x:World // S x },(execOp a.eval o).run P t.1 = .ok (.value v) t.1) (h:wpSeqB P ops Q S bs r (a.put o.dst v) w):wpSeqB P ops Q S bs ((i,true)::r) a w :=
 seqB_take o ho hS fun K hK=>⟨v,by rw[if_pos hw];exact hv,hK _ h⟩
def TwoX (p q:Nat) (cp cq:Array Value) (w':World):Prop:=w'.heap[p]? = some (.cells cp 32 (0,0))∧w'.heap[q]? = some (.cells cq 32 (0,0))
def XeNo (x y:Sd) (k1 k2 z1 z2:Nat) (most:Int):Prop:=FtNo x y most∨∃ j,FtAt x y most j∧(18446744073709551616≤k1+k2∨18446744073709551616≤z1+z2∨aans (pAt x y j)=none∨aans (nAt x y j)=none)
def XeSum (x y:Xp) (j:Nat) (o1:Int) (C1:List Nat) (o2:Int) (C2:List Nat):Xp:=match x,y with
 | ((_,(a1,(_,(k1,((bp1,vp1),(sc1,(zc1,((gp1,_,_),((gn1,_,_),(_,(_,((bm1,vm1),((bg1,vg1),_))))))))))))),_),((l2,(_,(t2,(k2,((bp2,vp2),(sc2,(zc2,((gp2,_,_),((gn2,_,_),(f2,(es2,((bm2,vm2),((bg2,vg2),th2))))))))))))),u2)=>((l2,(a1,(t2,(k1+k2,(bothO Fm.add (bp1,vp1) (bp2,vp2),(min sc1 sc2 - j,(zc1+zc2,((gp1||gp2,⟨o1,C1⟩,[]),((gn1||gn2,⟨o2,C2⟩,[]),(f2,(es2,(bothO minF (bm1,vm1) (bm2,vm2),(bothO maxF (bg1,vg1) (bg2,vg2),th2))))))))))))),u2)
def XeP (w:World) (ne:Bool) (no:Prop) (yes:World→List Value→Prop) (E:Ending) (w':World):Prop:=Below w.heap.size w w'∧∃ cs v,E = .returned (.tuple #[.agg cs.toArray,v]) ∧
 ((ne=true∧EC w' v 13∧(∃ T y,v = .iface T y)∧cs=[.slice none 0 0,.int .u64 0,.int .u64 0,.int .u64 0,.bool false,.int .u64 0,.bool false,.int .u64 0,.bool false,.int .u64 0,.int .i32 0,.int .u64 0,.bool false,.int .i32 0,.slice none 0 0,.string ⟨#[]⟩,.bool false,.int .i32 0,.slice none 0 0,.string ⟨#[]⟩,.slice none 0 0,.int .u32 0,.int .u64 0,.string ⟨#[]⟩])∨(ne=false∧no∧EC w' v 9∧(∃ T y,v = .iface T y)∧cs=[.slice none 0 0,.int .u64 0,.int .u64 0,.int .u64 0,.bool false,.int .u64 0,.bool false,.int .u64 0,.bool false,.int .u64 0,.int .i32 0,.int .u64 0,.bool false,.int .i32 0,.slice none 0 0,.string ⟨#[]⟩,.bool false,.int .i32 0,.slice none 0 0,.string ⟨#[]⟩,.slice none 0 0,.int .u32 0,.int .u64 0,.string ⟨#[]⟩])∨(ne=false∧v = .nilIface∧yes w' cs))
theorem mexp_any (l1:List KV) (a1 t1 k1:Nat) (bp1:Bool) (vp1:Nat) (bm1:Bool) (vm1:Nat) (bg1:Bool) (vg1:Nat) (sc1:Int) (zc1:Nat) (gp1:Bool) (po1:Int) (pc1:List Nat) (pu1:ByteArray) (gn1:Bool) (no1:Int) (nc1:List Nat) (nu1:ByteArray) (es1:List Ex) (f1 th1:Nat) (u1:List UInt8) (lo1:Option Addr) (lc1:Nat) (pco1:Option Addr) (pcc1:Nat) (nco1:Option Addr) (ncc1:Nat) (eo1:Option Addr) (ec1:Nat) (l2:List KV) (a2 t2 k2:Nat) (bp2:Bool) (vp2:Nat) (bm2:Bool) (vm2:Nat) (bg2:Bool) (vg2:Nat) (sc2:Int) (zc2:Nat) (gp2:Bool) (po2:Int) (pc2:List Nat) (pu2:ByteArray) (gn2:Bool) (no2:Int) (nc2:List Nat) (nu2:ByteArray) (es2:List Ex) (f2 th2:Nat) (u2:List UInt8) (lo2:Option Addr) (lc2:Nat) (pco2:Option Addr) (pcc2:Nat) (nco2:Option Addr) (ncc2:Nat) (eo2:Option Addr) (ec2:Nat) (most:Int) (ew:Addr) (P:Nat→Prop) (w:World) (hw:ksw l2≤1000000) (hes:es2.length≤1000000) (hew:Hid (∀ x∈es2,ksw x.1.2.2≤1000000)) (H0:Hid (KRels w P l2 lo2 0)) (HP1:Hid (CRels natCel w P pc1 pco1)) (HQ1:Hid (CRels natCel w P nc1 nco1)) (HP2:Hid (CRels natCel w P pc2 pco2)) (HQ2:Hid (CRels natCel w P nc2 nco2)) (H20:Hid (CRels exCel w P es2 eo2)) (HEW:Hid (WideAt ew w)) (hsc1 : -2147483648≤sc1∧sc1≤2147483647) (hsc2 : -2147483648≤sc2∧sc2≤2147483647) (hu64:Hid (k1<2^64∧k2<2^64∧vp1<2^64∧vp2<2^64∧vm1<2^64∧vm2<2^64∧vg1<2^64∧vg2<2^64∧zc1<2^64∧zc2<2^64)) (hok:Hid (∀ sa sb,sa≤31→sb≤31→(∀ p∈Sd.pos ⟨sc1,gp1,po1,pc1,gn1,no1,nc1⟩ sa++Sd.pos ⟨sc2,gp2,po2,pc2,gn2,no2,nc2⟩ sb,p.Ok)∧(∀ p∈Sd.neg ⟨sc1,gp1,po1,pc1,gn1,no1,nc1⟩ sa++Sd.neg ⟨sc2,gp2,po2,pc2,gn2,no2,nc2⟩ sb,p.Ok))) :
  Calls Tryd.prog 11 #[.agg #[.slice lo1 l1.length lc1,.int .u64 (a1:Int),.int .u64 (t1:Int),.int .u64 (k1:Int),.bool bp1,.int .u64 (vp1:Int),.bool bm1,.int .u64 (vm1:Int),.bool bg1,.int .u64 (vg1:Int),.int .i32 sc1,.int .u64 (zc1:Int),.bool gp1,.int .i32 po1,.slice pco1 pc1.length pcc1,.string pu1,.bool gn1,.int .i32 no1,.slice nco1 nc1.length ncc1,.string nu1,.slice eo1 es1.length ec1,.int .u32 (f1:Int),.int .u64 (th1:Int),strV u1],.agg #[.slice lo2 l2.length lc2,.int .u64 (a2:Int),.int .u64 (t2:Int),.int .u64 (k2:Int),.bool bp2,.int .u64 (vp2:Int),.bool bm2,.int .u64 (vm2:Int),.bool bg2,.int .u64 (vg2:Int),.int .i32 sc2,.int .u64 (zc2:Int),.bool gp2,.int .i32 po2,.slice pco2 pc2.length pcc2,.string pu2,.bool gn2,.int .i32 no2,.slice nco2 nc2.length ncc2,.string nu2,.slice eo2 es2.length ec2,.int .u32 (f2:Int),.int .u64 (th2:Int),strV u2],.int .i64 most] w (XeP w (decide (th1≠th2)) (XeNo ⟨sc1,gp1,po1,pc1,gn1,no1,nc1⟩ ⟨sc2,gp2,po2,pc2,gn2,no2,nc2⟩ k1 k2 zc1 zc2 most) (fun w' cs=>∃ (j:Nat) (o1:Int) (C1:List Nat) (o2:Int) (C2:List Nat),FtAt ⟨sc1,gp1,po1,pc1,gn1,no1,nc1⟩ ⟨sc2,gp2,po2,pc2,gn2,no2,nc2⟩ most j∧aans (pAt ⟨sc1,gp1,po1,pc1,gn1,no1,nc1⟩ ⟨sc2,gp2,po2,pc2,gn2,no2,nc2⟩ j)=some (o1,C1)∧aans (nAt ⟨sc1,gp1,po1,pc1,gn1,no1,nc1⟩ ⟨sc2,gp2,po2,pc2,gn2,no2,nc2⟩ j)=some (o2,C2)∧k1+k2<18446744073709551616∧zc1+zc2<18446744073709551616∧xpCel.R w' (fun q=>w.heap.size≤q) (XeSum ((l1,(a1,(t1,(k1,((bp1,vp1),(sc1,(zc1,((gp1,⟨po1,pc1⟩,[]),((gn1,⟨no1,nc1⟩,[]),(f1,(es1,((bm1,vm1),((bg1,vg1),th1))))))))))))),u1) ((l2,(a2,(t2,(k2,((bp2,vp2),(sc2,(zc2,((gp2,⟨po2,pc2⟩,[]),((gn2,⟨no2,nc2⟩,[]),(f2,(es2,((bm2,vm2),((bg2,vg2),th2))))))))))))),u2) j o1 C1 o2 C2) cs)):=by
 obtain ⟨b1,HN1⟩:∃ x,Hid (w.heap.size=x):=⟨_,Lib.hid rfl⟩
 obtain ⟨b2,HN2⟩:∃ x,Hid (w.heap.size+1=x):=⟨_,Lib.hid rfl⟩
 obtain ⟨b3,HN3⟩:∃ x,Hid (w.heap.size+2=x):=⟨_,Lib.hid rfl⟩
 obtain ⟨wa,HWa⟩:∃ X,Hid (w.alloc (.cells #[.slice lo1 l1.length lc1,.int .u64 (a1:Int),.int .u64 (t1:Int),.int .u64 (k1:Int),.bool bp1,.int .u64 (vp1:Int),.bool bm1,.int .u64 (vm1:Int),.bool bg1,.int .u64 (vg1:Int),.int .i32 sc1,.int .u64 (zc1:Int),.bool gp1,.int .i32 po1,.slice pco1 pc1.length pcc1,.string pu1,.bool gn1,.int .i32 no1,.slice nco1 nc1.length ncc1,.string nu1,.slice eo1 es1.length ec1,.int .u32 (f1:Int),.int .u64 (th1:Int),strV u1] 32)=X):=⟨_,Lib.hid rfl⟩
 obtain ⟨wb,HWb⟩:∃ X,Hid (wa.alloc (.cells #[.slice lo2 l2.length lc2,.int .u64 (a2:Int),.int .u64 (t2:Int),.int .u64 (k2:Int),.bool bp2,.int .u64 (vp2:Int),.bool bm2,.int .u64 (vm2:Int),.bool bg2,.int .u64 (vg2:Int),.int .i32 sc2,.int .u64 (zc2:Int),.bool gp2,.int .i32 po2,.slice pco2 pc2.length pcc2,.string pu2,.bool gn2,.int .i32 no2,.slice nco2 nc2.length ncc2,.string nu2,.slice eo2 es2.length ec2,.int .u32 (f2:Int),.int .u64 (th2:Int),strV u2] 32)=X):=⟨_,Lib.hid rfl⟩
 obtain ⟨W,HW⟩:∃ X,Hid (wb.alloc (.cells #[.slice none 0 0,.int .u64 0,.int .u64 0,.int .u64 0,.bool false,.int .u64 0,.bool false,.int .u64 0,.bool false,.int .u64 0,.int .i32 0,.int .u64 0,.bool false,.int .i32 0,.slice none 0 0,.string ⟨#[]⟩,.bool false,.int .i32 0,.slice none 0 0,.string ⟨#[]⟩,.slice none 0 0,.int .u32 0,.int .u64 0,.string ⟨#[]⟩] 32)=X):=⟨_,Lib.hid rfl⟩
 have za:wa.heap.size=w.heap.size+1:=by rw[←HWa.out,World.size_alloc]
 have zb:wb.heap.size=w.heap.size+2:=by rw[←HWb.out,World.size_alloc,za]
 have ba:Below w.heap.size w wa:=by rw[←HWa.out];exact below_new _ _
 have bb:Below wa.heap.size wa wb:=by rw[←HWb.out];exact below_new _ _
 have bc:Below wb.heap.size wb W:=by rw[←HW.out];exact below_new _ _
 have r1:wa.heap[b1]? = some (.cells #[.slice lo1 l1.length lc1,.int .u64 (a1:Int),.int .u64 (t1:Int),.int .u64 (k1:Int),.bool bp1,.int .u64 (vp1:Int),.bool bm1,.int .u64 (vm1:Int),.bool bg1,.int .u64 (vg1:Int),.int .i32 sc1,.int .u64 (zc1:Int),.bool gp1,.int .i32 po1,.slice pco1 pc1.length pcc1,.string pu1,.bool gn1,.int .i32 no1,.slice nco1 nc1.length ncc1,.string nu1,.slice eo1 es1.length ec1,.int .u32 (f1:Int),.int .u64 (th1:Int),strV u1] 32 (0,0)):=by rw[←HWa.out,←HN1.out];exact heap_alloc_new w _
 have r2:wb.heap[b2]? = some (.cells #[.slice lo2 l2.length lc2,.int .u64 (a2:Int),.int .u64 (t2:Int),.int .u64 (k2:Int),.bool bp2,.int .u64 (vp2:Int),.bool bm2,.int .u64 (vm2:Int),.bool bg2,.int .u64 (vg2:Int),.int .i32 sc2,.int .u64 (zc2:Int),.bool gp2,.int .i32 po2,.slice pco2 pc2.length pcc2,.string pu2,.bool gn2,.int .i32 no2,.slice nco2 nc2.length ncc2,.string nu2,.slice eo2 es2.length ec2,.int .u32 (f2:Int),.int .u64 (th2:Int),strV u2] 32 (0,0)):=by rw[←HWb.out,←HN2.out,←za];exact heap_alloc_new wa _
 have HB:Hid (Below w.heap.size w W):=Lib.hid (below_step (below_step ba bb) bc)
 have Rb1:=Lib.hid ((bc.block _ (row_lt ((bb.block _ (row_lt r1)).trans r1))).trans ((bb.block _ (row_lt r1)).trans r1))
 have Rb2:=Lib.hid ((bc.block _ (row_lt r2)).trans r2)
 have Rb3:Hid (W.heap[b3]? = some (.cells #[.slice none 0 0,.int .u64 0,.int .u64 0,.int .u64 0,.bool false,.int .u64 0,.bool false,.int .u64 0,.bool false,.int .u64 0,.int .i32 0,.int .u64 0,.bool false,.int .i32 0,.slice none 0 0,.string ⟨#[]⟩,.bool false,.int .i32 0,.slice none 0 0,.string ⟨#[]⟩,.slice none 0 0,.int .u32 0,.int .u64 0,.string ⟨#[]⟩] 32 (0,0))):=Lib.hid (by rw[←HW.out,←HN3.out,←zb];exact heap_alloc_new wb _)
 have HGE:Hid (w.heap.size≤b1∧b1<b2∧b2<b3):=Lib.hid (by have:=HN1.out;have:=HN2.out;have:=HN3.out;omega)
 have HSZ:Hid (W.heap.size=w.heap.size+3):=Lib.hid (by rw[←HW.out,World.size_alloc,zb])
 clear za zb ba bb bc r1 r2
 go_enter Tryd.func11,Tryd.ntmps11
 go_upto_region 1 with fail
 rw[show w.heap.size+1+1=w.heap.size+2 from rfl,HWa.out,HWb.out,HW.out,HN3.out,HN2.out,HN1.out]
 by_cases hth:th1=th2
 ·
  have dth:((th1:Int) != (th2:Int))=false:=by rw[bne_eq_false_iff_eq,hth]
  have dtn:(th1 != th2)=false:=by rw[bne_eq_false_iff_eq,hth]
  have HTH:Hid (decide (th1≠th2)=false):=Lib.hid (by simp[hth])
  replace hth:=Lib.hid hth
  have x22:W.cell? ⟨b1,22,none⟩=some (.int .u64 (th1:Int)):=row_cell Rb1.out (j:=22) rfl
  have y22:W.cell? ⟨b2,22,none⟩=some (.int .u64 (th2:Int)):=row_cell Rb2.out (j:=22) rfl
  go_upto_region 3 with fail
  clear x22 y22 dth dtn
  refine wp_region_lit ?_
  refine wpList_load_mid rfl 32 (.tmp 3) rfl b1 0 rfl [.slice lo1 l1.length lc1,.int .u64 (a1:Int),.int .u64 (t1:Int),.int .u64 (k1:Int),.bool bp1,.int .u64 (vp1:Int),.bool bm1,.int .u64 (vm1:Int),.bool bg1,.int .u64 (vg1:Int),.int .i32 sc1,.int .u64 (zc1:Int),.bool gp1,.int .i32 po1,.slice pco1 pc1.length pcc1,.string pu1,.bool gn1,.int .i32 no1,.slice nco1 nc1.length ncc1,.string nu1,.slice eo1 es1.length ec1,.int .u32 (f1:Int),.int .u64 (th1:Int),strV u1] _ (range_rowf Rb1.out) Tryd.underlying32 rfl (by kernel_rfl) ?_
  refine wpList_load_mid rfl 32 (.tmp 4) rfl b2 0 rfl [.slice lo2 l2.length lc2,.int .u64 (a2:Int),.int .u64 (t2:Int),.int .u64 (k2:Int),.bool bp2,.int .u64 (vp2:Int),.bool bm2,.int .u64 (vm2:Int),.bool bg2,.int .u64 (vg2:Int),.int .i32 sc2,.int .u64 (zc2:Int),.bool gp2,.int .i32 po2,.slice pco2 pc2.length pcc2,.string pu2,.bool gn2,.int .i32 no2,.slice nco2 nc2.length ncc2,.string nu2,.slice eo2 es2.length ec2,.int .u32 (f2:Int),.int .u64 (th2:Int),strV u2] _ (range_rowf Rb2.out) Tryd.underlying32 rfl (by kernel_rfl) ?_
  refine wpList_plain rfl (fun K hK=>?_);go_simp;refine hK _ _ ?_;clear hK K
  refine wpList_plain rfl (fun K hK=>?_);go_simp
  have htk1:TkP ⟨sc1,gp1,po1,pc1,gn1,no1,nc1⟩ [.slice lo1 l1.length lc1,.int .u64 (a1:Int),.int .u64 (t1:Int),.int .u64 (k1:Int),.bool bp1,.int .u64 (vp1:Int),.bool bm1,.int .u64 (vm1:Int),.bool bg1,.int .u64 (vg1:Int),.int .i32 sc1,.int .u64 (zc1:Int),.bool gp1,.int .i32 po1,.slice pco1 pc1.length pcc1,.string pu1,.bool gn1,.int .i32 no1,.slice nco1 nc1.length ncc1,.string nu1,.slice eo1 es1.length ec1,.int .u32 (f1:Int),.int .u64 (th1:Int),strV u1] b1 W:=⟨l1,a1,t1,k1,bp1,vp1,bm1,vm1,bg1,vg1,zc1,pu1,nu1,es1,f1,th1,u1,lo1,lc1,pco1,pcc1,nco1,ncc1,eo1,ec1,rfl,CRels.upd (S:=fun _=>False) (Upd.of_new HB.out) (fun _ _ h=>h) (fun _ hk=>by rw[←HN1.out];exact hk.2) (CRels.lt HP1.out),CRels.upd (S:=fun _=>False) (Upd.of_new HB.out) (fun _ _ h=>h) (fun _ hk=>by rw[←HN1.out];exact hk.2) (CRels.lt HQ1.out)⟩
  have HTK1:=Lib.hid htk1
  have htk2:TkP ⟨sc2,gp2,po2,pc2,gn2,no2,nc2⟩ [.slice lo2 l2.length lc2,.int .u64 (a2:Int),.int .u64 (t2:Int),.int .u64 (k2:Int),.bool bp2,.int .u64 (vp2:Int),.bool bm2,.int .u64 (vm2:Int),.bool bg2,.int .u64 (vg2:Int),.int .i32 sc2,.int .u64 (zc2:Int),.bool gp2,.int .i32 po2,.slice pco2 pc2.length pcc2,.string pu2,.bool gn2,.int .i32 no2,.slice nco2 nc2.length ncc2,.string nu2,.slice eo2 es2.length ec2,.int .u32 (f2:Int),.int .u64 (th2:Int),strV u2] b1 W:=⟨l2,a2,t2,k2,bp2,vp2,bm2,vm2,bg2,vg2,zc2,pu2,nu2,es2,f2,th2,u2,lo2,lc2,pco2,pcc2,nco2,ncc2,eo2,ec2,rfl,CRels.upd (S:=fun _=>False) (Upd.of_new HB.out) (fun _ _ h=>h) (fun _ hk=>by rw[←HN1.out];exact hk.2) (CRels.lt HP2.out),CRels.upd (S:=fun _=>False) (Upd.of_new HB.out) (fun _ _ h=>h) (fun _ hk=>by rw[←HN1.out];exact hk.2) (CRels.lt HQ2.out)⟩
  have HTK2:=Lib.hid htk2
  clear htk1 htk2
  refine (fitted_any ⟨sc1,gp1,po1,pc1,gn1,no1,nc1⟩ ⟨sc2,gp2,po2,pc2,gn2,no2,nc2⟩ [.slice lo1 l1.length lc1,.int .u64 (a1:Int),.int .u64 (t1:Int),.int .u64 (k1:Int),.bool bp1,.int .u64 (vp1:Int),.bool bm1,.int .u64 (vm1:Int),.bool bg1,.int .u64 (vg1:Int),.int .i32 sc1,.int .u64 (zc1:Int),.bool gp1,.int .i32 po1,.slice pco1 pc1.length pcc1,.string pu1,.bool gn1,.int .i32 no1,.slice nco1 nc1.length ncc1,.string nu1,.slice eo1 es1.length ec1,.int .u32 (f1:Int),.int .u64 (th1:Int),strV u1] [.slice lo2 l2.length lc2,.int .u64 (a2:Int),.int .u64 (t2:Int),.int .u64 (k2:Int),.bool bp2,.int .u64 (vp2:Int),.bool bm2,.int .u64 (vm2:Int),.bool bg2,.int .u64 (vg2:Int),.int .i32 sc2,.int .u64 (zc2:Int),.bool gp2,.int .i32 po2,.slice pco2 pc2.length pcc2,.string pu2,.bool gn2,.int .i32 no2,.slice nco2 nc2.length ncc2,.string nu2,.slice eo2 es2.length ec2,.int .u32 (f2:Int),.int .u64 (th2:Int),strV u2] most ew W (Lib.hid (HEW.out.below HB.out)) b1 (by have:=HSZ.out;have:=HN1.out;omega) HTK1 HTK2 hsc1 hsc2 hok).mono ?_
  rintro E v1 ⟨hb,s1,s2,sv,v,rfl,hcase⟩
  replace HB:=Lib.hid (below_step HB.out hb)
  replace Rb1:=Lib.hid ((hb.block _ (row_lt Rb1.out)).trans Rb1.out)
  replace Rb2:=Lib.hid ((hb.block _ (row_lt Rb2.out)).trans Rb2.out)
  replace Rb3:=Lib.hid ((hb.block _ (row_lt Rb3.out)).trans Rb3.out)
  have HSW:=Lib.hid hb.size
  clear hb
  rcases hcase with ⟨hno,hec,rfl,rfl⟩|⟨rfl,j,hat,hsv,hs1,hs2,hk1,hk2⟩
  ·
   obtain ⟨T,y,rfl⟩:=hec.iface
   have HV:=Lib.hid hec
   have HNO:=Lib.hid hno
   clear hec hno
   go_simp
   refine hK _ _ ?_;clear hK K
   refine wpList_plain rfl (fun K hK=>?_);go_simp;refine hK _ _ ?_;clear hK K
   refine wpList_plain rfl (fun K hK=>?_);go_simp;refine hK _ _ ?_;clear hK K
   refine wpList_plain rfl (fun K hK=>?_);go_simp;refine hK _ _ ?_;clear hK K
   refine wpList_plain rfl (fun K hK=>?_);go_simp;refine hK _ _ ?_;clear hK K
   refine wpList_plain rfl (fun K hK=>?_);go_simp;refine hK _ _ ?_;clear hK K
   obtain ⟨b4,HN4⟩:∃ x,Hid (v1.heap.size=x):=⟨_,Lib.hid rfl⟩
   obtain ⟨v2,HW4⟩:∃ X,Hid (v1.alloc (.cells #[.slice none 0 0,.slice none 0 0] 68)=X):=⟨_,Lib.hid rfl⟩
   rw[HW4.out,HN4.out]
   have hb:Below v1.heap.size v1 v2:=by rw[←HW4.out];exact below_new _ _
   have hr:v2.heap[b4]? = some (.cells #[.slice none 0 0,.slice none 0 0] 68 (0,0)):=by rw[←HW4.out,←HN4.out];exact heap_alloc_new v1 _
   have HGEn:Hid ((w.heap.size≤b1∧b1<b2∧b2<b3)∧b3<b4):=Lib.hid ⟨HGE.out,by have h1:=row_lt Rb3.out;have h2:=HN4.out;omega⟩
   replace HB:=Lib.hid (below_step HB.out hb)
   replace Rb1:=Lib.hid ((hb.block _ (row_lt Rb1.out)).trans Rb1.out)
   replace Rb2:=Lib.hid ((hb.block _ (row_lt Rb2.out)).trans Rb2.out)
   replace Rb3:=Lib.hid ((hb.block _ (row_lt Rb3.out)).trans Rb3.out)
   have Rb4:=Lib.hid hr
   clear hb hr
   have hbz:Below v1.heap.size v1 v2:=by rw[←HW4.out];exact below_new _ _
   refine wpList_store_row rfl 68 (.tmp 8) (.tmp 27) rfl b4 #[.slice none 0 0,.slice none 0 0] rfl rfl 68 _ Rb4.out (by kernel_rfl) rfl (by simp[Value.oneCell']) ?_
   obtain ⟨v3,HW5⟩:∃ X,Hid (v2.setRow b4 #[.slice none 0 0,.slice none 0 0]=X):=⟨_,Lib.hid rfl⟩
   rw[HW5.out]
   have hu:Upd (fun k=>k=b4) v2 v3:=by rw[←HW5.out];exact upd_setRow _ _ _
   have hr:v3.heap[b4]? = some (.cells #[.slice none 0 0,.slice none 0 0] 68 (0,0)):=by rw[←HW5.out];exact setRow_heap _ _ _ _ _ _ Rb4.out
   replace HB:=Lib.hid (HB.out.trans (hu.below HB.out.size (fun k _ hk=>by have hk:k=b4:=hk;have:=HGEn.out;omega)))
   replace Rb1:=Lib.hid ((hu.block _ (row_lt Rb1.out) (fun h=>by have h:b1=b4:=h;have:=HGEn.out;omega)).trans Rb1.out)
   replace Rb2:=Lib.hid ((hu.block _ (row_lt Rb2.out) (fun h=>by have h:b2=b4:=h;have:=HGEn.out;omega)).trans Rb2.out)
   replace Rb3:=Lib.hid ((hu.block _ (row_lt Rb3.out) (fun h=>by have h:b3=b4:=h;have:=HGEn.out;omega)).trans Rb3.out)
   replace Rb4:=Lib.hid (hr)
   have HBB:Hid (Below v1.heap.size v1 v3):=Lib.hid (hbz.trans (hu.below hbz.size (fun k _ hk=>by have hk:k=b4:=hk;have:=HN4.out;omega)))
   clear hu hr hbz
   refine wpList_plain rfl (fun K hK=>?_);go_simp;refine hK _ _ ?_;clear hK K
   refine wpList_plain rfl (fun K hK=>?_);go_simp;refine hK _ _ ?_;clear hK K
   replace HV:=Lib.hid (HV.out.below HBB.out)
   go_upto_region 5 with fail
   refine wp_region_lit ?_
   refine wpList_plain rfl (fun K hK=>?_);go_simp;refine hK _ _ ?_;clear hK K
   refine wpList_plain rfl (fun K hK=>?_);go_simp;refine hK _ _ ?_;clear hK K
   refine wpList_store_row rfl 32 (.tmp 6) (.tmp 32) rfl b3 #[.slice none 0 0,.int .u64 0,.int .u64 0,.int .u64 0,.bool false,.int .u64 0,.bool false,.int .u64 0,.bool false,.int .u64 0,.int .i32 0,.int .u64 0,.bool false,.int .i32 0,.slice none 0 0,.string ⟨#[]⟩,.bool false,.int .i32 0,.slice none 0 0,.string ⟨#[]⟩,.slice none 0 0,.int .u32 0,.int .u64 0,.string ⟨#[]⟩] rfl rfl 32 _ Rb3.out (by kernel_rfl) rfl (by simp[Value.oneCell']) ?_
   obtain ⟨v4,HW9⟩:∃ X,Hid (v3.setRow b3 #[.slice none 0 0,.int .u64 0,.int .u64 0,.int .u64 0,.bool false,.int .u64 0,.bool false,.int .u64 0,.bool false,.int .u64 0,.int .i32 0,.int .u64 0,.bool false,.int .i32 0,.slice none 0 0,.string ⟨#[]⟩,.bool false,.int .i32 0,.slice none 0 0,.string ⟨#[]⟩,.slice none 0 0,.int .u32 0,.int .u64 0,.string ⟨#[]⟩]=X):=⟨_,Lib.hid rfl⟩
   rw[HW9.out]
   have hu:Upd (fun k=>k=b3) v3 v4:=by rw[←HW9.out];exact upd_setRow _ _ _
   have hr:v4.heap[b3]? = some (.cells #[.slice none 0 0,.int .u64 0,.int .u64 0,.int .u64 0,.bool false,.int .u64 0,.bool false,.int .u64 0,.bool false,.int .u64 0,.int .i32 0,.int .u64 0,.bool false,.int .i32 0,.slice none 0 0,.string ⟨#[]⟩,.bool false,.int .i32 0,.slice none 0 0,.string ⟨#[]⟩,.slice none 0 0,.int .u32 0,.int .u64 0,.string ⟨#[]⟩] 32 (0,0)):=by rw[←HW9.out];exact setRow_heap _ _ _ _ _ _ Rb3.out
   replace HV:=Lib.hid (ec_upd15 HV.out hu Rb3.out (by show (24:Nat)≠2;decide))
   replace HB:=Lib.hid (HB.out.trans (hu.below HB.out.size (fun k _ hk=>by have hk:k=b3:=hk;have:=HGEn.out;omega)))
   replace Rb1:=Lib.hid ((hu.block _ (row_lt Rb1.out) (fun h=>by have h:b1=b3:=h;have:=HGEn.out;omega)).trans Rb1.out)
   replace Rb2:=Lib.hid ((hu.block _ (row_lt Rb2.out) (fun h=>by have h:b2=b3:=h;have:=HGEn.out;omega)).trans Rb2.out)
   replace Rb3:=Lib.hid (hr)
   replace Rb4:=Lib.hid ((hu.block _ (row_lt Rb4.out) (fun h=>by have h:b4=b3:=h;have:=HGEn.out;omega)).trans Rb4.out)
   clear hu hr
   go_wp2_with fail
   (try simp only[Exit.inBlock,Exit.then])
   refine body_cell2v rfl rfl (run_loadVar_row _ b3 32 32 _ (0,0) _ Rb3.out Tryd.underlying32 rfl (by kernel_rfl)) rfl ?_
   exact ⟨HB.out,_,_,rfl,.inr (.inl ⟨HTH.out,.inl HNO.out,HV.out,⟨_,_,rfl⟩,rfl⟩)⟩
  ·
   obtain ⟨m0,HM0⟩:∃ m,Hid (min sc1 sc2=m):=⟨_,Lib.hid rfl⟩
   obtain rfl:sv=m0 - (j:Int):=by rw[hsv,←HM0.out]
   clear hsv
   obtain ⟨los1,cps1,rfl⟩:=hs1.slice
   obtain ⟨los2,cps2,rfl⟩:=hs2.slice
   have HS1:=Lib.hid hs1
   have HS2:=Lib.hid hs2
   have HK1:=Lib.hid hk1
   have HK2:=Lib.hid hk2
   have HAT:=Lib.hid hat
   obtain ⟨T1,HT1⟩:∃ X,Hid (pAt ⟨sc1,gp1,po1,pc1,gn1,no1,nc1⟩ ⟨sc2,gp2,po2,pc2,gn2,no2,nc2⟩ j=X):=⟨_,Lib.hid rfl⟩
   obtain ⟨T2,HT2⟩:∃ X,Hid (nAt ⟨sc1,gp1,po1,pc1,gn1,no1,nc1⟩ ⟨sc2,gp2,po2,pc2,gn2,no2,nc2⟩ j=X):=⟨_,Lib.hid rfl⟩
   rw[HT1.out] at HS1 HK1 ⊢
   rw[HT2.out] at HS2 HK2 ⊢
   clear hs1 hs2 hk1 hk2 hat
   go_simp
   refine hK _ _ ?_;clear hK K
   refine wpList_plain rfl (fun K hK=>?_);go_simp;refine hK _ _ ?_;clear hK K
   refine wpList_plain rfl (fun K hK=>?_);go_simp;refine hK _ _ ?_;clear hK K
   refine wpList_plain rfl (fun K hK=>?_);go_simp;refine hK _ _ ?_;clear hK K
   refine wpList_plain rfl (fun K hK=>?_);go_simp;refine hK _ _ ?_;clear hK K
   refine wpList_plain rfl (fun K hK=>?_);go_simp;refine hK _ _ ?_;clear hK K
   obtain ⟨b4,HN4⟩:∃ x,Hid (v1.heap.size=x):=⟨_,Lib.hid rfl⟩
   obtain ⟨v2,HW4⟩:∃ X,Hid (v1.alloc (.cells #[.slice none 0 0,.slice none 0 0] 68)=X):=⟨_,Lib.hid rfl⟩
   rw[HW4.out,HN4.out]
   have hb:Below v1.heap.size v1 v2:=by rw[←HW4.out];exact below_new _ _
   have hr:v2.heap[b4]? = some (.cells #[.slice none 0 0,.slice none 0 0] 68 (0,0)):=by rw[←HW4.out,←HN4.out];exact heap_alloc_new v1 _
   have HGEn:Hid ((w.heap.size≤b1∧b1<b2∧b2<b3)∧b3<b4):=Lib.hid ⟨HGE.out,by have h1:=row_lt Rb3.out;have h2:=HN4.out;omega⟩
   replace HB:=Lib.hid (below_step HB.out hb)
   replace Rb1:=Lib.hid ((hb.block _ (row_lt Rb1.out)).trans Rb1.out)
   replace Rb2:=Lib.hid ((hb.block _ (row_lt Rb2.out)).trans Rb2.out)
   replace Rb3:=Lib.hid ((hb.block _ (row_lt Rb3.out)).trans Rb3.out)
   have Rb4:=Lib.hid hr
   clear hb hr
   have hbz:Below v1.heap.size v1 v2:=by rw[←HW4.out];exact below_new _ _
   refine wpList_store_row rfl 68 (.tmp 8) (.tmp 27) rfl b4 #[.slice los1 T1.length cps1,.slice los2 T2.length cps2] rfl rfl 68 _ Rb4.out (by kernel_rfl) rfl (by simp[Value.oneCell']) ?_
   obtain ⟨v3,HW5⟩:∃ X,Hid (v2.setRow b4 #[.slice los1 T1.length cps1,.slice los2 T2.length cps2]=X):=⟨_,Lib.hid rfl⟩
   rw[HW5.out]
   have hu:Upd (fun k=>k=b4) v2 v3:=by rw[←HW5.out];exact upd_setRow _ _ _
   have hr:v3.heap[b4]? = some (.cells #[.slice los1 T1.length cps1,.slice los2 T2.length cps2] 68 (0,0)):=by rw[←HW5.out];exact setRow_heap _ _ _ _ _ _ Rb4.out
   replace HB:=Lib.hid (HB.out.trans (hu.below HB.out.size (fun k _ hk=>by have hk:k=b4:=hk;have:=HGEn.out;omega)))
   replace Rb1:=Lib.hid ((hu.block _ (row_lt Rb1.out) (fun h=>by have h:b1=b4:=h;have:=HGEn.out;omega)).trans Rb1.out)
   replace Rb2:=Lib.hid ((hu.block _ (row_lt Rb2.out) (fun h=>by have h:b2=b4:=h;have:=HGEn.out;omega)).trans Rb2.out)
   replace Rb3:=Lib.hid ((hu.block _ (row_lt Rb3.out) (fun h=>by have h:b3=b4:=h;have:=HGEn.out;omega)).trans Rb3.out)
   replace Rb4:=Lib.hid (hr)
   have HBB:Hid (Below v1.heap.size v1 v3):=Lib.hid (hbz.trans (hu.below hbz.size (fun k _ hk=>by have hk:k=b4:=hk;have:=HN4.out;omega)))
   clear hu hr hbz
   refine wpList_plain rfl (fun K hK=>?_);go_simp;refine hK _ _ ?_;clear hK K
   refine wpList_plain rfl (fun K hK=>?_);go_simp;refine hK _ _ ?_;clear hK K
   go_upto_region 6 with fail
   refine wp_region_lit ?_
   refine wpList_load_mid rfl 32 (.tmp 4) rfl b2 0 rfl [.slice lo2 l2.length lc2,.int .u64 (a2:Int),.int .u64 (t2:Int),.int .u64 (k2:Int),.bool bp2,.int .u64 (vp2:Int),.bool bm2,.int .u64 (vm2:Int),.bool bg2,.int .u64 (vg2:Int),.int .i32 sc2,.int .u64 (zc2:Int),.bool gp2,.int .i32 po2,.slice pco2 pc2.length pcc2,.string pu2,.bool gn2,.int .i32 no2,.slice nco2 nc2.length ncc2,.string nu2,.slice eo2 es2.length ec2,.int .u32 (f2:Int),.int .u64 (th2:Int),strV u2] _ (range_rowf Rb2.out) Tryd.underlying32 rfl (by kernel_rfl) ?_
   refine wpList_plain rfl (fun K hK=>?_);go_simp;refine hK _ _ ?_;clear hK K
   obtain ⟨b5,HN5⟩:∃ x,Hid (v3.heap.size=x):=⟨_,Lib.hid rfl⟩
   obtain ⟨v4,HW6⟩:∃ X,Hid (v3.alloc (.cells #[.slice none 0 0,.int .u64 0,.int .u64 0,.int .u64 0,.bool false,.int .u64 0,.bool false,.int .u64 0,.bool false,.int .u64 0,.int .i32 0,.int .u64 0,.bool false,.int .i32 0,.slice none 0 0,.string ⟨#[]⟩,.bool false,.int .i32 0,.slice none 0 0,.string ⟨#[]⟩,.slice none 0 0,.int .u32 0,.int .u64 0,.string ⟨#[]⟩] 32)=X):=⟨_,Lib.hid rfl⟩
   rw[HW6.out,HN5.out]
   have hb:Below v3.heap.size v3 v4:=by rw[←HW6.out];exact below_new _ _
   have hr:v4.heap[b5]? = some (.cells #[.slice none 0 0,.int .u64 0,.int .u64 0,.int .u64 0,.bool false,.int .u64 0,.bool false,.int .u64 0,.bool false,.int .u64 0,.int .i32 0,.int .u64 0,.bool false,.int .i32 0,.slice none 0 0,.string ⟨#[]⟩,.bool false,.int .i32 0,.slice none 0 0,.string ⟨#[]⟩,.slice none 0 0,.int .u32 0,.int .u64 0,.string ⟨#[]⟩] 32 (0,0)):=by rw[←HW6.out,←HN5.out];exact heap_alloc_new v3 _
   have HGEnn:Hid (((w.heap.size≤b1∧b1<b2∧b2<b3)∧b3<b4)∧b4<b5):=Lib.hid ⟨HGEn.out,by have h1:=row_lt Rb4.out;have h2:=HN5.out;omega⟩
   replace HB:=Lib.hid (below_step HB.out hb)
   replace Rb1:=Lib.hid ((hb.block _ (row_lt Rb1.out)).trans Rb1.out)
   replace Rb2:=Lib.hid ((hb.block _ (row_lt Rb2.out)).trans Rb2.out)
   replace Rb3:=Lib.hid ((hb.block _ (row_lt Rb3.out)).trans Rb3.out)
   replace Rb4:=Lib.hid ((hb.block _ (row_lt Rb4.out)).trans Rb4.out)
   have Rb5:=Lib.hid hr
   clear hb hr
   have hbz:Below v3.heap.size v3 v4:=by rw[←HW6.out];exact below_new _ _
   replace HBB:=Lib.hid (below_step HBB.out hbz)
   clear hbz
   refine wpList_store_row rfl 32 (.tmp 11) (.tmp 34) rfl b5 #[.slice lo2 l2.length lc2,.int .u64 (a2:Int),.int .u64 (t2:Int),.int .u64 (k2:Int),.bool bp2,.int .u64 (vp2:Int),.bool bm2,.int .u64 (vm2:Int),.bool bg2,.int .u64 (vg2:Int),.int .i32 sc2,.int .u64 (zc2:Int),.bool gp2,.int .i32 po2,.slice pco2 pc2.length pcc2,.string pu2,.bool gn2,.int .i32 no2,.slice nco2 nc2.length ncc2,.string nu2,.slice eo2 es2.length ec2,.int .u32 (f2:Int),.int .u64 (th2:Int),strV u2] rfl rfl 32 _ Rb5.out (by kernel_rfl) rfl (by simp[Value.oneCell',strV]) ?_
   obtain ⟨v5,HW7⟩:∃ X,Hid (v4.setRow b5 #[.slice lo2 l2.length lc2,.int .u64 (a2:Int),.int .u64 (t2:Int),.int .u64 (k2:Int),.bool bp2,.int .u64 (vp2:Int),.bool bm2,.int .u64 (vm2:Int),.bool bg2,.int .u64 (vg2:Int),.int .i32 sc2,.int .u64 (zc2:Int),.bool gp2,.int .i32 po2,.slice pco2 pc2.length pcc2,.string pu2,.bool gn2,.int .i32 no2,.slice nco2 nc2.length ncc2,.string nu2,.slice eo2 es2.length ec2,.int .u32 (f2:Int),.int .u64 (th2:Int),strV u2]=X):=⟨_,Lib.hid rfl⟩
   rw[HW7.out]
   have hu:Upd (fun k=>k=b5) v4 v5:=by rw[←HW7.out];exact upd_setRow _ _ _
   have hr:v5.heap[b5]? = some (.cells #[.slice lo2 l2.length lc2,.int .u64 (a2:Int),.int .u64 (t2:Int),.int .u64 (k2:Int),.bool bp2,.int .u64 (vp2:Int),.bool bm2,.int .u64 (vm2:Int),.bool bg2,.int .u64 (vg2:Int),.int .i32 sc2,.int .u64 (zc2:Int),.bool gp2,.int .i32 po2,.slice pco2 pc2.length pcc2,.string pu2,.bool gn2,.int .i32 no2,.slice nco2 nc2.length ncc2,.string nu2,.slice eo2 es2.length ec2,.int .u32 (f2:Int),.int .u64 (th2:Int),strV u2] 32 (0,0)):=by rw[←HW7.out];exact setRow_heap _ _ _ _ _ _ Rb5.out
   replace HB:=Lib.hid (HB.out.trans (hu.below HB.out.size (fun k _ hk=>by have hk:k=b5:=hk;have:=HGEnn.out;omega)))
   replace Rb1:=Lib.hid ((hu.block _ (row_lt Rb1.out) (fun h=>by have h:b1=b5:=h;have:=HGEnn.out;omega)).trans Rb1.out)
   replace Rb2:=Lib.hid ((hu.block _ (row_lt Rb2.out) (fun h=>by have h:b2=b5:=h;have:=HGEnn.out;omega)).trans Rb2.out)
   replace Rb3:=Lib.hid ((hu.block _ (row_lt Rb3.out) (fun h=>by have h:b3=b5:=h;have:=HGEnn.out;omega)).trans Rb3.out)
   replace Rb4:=Lib.hid ((hu.block _ (row_lt Rb4.out) (fun h=>by have h:b4=b5:=h;have:=HGEnn.out;omega)).trans Rb4.out)
   replace Rb5:=Lib.hid (hr)
   replace HBB:=Lib.hid (HBB.out.trans (hu.below HBB.out.size (fun k _ hk=>by have hk:k=b5:=hk;have:=HGEnn.out;have:=HN4.out;omega)))
   clear hu hr
   go_upto_region 7 with fail
   have x1:v5.cell? ⟨b1,1,none⟩=some (.int .u64 (a1:Int)):=row_cell Rb1.out (j:=1) rfl
   have y1:v5.cell? ⟨b5,1,none⟩=some (.int .u64 (a2:Int)):=row_cell Rb5.out (j:=1) rfl
   have y10:v5.cell? ⟨b5,10,none⟩=some (.int .i32 sc2):=row_cell Rb5.out (j:=10) rfl
   have z1:v5.frozen? ⟨b5,1,none⟩=false:=row_thaw Rb5.out 1
   have z10:v5.frozen? ⟨b5,10,none⟩=false:=row_thaw Rb5.out 10
   go_upto_region 8 with fail
   obtain ⟨v6,HW8⟩:∃ X,Hid (((v5.setCell ⟨b5,1,none⟩ (.int .u64 (a1:Int))).setCell ⟨b5,10,none⟩ (.int .i32 (m0 - (j:Int))))=X):=⟨_,Lib.hid rfl⟩
   rw[HW8.out]
   have hu:Upd (fun k=>k=b5) v5 v6:=by rw[←HW8.out];exact (Upd.set v5 ⟨b5,1,none⟩ (.int .u64 (a1:Int))).trans (Upd.set _ ⟨b5,10,none⟩ (.int .i32 (m0 - (j:Int))))
   have hr0:(v5.setCell ⟨b5,1,none⟩ (.int .u64 (a1:Int))).heap[b5]? = some (.cells #[.slice lo2 l2.length lc2,.int .u64 (a1:Int),.int .u64 (t2:Int),.int .u64 (k2:Int),.bool bp2,.int .u64 (vp2:Int),.bool bm2,.int .u64 (vm2:Int),.bool bg2,.int .u64 (vg2:Int),.int .i32 sc2,.int .u64 (zc2:Int),.bool gp2,.int .i32 po2,.slice pco2 pc2.length pcc2,.string pu2,.bool gn2,.int .i32 no2,.slice nco2 nc2.length ncc2,.string nu2,.slice eo2 es2.length ec2,.int .u32 (f2:Int),.int .u64 (th2:Int),strV u2] 32 (0,0)):=row_set Rb5.out 1 (.int .u64 (a1:Int))
   have hr1:((v5.setCell ⟨b5,1,none⟩ (.int .u64 (a1:Int))).setCell ⟨b5,10,none⟩ (.int .i32 (m0 - (j:Int)))).heap[b5]? = some (.cells #[.slice lo2 l2.length lc2,.int .u64 (a1:Int),.int .u64 (t2:Int),.int .u64 (k2:Int),.bool bp2,.int .u64 (vp2:Int),.bool bm2,.int .u64 (vm2:Int),.bool bg2,.int .u64 (vg2:Int),.int .i32 (m0 - (j:Int)),.int .u64 (zc2:Int),.bool gp2,.int .i32 po2,.slice pco2 pc2.length pcc2,.string pu2,.bool gn2,.int .i32 no2,.slice nco2 nc2.length ncc2,.string nu2,.slice eo2 es2.length ec2,.int .u32 (f2:Int),.int .u64 (th2:Int),strV u2] 32 (0,0)):=row_set hr0 10 (.int .i32 (m0 - (j:Int)))
   have hr:v6.heap[b5]? = some (.cells #[.slice lo2 l2.length lc2,.int .u64 (a1:Int),.int .u64 (t2:Int),.int .u64 (k2:Int),.bool bp2,.int .u64 (vp2:Int),.bool bm2,.int .u64 (vm2:Int),.bool bg2,.int .u64 (vg2:Int),.int .i32 (m0 - (j:Int)),.int .u64 (zc2:Int),.bool gp2,.int .i32 po2,.slice pco2 pc2.length pcc2,.string pu2,.bool gn2,.int .i32 no2,.slice nco2 nc2.length ncc2,.string nu2,.slice eo2 es2.length ec2,.int .u32 (f2:Int),.int .u64 (th2:Int),strV u2] 32 (0,0)):=by rw[←HW8.out];exact hr1
   replace HB:=Lib.hid (HB.out.trans (hu.below HB.out.size (fun k _ hk=>by have hk:k=b5:=hk;have:=HGEnn.out;omega)))
   replace Rb1:=Lib.hid ((hu.block _ (row_lt Rb1.out) (fun h=>by have h:b1=b5:=h;have:=HGEnn.out;omega)).trans Rb1.out)
   replace Rb2:=Lib.hid ((hu.block _ (row_lt Rb2.out) (fun h=>by have h:b2=b5:=h;have:=HGEnn.out;omega)).trans Rb2.out)
   replace Rb3:=Lib.hid ((hu.block _ (row_lt Rb3.out) (fun h=>by have h:b3=b5:=h;have:=HGEnn.out;omega)).trans Rb3.out)
   replace Rb4:=Lib.hid ((hu.block _ (row_lt Rb4.out) (fun h=>by have h:b4=b5:=h;have:=HGEnn.out;omega)).trans Rb4.out)
   replace Rb5:=Lib.hid (hr)
   replace HBB:=Lib.hid (HBB.out.trans (hu.below HBB.out.size (fun k _ hk=>by have hk:k=b5:=hk;have:=HGEnn.out;have:=HN4.out;omega)))
   clear hu hr hr0 hr1
   clear x1 y1 y10 z1 z10
   obtain ⟨op,HOop⟩:∃ o,Hid (bothO Fm.add (bp1,vp1) (bp2,vp2)=o):=⟨_,Lib.hid rfl⟩
   have x4:v6.cell? ⟨b1,4,none⟩=some (.bool bp1):=row_cell Rb1.out (j:=4) rfl
   have x5:v6.cell? ⟨b1,5,none⟩=some (.int .u64 (vp1:Int)):=row_cell Rb1.out (j:=5) rfl
   have y4:v6.cell? ⟨b2,4,none⟩=some (.bool bp2):=row_cell Rb2.out (j:=4) rfl
   have y5:v6.cell? ⟨b2,5,none⟩=some (.int .u64 (vp2:Int)):=row_cell Rb2.out (j:=5) rfl
   have HF:=Lib.hid (both_o Fm.add 23 bp1 bp2 vp1 vp2 (Lib.hid (fun w=>add_at vp1 vp2 _ w (by have:=hu64.out;omega) (by have:=hu64.out;omega) (Lib.hid rfl))) (enters_of Tryd.func23 (by kernel_rfl) rfl) v6)
   rw[HOop.out] at HF
   go_wp2_with fail
   refine (HF.out).mono ?_
   rintro E wu0 ⟨rfl,hb⟩
   clear HF x4 x5 y4 y5
   replace HB:=Lib.hid (below_step HB.out hb)
   replace Rb1:=Lib.hid ((hb.block _ (row_lt Rb1.out)).trans Rb1.out)
   replace Rb2:=Lib.hid ((hb.block _ (row_lt Rb2.out)).trans Rb2.out)
   replace Rb3:=Lib.hid ((hb.block _ (row_lt Rb3.out)).trans Rb3.out)
   replace Rb4:=Lib.hid ((hb.block _ (row_lt Rb4.out)).trans Rb4.out)
   replace Rb5:=Lib.hid ((hb.block _ (row_lt Rb5.out)).trans Rb5.out)
   replace HBB:=Lib.hid (below_step HBB.out hb)
   clear hb
   have y4:wu0.cell? ⟨b5,4,none⟩=some (.bool bp2):=row_cell Rb5.out (j:=4) rfl
   have y5:wu0.cell? ⟨b5,5,none⟩=some (.int .u64 (vp2:Int)):=row_cell Rb5.out (j:=5) rfl
   have z4:wu0.frozen? ⟨b5,4,none⟩=false:=row_thaw Rb5.out 4
   have z5:wu0.frozen? ⟨b5,5,none⟩=false:=row_thaw Rb5.out 5
   go_upto_region 9 with fail
   obtain ⟨s0,HSS0⟩:∃ X,Hid (((wu0.setCell ⟨b5,4,none⟩ (.bool op.1)).setCell ⟨b5,5,none⟩ (.int .u64 (op.2:Int)))=X):=⟨_,Lib.hid rfl⟩
   rw[HSS0.out]
   have hu:Upd (fun k=>k=b5) wu0 s0:=by rw[←HSS0.out];exact (Upd.set wu0 ⟨b5,4,none⟩ (.bool op.1)).trans (Upd.set _ ⟨b5,5,none⟩ (.int .u64 (op.2:Int)))
   have hr0:(wu0.setCell ⟨b5,4,none⟩ (.bool op.1)).heap[b5]? = some (.cells #[.slice lo2 l2.length lc2,.int .u64 (a1:Int),.int .u64 (t2:Int),.int .u64 (k2:Int),.bool op.1,.int .u64 (vp2:Int),.bool bm2,.int .u64 (vm2:Int),.bool bg2,.int .u64 (vg2:Int),.int .i32 (m0 - (j:Int)),.int .u64 (zc2:Int),.bool gp2,.int .i32 po2,.slice pco2 pc2.length pcc2,.string pu2,.bool gn2,.int .i32 no2,.slice nco2 nc2.length ncc2,.string nu2,.slice eo2 es2.length ec2,.int .u32 (f2:Int),.int .u64 (th2:Int),strV u2] 32 (0,0)):=row_set Rb5.out 4 (.bool op.1)
   have hr1:((wu0.setCell ⟨b5,4,none⟩ (.bool op.1)).setCell ⟨b5,5,none⟩ (.int .u64 (op.2:Int))).heap[b5]? = some (.cells #[.slice lo2 l2.length lc2,.int .u64 (a1:Int),.int .u64 (t2:Int),.int .u64 (k2:Int),.bool op.1,.int .u64 (op.2:Int),.bool bm2,.int .u64 (vm2:Int),.bool bg2,.int .u64 (vg2:Int),.int .i32 (m0 - (j:Int)),.int .u64 (zc2:Int),.bool gp2,.int .i32 po2,.slice pco2 pc2.length pcc2,.string pu2,.bool gn2,.int .i32 no2,.slice nco2 nc2.length ncc2,.string nu2,.slice eo2 es2.length ec2,.int .u32 (f2:Int),.int .u64 (th2:Int),strV u2] 32 (0,0)):=row_set hr0 5 (.int .u64 (op.2:Int))
   have hr:s0.heap[b5]? = some (.cells #[.slice lo2 l2.length lc2,.int .u64 (a1:Int),.int .u64 (t2:Int),.int .u64 (k2:Int),.bool op.1,.int .u64 (op.2:Int),.bool bm2,.int .u64 (vm2:Int),.bool bg2,.int .u64 (vg2:Int),.int .i32 (m0 - (j:Int)),.int .u64 (zc2:Int),.bool gp2,.int .i32 po2,.slice pco2 pc2.length pcc2,.string pu2,.bool gn2,.int .i32 no2,.slice nco2 nc2.length ncc2,.string nu2,.slice eo2 es2.length ec2,.int .u32 (f2:Int),.int .u64 (th2:Int),strV u2] 32 (0,0)):=by rw[←HSS0.out];exact hr1
   replace HB:=Lib.hid (HB.out.trans (hu.below HB.out.size (fun k _ hk=>by have hk:k=b5:=hk;have:=HGEnn.out;omega)))
   replace Rb1:=Lib.hid ((hu.block _ (row_lt Rb1.out) (fun h=>by have h:b1=b5:=h;have:=HGEnn.out;omega)).trans Rb1.out)
   replace Rb2:=Lib.hid ((hu.block _ (row_lt Rb2.out) (fun h=>by have h:b2=b5:=h;have:=HGEnn.out;omega)).trans Rb2.out)
   replace Rb3:=Lib.hid ((hu.block _ (row_lt Rb3.out) (fun h=>by have h:b3=b5:=h;have:=HGEnn.out;omega)).trans Rb3.out)
   replace Rb4:=Lib.hid ((hu.block _ (row_lt Rb4.out) (fun h=>by have h:b4=b5:=h;have:=HGEnn.out;omega)).trans Rb4.out)
   replace Rb5:=Lib.hid (hr)
   replace HBB:=Lib.hid (HBB.out.trans (hu.below HBB.out.size (fun k _ hk=>by have hk:k=b5:=hk;have:=HGEnn.out;have:=HN4.out;omega)))
   clear hu hr hr0 hr1
   clear y4 y5 z4 z5
   obtain ⟨om,HOom⟩:∃ o,Hid (bothO minF (bm1,vm1) (bm2,vm2)=o):=⟨_,Lib.hid rfl⟩
   have x6:s0.cell? ⟨b1,6,none⟩=some (.bool bm1):=row_cell Rb1.out (j:=6) rfl
   have x7:s0.cell? ⟨b1,7,none⟩=some (.int .u64 (vm1:Int)):=row_cell Rb1.out (j:=7) rfl
   have y6:s0.cell? ⟨b2,6,none⟩=some (.bool bm2):=row_cell Rb2.out (j:=6) rfl
   have y7:s0.cell? ⟨b2,7,none⟩=some (.int .u64 (vm2:Int)):=row_cell Rb2.out (j:=7) rfl
   have HF:=Lib.hid (both_o minF 24 bm1 bm2 vm1 vm2 (Lib.hid (fun w=>min_any vm1 vm2  w (by have:=hu64.out;omega) (by have:=hu64.out;omega) (Lib.hid rfl))) (enters_of Tryd.func24 (by kernel_rfl) rfl) s0)
   rw[HOom.out] at HF
   go_wp2_with fail
   refine (HF.out).mono ?_
   rintro E wu1 ⟨rfl,hb⟩
   clear HF x6 x7 y6 y7
   replace HB:=Lib.hid (below_step HB.out hb)
   replace Rb1:=Lib.hid ((hb.block _ (row_lt Rb1.out)).trans Rb1.out)
   replace Rb2:=Lib.hid ((hb.block _ (row_lt Rb2.out)).trans Rb2.out)
   replace Rb3:=Lib.hid ((hb.block _ (row_lt Rb3.out)).trans Rb3.out)
   replace Rb4:=Lib.hid ((hb.block _ (row_lt Rb4.out)).trans Rb4.out)
   replace Rb5:=Lib.hid ((hb.block _ (row_lt Rb5.out)).trans Rb5.out)
   replace HBB:=Lib.hid (below_step HBB.out hb)
   clear hb
   have y6:wu1.cell? ⟨b5,6,none⟩=some (.bool bm2):=row_cell Rb5.out (j:=6) rfl
   have y7:wu1.cell? ⟨b5,7,none⟩=some (.int .u64 (vm2:Int)):=row_cell Rb5.out (j:=7) rfl
   have z6:wu1.frozen? ⟨b5,6,none⟩=false:=row_thaw Rb5.out 6
   have z7:wu1.frozen? ⟨b5,7,none⟩=false:=row_thaw Rb5.out 7
   go_upto_region 10 with fail
   obtain ⟨s1,HSS1⟩:∃ X,Hid (((wu1.setCell ⟨b5,6,none⟩ (.bool om.1)).setCell ⟨b5,7,none⟩ (.int .u64 (om.2:Int)))=X):=⟨_,Lib.hid rfl⟩
   rw[HSS1.out]
   have hu:Upd (fun k=>k=b5) wu1 s1:=by rw[←HSS1.out];exact (Upd.set wu1 ⟨b5,6,none⟩ (.bool om.1)).trans (Upd.set _ ⟨b5,7,none⟩ (.int .u64 (om.2:Int)))
   have hr0:(wu1.setCell ⟨b5,6,none⟩ (.bool om.1)).heap[b5]? = some (.cells #[.slice lo2 l2.length lc2,.int .u64 (a1:Int),.int .u64 (t2:Int),.int .u64 (k2:Int),.bool op.1,.int .u64 (op.2:Int),.bool om.1,.int .u64 (vm2:Int),.bool bg2,.int .u64 (vg2:Int),.int .i32 (m0 - (j:Int)),.int .u64 (zc2:Int),.bool gp2,.int .i32 po2,.slice pco2 pc2.length pcc2,.string pu2,.bool gn2,.int .i32 no2,.slice nco2 nc2.length ncc2,.string nu2,.slice eo2 es2.length ec2,.int .u32 (f2:Int),.int .u64 (th2:Int),strV u2] 32 (0,0)):=row_set Rb5.out 6 (.bool om.1)
   have hr1:((wu1.setCell ⟨b5,6,none⟩ (.bool om.1)).setCell ⟨b5,7,none⟩ (.int .u64 (om.2:Int))).heap[b5]? = some (.cells #[.slice lo2 l2.length lc2,.int .u64 (a1:Int),.int .u64 (t2:Int),.int .u64 (k2:Int),.bool op.1,.int .u64 (op.2:Int),.bool om.1,.int .u64 (om.2:Int),.bool bg2,.int .u64 (vg2:Int),.int .i32 (m0 - (j:Int)),.int .u64 (zc2:Int),.bool gp2,.int .i32 po2,.slice pco2 pc2.length pcc2,.string pu2,.bool gn2,.int .i32 no2,.slice nco2 nc2.length ncc2,.string nu2,.slice eo2 es2.length ec2,.int .u32 (f2:Int),.int .u64 (th2:Int),strV u2] 32 (0,0)):=row_set hr0 7 (.int .u64 (om.2:Int))
   have hr:s1.heap[b5]? = some (.cells #[.slice lo2 l2.length lc2,.int .u64 (a1:Int),.int .u64 (t2:Int),.int .u64 (k2:Int),.bool op.1,.int .u64 (op.2:Int),.bool om.1,.int .u64 (om.2:Int),.bool bg2,.int .u64 (vg2:Int),.int .i32 (m0 - (j:Int)),.int .u64 (zc2:Int),.bool gp2,.int .i32 po2,.slice pco2 pc2.length pcc2,.string pu2,.bool gn2,.int .i32 no2,.slice nco2 nc2.length ncc2,.string nu2,.slice eo2 es2.length ec2,.int .u32 (f2:Int),.int .u64 (th2:Int),strV u2] 32 (0,0)):=by rw[←HSS1.out];exact hr1
   replace HB:=Lib.hid (HB.out.trans (hu.below HB.out.size (fun k _ hk=>by have hk:k=b5:=hk;have:=HGEnn.out;omega)))
   replace Rb1:=Lib.hid ((hu.block _ (row_lt Rb1.out) (fun h=>by have h:b1=b5:=h;have:=HGEnn.out;omega)).trans Rb1.out)
   replace Rb2:=Lib.hid ((hu.block _ (row_lt Rb2.out) (fun h=>by have h:b2=b5:=h;have:=HGEnn.out;omega)).trans Rb2.out)
   replace Rb3:=Lib.hid ((hu.block _ (row_lt Rb3.out) (fun h=>by have h:b3=b5:=h;have:=HGEnn.out;omega)).trans Rb3.out)
   replace Rb4:=Lib.hid ((hu.block _ (row_lt Rb4.out) (fun h=>by have h:b4=b5:=h;have:=HGEnn.out;omega)).trans Rb4.out)
   replace Rb5:=Lib.hid (hr)
   replace HBB:=Lib.hid (HBB.out.trans (hu.below HBB.out.size (fun k _ hk=>by have hk:k=b5:=hk;have:=HGEnn.out;have:=HN4.out;omega)))
   clear hu hr hr0 hr1
   clear y6 y7 z6 z7
   obtain ⟨og,HOog⟩:∃ o,Hid (bothO maxF (bg1,vg1) (bg2,vg2)=o):=⟨_,Lib.hid rfl⟩
   have x8:s1.cell? ⟨b1,8,none⟩=some (.bool bg1):=row_cell Rb1.out (j:=8) rfl
   have x9:s1.cell? ⟨b1,9,none⟩=some (.int .u64 (vg1:Int)):=row_cell Rb1.out (j:=9) rfl
   have y8:s1.cell? ⟨b2,8,none⟩=some (.bool bg2):=row_cell Rb2.out (j:=8) rfl
   have y9:s1.cell? ⟨b2,9,none⟩=some (.int .u64 (vg2:Int)):=row_cell Rb2.out (j:=9) rfl
   have HF:=Lib.hid (both_o maxF 25 bg1 bg2 vg1 vg2 (Lib.hid (fun w=>max_any vg1 vg2  w (by have:=hu64.out;omega) (by have:=hu64.out;omega) (Lib.hid rfl))) (enters_of Tryd.func25 (by kernel_rfl) rfl) s1)
   rw[HOog.out] at HF
   go_wp2_with fail
   refine (HF.out).mono ?_
   rintro E wu2 ⟨rfl,hb⟩
   clear HF x8 x9 y8 y9
   replace HB:=Lib.hid (below_step HB.out hb)
   replace Rb1:=Lib.hid ((hb.block _ (row_lt Rb1.out)).trans Rb1.out)
   replace Rb2:=Lib.hid ((hb.block _ (row_lt Rb2.out)).trans Rb2.out)
   replace Rb3:=Lib.hid ((hb.block _ (row_lt Rb3.out)).trans Rb3.out)
   replace Rb4:=Lib.hid ((hb.block _ (row_lt Rb4.out)).trans Rb4.out)
   replace Rb5:=Lib.hid ((hb.block _ (row_lt Rb5.out)).trans Rb5.out)
   replace HBB:=Lib.hid (below_step HBB.out hb)
   clear hb
   have y8:wu2.cell? ⟨b5,8,none⟩=some (.bool bg2):=row_cell Rb5.out (j:=8) rfl
   have y9:wu2.cell? ⟨b5,9,none⟩=some (.int .u64 (vg2:Int)):=row_cell Rb5.out (j:=9) rfl
   have z8:wu2.frozen? ⟨b5,8,none⟩=false:=row_thaw Rb5.out 8
   have z9:wu2.frozen? ⟨b5,9,none⟩=false:=row_thaw Rb5.out 9
   go_upto_region 11 with fail
   obtain ⟨s2,HSS2⟩:∃ X,Hid (((wu2.setCell ⟨b5,8,none⟩ (.bool og.1)).setCell ⟨b5,9,none⟩ (.int .u64 (og.2:Int)))=X):=⟨_,Lib.hid rfl⟩
   rw[HSS2.out]
   have hu:Upd (fun k=>k=b5) wu2 s2:=by rw[←HSS2.out];exact (Upd.set wu2 ⟨b5,8,none⟩ (.bool og.1)).trans (Upd.set _ ⟨b5,9,none⟩ (.int .u64 (og.2:Int)))
   have hr0:(wu2.setCell ⟨b5,8,none⟩ (.bool og.1)).heap[b5]? = some (.cells #[.slice lo2 l2.length lc2,.int .u64 (a1:Int),.int .u64 (t2:Int),.int .u64 (k2:Int),.bool op.1,.int .u64 (op.2:Int),.bool om.1,.int .u64 (om.2:Int),.bool og.1,.int .u64 (vg2:Int),.int .i32 (m0 - (j:Int)),.int .u64 (zc2:Int),.bool gp2,.int .i32 po2,.slice pco2 pc2.length pcc2,.string pu2,.bool gn2,.int .i32 no2,.slice nco2 nc2.length ncc2,.string nu2,.slice eo2 es2.length ec2,.int .u32 (f2:Int),.int .u64 (th2:Int),strV u2] 32 (0,0)):=row_set Rb5.out 8 (.bool og.1)
   have hr1:((wu2.setCell ⟨b5,8,none⟩ (.bool og.1)).setCell ⟨b5,9,none⟩ (.int .u64 (og.2:Int))).heap[b5]? = some (.cells #[.slice lo2 l2.length lc2,.int .u64 (a1:Int),.int .u64 (t2:Int),.int .u64 (k2:Int),.bool op.1,.int .u64 (op.2:Int),.bool om.1,.int .u64 (om.2:Int),.bool og.1,.int .u64 (og.2:Int),.int .i32 (m0 - (j:Int)),.int .u64 (zc2:Int),.bool gp2,.int .i32 po2,.slice pco2 pc2.length pcc2,.string pu2,.bool gn2,.int .i32 no2,.slice nco2 nc2.length ncc2,.string nu2,.slice eo2 es2.length ec2,.int .u32 (f2:Int),.int .u64 (th2:Int),strV u2] 32 (0,0)):=row_set hr0 9 (.int .u64 (og.2:Int))
   have hr:s2.heap[b5]? = some (.cells #[.slice lo2 l2.length lc2,.int .u64 (a1:Int),.int .u64 (t2:Int),.int .u64 (k2:Int),.bool op.1,.int .u64 (op.2:Int),.bool om.1,.int .u64 (om.2:Int),.bool og.1,.int .u64 (og.2:Int),.int .i32 (m0 - (j:Int)),.int .u64 (zc2:Int),.bool gp2,.int .i32 po2,.slice pco2 pc2.length pcc2,.string pu2,.bool gn2,.int .i32 no2,.slice nco2 nc2.length ncc2,.string nu2,.slice eo2 es2.length ec2,.int .u32 (f2:Int),.int .u64 (th2:Int),strV u2] 32 (0,0)):=by rw[←HSS2.out];exact hr1
   replace HB:=Lib.hid (HB.out.trans (hu.below HB.out.size (fun k _ hk=>by have hk:k=b5:=hk;have:=HGEnn.out;omega)))
   replace Rb1:=Lib.hid ((hu.block _ (row_lt Rb1.out) (fun h=>by have h:b1=b5:=h;have:=HGEnn.out;omega)).trans Rb1.out)
   replace Rb2:=Lib.hid ((hu.block _ (row_lt Rb2.out) (fun h=>by have h:b2=b5:=h;have:=HGEnn.out;omega)).trans Rb2.out)
   replace Rb3:=Lib.hid ((hu.block _ (row_lt Rb3.out) (fun h=>by have h:b3=b5:=h;have:=HGEnn.out;omega)).trans Rb3.out)
   replace Rb4:=Lib.hid ((hu.block _ (row_lt Rb4.out) (fun h=>by have h:b4=b5:=h;have:=HGEnn.out;omega)).trans Rb4.out)
   replace Rb5:=Lib.hid (hr)
   replace HBB:=Lib.hid (HBB.out.trans (hu.below HBB.out.size (fun k _ hk=>by have hk:k=b5:=hk;have:=HGEnn.out;have:=HN4.out;omega)))
   clear hu hr hr0 hr1
   clear y8 y9 z8 z9
   go_upto_region 11 with fail
   obtain ⟨D,HD⟩:∃ D,Hid (s2.drew=D):=⟨_,Lib.hid rfl⟩
   have hb:Below s2.heap.size s2 D:=by rw[←HD.out];exact (Below.refl _ _).drew
   replace HB:=Lib.hid (below_step HB.out hb)
   replace Rb1:=Lib.hid ((hb.block _ (row_lt Rb1.out)).trans Rb1.out)
   replace Rb2:=Lib.hid ((hb.block _ (row_lt Rb2.out)).trans Rb2.out)
   replace Rb3:=Lib.hid ((hb.block _ (row_lt Rb3.out)).trans Rb3.out)
   replace Rb4:=Lib.hid ((hb.block _ (row_lt Rb4.out)).trans Rb4.out)
   replace Rb5:=Lib.hid ((hb.block _ (row_lt Rb5.out)).trans Rb5.out)
   replace HBB:=Lib.hid (below_step HBB.out hb)
   clear hb
   have hS:TwoX b1 b2 #[.slice lo1 l1.length lc1,.int .u64 (a1:Int),.int .u64 (t1:Int),.int .u64 (k1:Int),.bool bp1,.int .u64 (vp1:Int),.bool bm1,.int .u64 (vm1:Int),.bool bg1,.int .u64 (vg1:Int),.int .i32 sc1,.int .u64 (zc1:Int),.bool gp1,.int .i32 po1,.slice pco1 pc1.length pcc1,.string pu1,.bool gn1,.int .i32 no1,.slice nco1 nc1.length ncc1,.string nu1,.slice eo1 es1.length ec1,.int .u32 (f1:Int),.int .u64 (th1:Int),strV u1] #[.slice lo2 l2.length lc2,.int .u64 (a2:Int),.int .u64 (t2:Int),.int .u64 (k2:Int),.bool bp2,.int .u64 (vp2:Int),.bool bm2,.int .u64 (vm2:Int),.bool bg2,.int .u64 (vg2:Int),.int .i32 sc2,.int .u64 (zc2:Int),.bool gp2,.int .i32 po2,.slice pco2 pc2.length pcc2,.string pu2,.bool gn2,.int .i32 no2,.slice nco2 nc2.length ncc2,.string nu2,.slice eo2 es2.length ec2,.int .u32 (f2:Int),.int .u64 (th2:Int),strV u2] D:=⟨Rb1.out,Rb2.out⟩
   have hne:Nonempty {w':World // TwoX b1 b2 #[.slice lo1 l1.length lc1,.int .u64 (a1:Int),.int .u64 (t1:Int),.int .u64 (k1:Int),.bool bp1,.int .u64 (vp1:Int),.bool bm1,.int .u64 (vm1:Int),.bool bg1,.int .u64 (vg1:Int),.int .i32 sc1,.int .u64 (zc1:Int),.bool gp1,.int .i32 po1,.slice pco1 pc1.length pcc1,.string pu1,.bool gn1,.int .i32 no1,.slice nco1 nc1.length ncc1,.string nu1,.slice eo1 es1.length ec1,.int .u32 (f1:Int),.int .u64 (th1:Int),strV u1] #[.slice lo2 l2.length lc2,.int .u64 (a2:Int),.int .u64 (t2:Int),.int .u64 (k2:Int),.bool bp2,.int .u64 (vp2:Int),.bool bm2,.int .u64 (vm2:Int),.bool bg2,.int .u64 (vg2:Int),.int .i32 sc2,.int .u64 (zc2:Int),.bool gp2,.int .i32 po2,.slice pco2 pc2.length pcc2,.string pu2,.bool gn2,.int .i32 no2,.slice nco2 nc2.length ncc2,.string nu2,.slice eo2 es2.length ec2,.int .u32 (f2:Int),.int .u64 (th2:Int),strV u2] w'}:=⟨⟨_,hS⟩⟩
   have i1:∀ s:{w':World // TwoX b1 b2 #[.slice lo1 l1.length lc1,.int .u64 (a1:Int),.int .u64 (t1:Int),.int .u64 (k1:Int),.bool bp1,.int .u64 (vp1:Int),.bool bm1,.int .u64 (vm1:Int),.bool bg1,.int .u64 (vg1:Int),.int .i32 sc1,.int .u64 (zc1:Int),.bool gp1,.int .i32 po1,.slice pco1 pc1.length pcc1,.string pu1,.bool gn1,.int .i32 no1,.slice nco1 nc1.length ncc1,.string nu1,.slice eo1 es1.length ec1,.int .u32 (f1:Int),.int .u64 (th1:Int),strV u1] #[.slice lo2 l2.length lc2,.int .u64 (a2:Int),.int .u64 (t2:Int),.int .u64 (k2:Int),.bool bp2,.int .u64 (vp2:Int),.bool bm2,.int .u64 (vm2:Int),.bool bg2,.int .u64 (vg2:Int),.int .i32 sc2,.int .u64 (zc2:Int),.bool gp2,.int .i32 po2,.slice pco2 pc2.length pcc2,.string pu2,.bool gn2,.int .i32 no2,.slice nco2 nc2.length ncc2,.string nu2,.slice eo2 es2.length ec2,.int .u32 (f2:Int),.int .u64 (th2:Int),strV u2] w'},s.1.cell? ⟨b1,12,none⟩=some (.bool gp1):=fun s=>row_cell s.2.1 (j:=12) rfl
   have i2:∀ s:{w':World // TwoX b1 b2 #[.slice lo1 l1.length lc1,.int .u64 (a1:Int),.int .u64 (t1:Int),.int .u64 (k1:Int),.bool bp1,.int .u64 (vp1:Int),.bool bm1,.int .u64 (vm1:Int),.bool bg1,.int .u64 (vg1:Int),.int .i32 sc1,.int .u64 (zc1:Int),.bool gp1,.int .i32 po1,.slice pco1 pc1.length pcc1,.string pu1,.bool gn1,.int .i32 no1,.slice nco1 nc1.length ncc1,.string nu1,.slice eo1 es1.length ec1,.int .u32 (f1:Int),.int .u64 (th1:Int),strV u1] #[.slice lo2 l2.length lc2,.int .u64 (a2:Int),.int .u64 (t2:Int),.int .u64 (k2:Int),.bool bp2,.int .u64 (vp2:Int),.bool bm2,.int .u64 (vm2:Int),.bool bg2,.int .u64 (vg2:Int),.int .i32 sc2,.int .u64 (zc2:Int),.bool gp2,.int .i32 po2,.slice pco2 pc2.length pcc2,.string pu2,.bool gn2,.int .i32 no2,.slice nco2 nc2.length ncc2,.string nu2,.slice eo2 es2.length ec2,.int .u32 (f2:Int),.int .u64 (th2:Int),strV u2] w'},s.1.cell? ⟨b1,16,none⟩=some (.bool gn1):=fun s=>row_cell s.2.1 (j:=16) rfl
   have i3:∀ s:{w':World // TwoX b1 b2 #[.slice lo1 l1.length lc1,.int .u64 (a1:Int),.int .u64 (t1:Int),.int .u64 (k1:Int),.bool bp1,.int .u64 (vp1:Int),.bool bm1,.int .u64 (vm1:Int),.bool bg1,.int .u64 (vg1:Int),.int .i32 sc1,.int .u64 (zc1:Int),.bool gp1,.int .i32 po1,.slice pco1 pc1.length pcc1,.string pu1,.bool gn1,.int .i32 no1,.slice nco1 nc1.length ncc1,.string nu1,.slice eo1 es1.length ec1,.int .u32 (f1:Int),.int .u64 (th1:Int),strV u1] #[.slice lo2 l2.length lc2,.int .u64 (a2:Int),.int .u64 (t2:Int),.int .u64 (k2:Int),.bool bp2,.int .u64 (vp2:Int),.bool bm2,.int .u64 (vm2:Int),.bool bg2,.int .u64 (vg2:Int),.int .i32 sc2,.int .u64 (zc2:Int),.bool gp2,.int .i32 po2,.slice pco2 pc2.length pcc2,.string pu2,.bool gn2,.int .i32 no2,.slice nco2 nc2.length ncc2,.string nu2,.slice eo2 es2.length ec2,.int .u32 (f2:Int),.int .u64 (th2:Int),strV u2] w'},s.1.cell? ⟨b2,12,none⟩=some (.bool gp2):=fun s=>row_cell s.2.2 (j:=12) rfl
   have i4:∀ s:{w':World // TwoX b1 b2 #[.slice lo1 l1.length lc1,.int .u64 (a1:Int),.int .u64 (t1:Int),.int .u64 (k1:Int),.bool bp1,.int .u64 (vp1:Int),.bool bm1,.int .u64 (vm1:Int),.bool bg1,.int .u64 (vg1:Int),.int .i32 sc1,.int .u64 (zc1:Int),.bool gp1,.int .i32 po1,.slice pco1 pc1.length pcc1,.string pu1,.bool gn1,.int .i32 no1,.slice nco1 nc1.length ncc1,.string nu1,.slice eo1 es1.length ec1,.int .u32 (f1:Int),.int .u64 (th1:Int),strV u1] #[.slice lo2 l2.length lc2,.int .u64 (a2:Int),.int .u64 (t2:Int),.int .u64 (k2:Int),.bool bp2,.int .u64 (vp2:Int),.bool bm2,.int .u64 (vm2:Int),.bool bg2,.int .u64 (vg2:Int),.int .i32 sc2,.int .u64 (zc2:Int),.bool gp2,.int .i32 po2,.slice pco2 pc2.length pcc2,.string pu2,.bool gn2,.int .i32 no2,.slice nco2 nc2.length ncc2,.string nu2,.slice eo2 es2.length ec2,.int .u32 (f2:Int),.int .u64 (th2:Int),strV u2] w'},s.1.cell? ⟨b2,16,none⟩=some (.bool gn2):=fun s=>row_cell s.2.2 (j:=16) rfl
   refine wp_region_seqB (TwoX b1 b2 #[.slice lo1 l1.length lc1,.int .u64 (a1:Int),.int .u64 (t1:Int),.int .u64 (k1:Int),.bool bp1,.int .u64 (vp1:Int),.bool bm1,.int .u64 (vm1:Int),.bool bg1,.int .u64 (vg1:Int),.int .i32 sc1,.int .u64 (zc1:Int),.bool gp1,.int .i32 po1,.slice pco1 pc1.length pcc1,.string pu1,.bool gn1,.int .i32 no1,.slice nco1 nc1.length ncc1,.string nu1,.slice eo1 es1.length ec1,.int .u32 (f1:Int),.int .u64 (th1:Int),strV u1] #[.slice lo2 l2.length lc2,.int .u64 (a2:Int),.int .u64 (t2:Int),.int .u64 (k2:Int),.bool bp2,.int .u64 (vp2:Int),.bool bm2,.int .u64 (vm2:Int),.bool bg2,.int .u64 (vg2:Int),.int .i32 sc2,.int .u64 (zc2:Int),.bool gp2,.int .i32 po2,.slice pco2 pc2.length pcc2,.string pu2,.bool gn2,.int .i32 no2,.slice nco2 nc2.length ncc2,.string nu2,.slice eo2 es2.length ec2,.int .u32 (f2:Int),.int .u64 (th2:Int),strV u2]) [] [(0,true),(1,true),(2,true),(3,true),(4,true),(5,true),(6,true),(7,true),(8,true),(9,true),(10,true),(11,true),(12,true),(13,false),(14,true),(15,false)] (by kernel_rfl) (by kernel_rfl) (by kernel_rfl) (by kernel_rfl) ?_
   rw[HD.out]
   iterate 3 (refine seqB_take _ rfl hS (fun KC hK=>?_);go_simp;(first|refine hK _ ?_|refine ⟨_,fun _ _=>rfl,hK _ ?_⟩);clear hK KC)
   refine seqB_ite (b:=!gp1) (v := .pointer (some ⟨b2,12,none⟩)) _ rfl hS (by go_simp<;>(cases gp1<;>rfl)) (fun hb t=>by obtain rfl:gp1=false:=(by simpa using hb);(try simp only[Bool.not_false,iteW_true]);go_simp) ?_
   go_simp
   refine seqB_ite (b:=!gp1) (v := .bool gp2) _ rfl hS (by go_simp<;>(cases gp1<;>rfl)) (fun hb t=>by obtain rfl:gp1=false:=(by simpa using hb);(try simp only[Bool.not_false,iteW_true]);go_simp) ?_
   go_simp
   refine seqB_val (v := .bool (gp1||gp2)) _ rfl hS (by go_simp) (fun t=>by cases gp1<;>(try simp only[Bool.not_true,Bool.not_false,iteW_true,iteW_false])<;>go_simp) ?_
   go_simp
   iterate 3 (refine seqB_take _ rfl hS (fun KC hK=>?_);go_simp;(first|refine hK _ ?_|refine ⟨_,fun _ _=>rfl,hK _ ?_⟩);clear hK KC)
   refine seqB_ite (b:=!gn1) (v := .pointer (some ⟨b2,16,none⟩)) _ rfl hS (by go_simp<;>(cases gn1<;>rfl)) (fun hb t=>by obtain rfl:gn1=false:=(by simpa using hb);(try simp only[Bool.not_false,iteW_true]);go_simp) ?_
   go_simp
   refine seqB_ite (b:=!gn1) (v := .bool gn2) _ rfl hS (by go_simp<;>(cases gn1<;>rfl)) (fun hb t=>by obtain rfl:gn1=false:=(by simpa using hb);(try simp only[Bool.not_false,iteW_true]);go_simp) ?_
   go_simp
   refine seqB_val (v := .bool (gn1||gn2)) _ rfl hS (by go_simp) (fun t=>by cases gn1<;>(try simp only[Bool.not_true,Bool.not_false,iteW_true,iteW_false])<;>go_simp) ?_
   go_simp
   refine seqB_take _ rfl hS (fun KC hK=>?_);go_simp;(first|refine hK _ ?_|refine ⟨_,fun _ _=>rfl,hK _ ?_⟩);clear hK KC
   clear i1 i2 i3 i4 hS
   have y12:D.cell? ⟨b5,12,none⟩=some (.bool gp2):=row_cell Rb5.out (j:=12) rfl
   have z12:D.frozen? ⟨b5,12,none⟩=false:=row_thaw Rb5.out 12
   refine seqB_come _ rfl (fun KC hK=>?_);go_simp
   obtain ⟨d1,HD1w⟩:∃ X,Hid ((D.setCell ⟨b5,12,none⟩ (.bool (gp1||gp2)))=X):=⟨_,Lib.hid rfl⟩
   rw[HD1w.out]
   have hu:Upd (fun k=>k=b5) D d1:=by rw[←HD1w.out];exact Upd.set D ⟨b5,12,none⟩ (.bool (gp1||gp2))
   have hr0:(D.setCell ⟨b5,12,none⟩ (.bool (gp1||gp2))).heap[b5]? = some (.cells #[.slice lo2 l2.length lc2,.int .u64 (a1:Int),.int .u64 (t2:Int),.int .u64 (k2:Int),.bool op.1,.int .u64 (op.2:Int),.bool om.1,.int .u64 (om.2:Int),.bool og.1,.int .u64 (og.2:Int),.int .i32 (m0 - (j:Int)),.int .u64 (zc2:Int),.bool (gp1||gp2),.int .i32 po2,.slice pco2 pc2.length pcc2,.string pu2,.bool gn2,.int .i32 no2,.slice nco2 nc2.length ncc2,.string nu2,.slice eo2 es2.length ec2,.int .u32 (f2:Int),.int .u64 (th2:Int),strV u2] 32 (0,0)):=row_set Rb5.out 12 (.bool (gp1||gp2))
   have hr:d1.heap[b5]? = some (.cells #[.slice lo2 l2.length lc2,.int .u64 (a1:Int),.int .u64 (t2:Int),.int .u64 (k2:Int),.bool op.1,.int .u64 (op.2:Int),.bool om.1,.int .u64 (om.2:Int),.bool og.1,.int .u64 (og.2:Int),.int .i32 (m0 - (j:Int)),.int .u64 (zc2:Int),.bool (gp1||gp2),.int .i32 po2,.slice pco2 pc2.length pcc2,.string pu2,.bool gn2,.int .i32 no2,.slice nco2 nc2.length ncc2,.string nu2,.slice eo2 es2.length ec2,.int .u32 (f2:Int),.int .u64 (th2:Int),strV u2] 32 (0,0)):=by rw[←HD1w.out];exact hr0
   replace HB:=Lib.hid (HB.out.trans (hu.below HB.out.size (fun k _ hk=>by have hk:k=b5:=hk;have:=HGEnn.out;omega)))
   replace Rb1:=Lib.hid ((hu.block _ (row_lt Rb1.out) (fun h=>by have h:b1=b5:=h;have:=HGEnn.out;omega)).trans Rb1.out)
   replace Rb2:=Lib.hid ((hu.block _ (row_lt Rb2.out) (fun h=>by have h:b2=b5:=h;have:=HGEnn.out;omega)).trans Rb2.out)
   replace Rb3:=Lib.hid ((hu.block _ (row_lt Rb3.out) (fun h=>by have h:b3=b5:=h;have:=HGEnn.out;omega)).trans Rb3.out)
   replace Rb4:=Lib.hid ((hu.block _ (row_lt Rb4.out) (fun h=>by have h:b4=b5:=h;have:=HGEnn.out;omega)).trans Rb4.out)
   replace Rb5:=Lib.hid (hr)
   replace HBB:=Lib.hid (HBB.out.trans (hu.below HBB.out.size (fun k _ hk=>by have hk:k=b5:=hk;have:=HGEnn.out;have:=HN4.out;omega)))
   clear hu hr hr0
   have hS:TwoX b1 b2 #[.slice lo1 l1.length lc1,.int .u64 (a1:Int),.int .u64 (t1:Int),.int .u64 (k1:Int),.bool bp1,.int .u64 (vp1:Int),.bool bm1,.int .u64 (vm1:Int),.bool bg1,.int .u64 (vg1:Int),.int .i32 sc1,.int .u64 (zc1:Int),.bool gp1,.int .i32 po1,.slice pco1 pc1.length pcc1,.string pu1,.bool gn1,.int .i32 no1,.slice nco1 nc1.length ncc1,.string nu1,.slice eo1 es1.length ec1,.int .u32 (f1:Int),.int .u64 (th1:Int),strV u1] #[.slice lo2 l2.length lc2,.int .u64 (a2:Int),.int .u64 (t2:Int),.int .u64 (k2:Int),.bool bp2,.int .u64 (vp2:Int),.bool bm2,.int .u64 (vm2:Int),.bool bg2,.int .u64 (vg2:Int),.int .i32 sc2,.int .u64 (zc2:Int),.bool gp2,.int .i32 po2,.slice pco2 pc2.length pcc2,.string pu2,.bool gn2,.int .i32 no2,.slice nco2 nc2.length ncc2,.string nu2,.slice eo2 es2.length ec2,.int .u32 (f2:Int),.int .u64 (th2:Int),strV u2] d1:=⟨Rb1.out,Rb2.out⟩
   refine hK.out _ _ (fun _=>hS) ?_;clear hK KC y12 z12
   refine seqB_take _ rfl hS (fun KC hK=>?_);go_simp;(first|refine hK _ ?_|refine ⟨_,fun _ _=>rfl,hK _ ?_⟩);clear hK KC
   clear hS hne
   have y16:d1.cell? ⟨b5,16,none⟩=some (.bool gn2):=row_cell Rb5.out (j:=16) rfl
   have z16:d1.frozen? ⟨b5,16,none⟩=false:=row_thaw Rb5.out 16
   refine seqB_come _ rfl (fun KC hK=>?_);go_simp
   obtain ⟨d2,HD2w⟩:∃ X,Hid ((d1.setCell ⟨b5,16,none⟩ (.bool (gn1||gn2)))=X):=⟨_,Lib.hid rfl⟩
   rw[HD2w.out]
   have hu:Upd (fun k=>k=b5) d1 d2:=by rw[←HD2w.out];exact Upd.set d1 ⟨b5,16,none⟩ (.bool (gn1||gn2))
   have hr0:(d1.setCell ⟨b5,16,none⟩ (.bool (gn1||gn2))).heap[b5]? = some (.cells #[.slice lo2 l2.length lc2,.int .u64 (a1:Int),.int .u64 (t2:Int),.int .u64 (k2:Int),.bool op.1,.int .u64 (op.2:Int),.bool om.1,.int .u64 (om.2:Int),.bool og.1,.int .u64 (og.2:Int),.int .i32 (m0 - (j:Int)),.int .u64 (zc2:Int),.bool (gp1||gp2),.int .i32 po2,.slice pco2 pc2.length pcc2,.string pu2,.bool (gn1||gn2),.int .i32 no2,.slice nco2 nc2.length ncc2,.string nu2,.slice eo2 es2.length ec2,.int .u32 (f2:Int),.int .u64 (th2:Int),strV u2] 32 (0,0)):=row_set Rb5.out 16 (.bool (gn1||gn2))
   have hr:d2.heap[b5]? = some (.cells #[.slice lo2 l2.length lc2,.int .u64 (a1:Int),.int .u64 (t2:Int),.int .u64 (k2:Int),.bool op.1,.int .u64 (op.2:Int),.bool om.1,.int .u64 (om.2:Int),.bool og.1,.int .u64 (og.2:Int),.int .i32 (m0 - (j:Int)),.int .u64 (zc2:Int),.bool (gp1||gp2),.int .i32 po2,.slice pco2 pc2.length pcc2,.string pu2,.bool (gn1||gn2),.int .i32 no2,.slice nco2 nc2.length ncc2,.string nu2,.slice eo2 es2.length ec2,.int .u32 (f2:Int),.int .u64 (th2:Int),strV u2] 32 (0,0)):=by rw[←HD2w.out];exact hr0
   replace HB:=Lib.hid (HB.out.trans (hu.below HB.out.size (fun k _ hk=>by have hk:k=b5:=hk;have:=HGEnn.out;omega)))
   replace Rb1:=Lib.hid ((hu.block _ (row_lt Rb1.out) (fun h=>by have h:b1=b5:=h;have:=HGEnn.out;omega)).trans Rb1.out)
   replace Rb2:=Lib.hid ((hu.block _ (row_lt Rb2.out) (fun h=>by have h:b2=b5:=h;have:=HGEnn.out;omega)).trans Rb2.out)
   replace Rb3:=Lib.hid ((hu.block _ (row_lt Rb3.out) (fun h=>by have h:b3=b5:=h;have:=HGEnn.out;omega)).trans Rb3.out)
   replace Rb4:=Lib.hid ((hu.block _ (row_lt Rb4.out) (fun h=>by have h:b4=b5:=h;have:=HGEnn.out;omega)).trans Rb4.out)
   replace Rb5:=Lib.hid (hr)
   replace HBB:=Lib.hid (HBB.out.trans (hu.below HBB.out.size (fun k _ hk=>by have hk:k=b5:=hk;have:=HGEnn.out;have:=HN4.out;omega)))
   clear hu hr hr0
   refine hK.out _ _ (fun _=>⟨Rb1.out,Rb2.out⟩) ?_;clear hK KC y16 z16
   refine seqB_done ?_
   go_upto_region 13 with fail
   obtain ⟨b6,HN6⟩:∃ x,Hid (d2.heap.size=x):=⟨_,Lib.hid rfl⟩
   obtain ⟨q0,HQ0⟩:∃ X,Hid (d2.alloc (.cells #[.nilIface] 74)=X):=⟨_,Lib.hid rfl⟩
   rw[HQ0.out,HN6.out]
   have hb:Below d2.heap.size d2 q0:=by rw[←HQ0.out];exact below_new _ _
   have hr:q0.heap[b6]? = some (.cells #[.nilIface] 74 (0,0)):=by rw[←HQ0.out,←HN6.out];exact heap_alloc_new d2 _
   have HGEnnn:Hid ((((w.heap.size≤b1∧b1<b2∧b2<b3)∧b3<b4)∧b4<b5)∧b5<b6):=Lib.hid ⟨HGEnn.out,by have h1:=row_lt Rb5.out;have h2:=HN6.out;omega⟩
   replace HB:=Lib.hid (below_step HB.out hb)
   replace Rb1:=Lib.hid ((hb.block _ (row_lt Rb1.out)).trans Rb1.out)
   replace Rb2:=Lib.hid ((hb.block _ (row_lt Rb2.out)).trans Rb2.out)
   replace Rb3:=Lib.hid ((hb.block _ (row_lt Rb3.out)).trans Rb3.out)
   replace Rb4:=Lib.hid ((hb.block _ (row_lt Rb4.out)).trans Rb4.out)
   replace Rb5:=Lib.hid ((hb.block _ (row_lt Rb5.out)).trans Rb5.out)
   have Rb6:=Lib.hid hr
   clear hb hr
   have hbz:Below d2.heap.size d2 q0:=by rw[←HQ0.out];exact below_new _ _
   replace HBB:=Lib.hid (below_step HBB.out hbz)
   clear hbz
   have RE:Hid (EdgeRow (b6+1) b6 false q0):=Lib.hid (EdgeRow.no Rb6.out)
   have HLT:Hid (b6<q0.heap.size):=Lib.hid (row_lt Rb6.out)
   clear Rb6
   have x3:q0.cell? ⟨b1,3,none⟩=some (.int .u64 (k1:Int)):=row_cell Rb1.out (j:=3) rfl
   have y3:q0.cell? ⟨b2,3,none⟩=some (.int .u64 (k2:Int)):=row_cell Rb2.out (j:=3) rfl
   obtain ⟨e0,HE0⟩:∃ e,Hid ((false||decide (18446744073709551616≤k1+k2))=e):=⟨_,Lib.hid rfl⟩
   go_wp2_with fail
   refine (plus_any 4 k1 k2 (by have:=hu64.out;omega) (by have:=hu64.out;omega) (b6+1) b6 false q0 HLT.out RE (e':=e0) HE0).mono ?_
   rintro E q1 ⟨rfl,hu,he⟩
   clear x3 y3
   replace HB:=Lib.hid (HB.out.trans (hu.below HB.out.size (fun k _ hk=>by have hk:k=b6:=hk;have:=HGEnnn.out;omega)))
   replace Rb1:=Lib.hid ((hu.block _ (row_lt Rb1.out) (fun h=>by have h:b1=b6:=h;have:=HGEnnn.out;omega)).trans Rb1.out)
   replace Rb2:=Lib.hid ((hu.block _ (row_lt Rb2.out) (fun h=>by have h:b2=b6:=h;have:=HGEnnn.out;omega)).trans Rb2.out)
   replace Rb3:=Lib.hid ((hu.block _ (row_lt Rb3.out) (fun h=>by have h:b3=b6:=h;have:=HGEnnn.out;omega)).trans Rb3.out)
   replace Rb4:=Lib.hid ((hu.block _ (row_lt Rb4.out) (fun h=>by have h:b4=b6:=h;have:=HGEnnn.out;omega)).trans Rb4.out)
   replace Rb5:=Lib.hid ((hu.block _ (row_lt Rb5.out) (fun h=>by have h:b5=b6:=h;have:=HGEnnn.out;omega)).trans Rb5.out)
   replace HBB:=Lib.hid (HBB.out.trans (hu.below HBB.out.size (fun k _ hk=>by have hk:k=b6:=hk;have:=HGEnnn.out;have:=HN4.out;omega)))
   replace RE:=Lib.hid he
   clear hu he
   have y3:q1.cell? ⟨b5,3,none⟩=some (.int .u64 (k2:Int)):=row_cell Rb5.out (j:=3) rfl
   have z3:q1.frozen? ⟨b5,3,none⟩=false:=row_thaw Rb5.out 3
   obtain ⟨ck,HCk⟩:∃ c,Hid (usum k1 k2=c):=⟨_,Lib.hid rfl⟩
   rw[HCk.out]
   go_upto_region 14 with fail
   obtain ⟨q2,HQk⟩:∃ X,Hid ((q1.setCell ⟨b5,3,none⟩ (.int .u64 (ck:Int)))=X):=⟨_,Lib.hid rfl⟩
   rw[HQk.out]
   have hu:Upd (fun k=>k=b5) q1 q2:=by rw[←HQk.out];exact Upd.set q1 ⟨b5,3,none⟩ (.int .u64 (ck:Int))
   have hr0:(q1.setCell ⟨b5,3,none⟩ (.int .u64 (ck:Int))).heap[b5]? = some (.cells #[.slice lo2 l2.length lc2,.int .u64 (a1:Int),.int .u64 (t2:Int),.int .u64 (ck:Int),.bool op.1,.int .u64 (op.2:Int),.bool om.1,.int .u64 (om.2:Int),.bool og.1,.int .u64 (og.2:Int),.int .i32 (m0 - (j:Int)),.int .u64 (zc2:Int),.bool (gp1||gp2),.int .i32 po2,.slice pco2 pc2.length pcc2,.string pu2,.bool (gn1||gn2),.int .i32 no2,.slice nco2 nc2.length ncc2,.string nu2,.slice eo2 es2.length ec2,.int .u32 (f2:Int),.int .u64 (th2:Int),strV u2] 32 (0,0)):=row_set Rb5.out 3 (.int .u64 (ck:Int))
   have hr:q2.heap[b5]? = some (.cells #[.slice lo2 l2.length lc2,.int .u64 (a1:Int),.int .u64 (t2:Int),.int .u64 (ck:Int),.bool op.1,.int .u64 (op.2:Int),.bool om.1,.int .u64 (om.2:Int),.bool og.1,.int .u64 (og.2:Int),.int .i32 (m0 - (j:Int)),.int .u64 (zc2:Int),.bool (gp1||gp2),.int .i32 po2,.slice pco2 pc2.length pcc2,.string pu2,.bool (gn1||gn2),.int .i32 no2,.slice nco2 nc2.length ncc2,.string nu2,.slice eo2 es2.length ec2,.int .u32 (f2:Int),.int .u64 (th2:Int),strV u2] 32 (0,0)):=by rw[←HQk.out];exact hr0
   replace HB:=Lib.hid (HB.out.trans (hu.below HB.out.size (fun k _ hk=>by have hk:k=b5:=hk;have:=HGEnnn.out;omega)))
   replace Rb1:=Lib.hid ((hu.block _ (row_lt Rb1.out) (fun h=>by have h:b1=b5:=h;have:=HGEnnn.out;omega)).trans Rb1.out)
   replace Rb2:=Lib.hid ((hu.block _ (row_lt Rb2.out) (fun h=>by have h:b2=b5:=h;have:=HGEnnn.out;omega)).trans Rb2.out)
   replace Rb3:=Lib.hid ((hu.block _ (row_lt Rb3.out) (fun h=>by have h:b3=b5:=h;have:=HGEnnn.out;omega)).trans Rb3.out)
   replace Rb4:=Lib.hid ((hu.block _ (row_lt Rb4.out) (fun h=>by have h:b4=b5:=h;have:=HGEnnn.out;omega)).trans Rb4.out)
   replace Rb5:=Lib.hid (hr)
   replace RE:=Lib.hid (RE.out.upd hu (fun h=>by have h:b6=b5:=h;have:=HGEnnn.out;omega) (fun k hk=>by have hk:k=b5:=hk;have:=HGEnnn.out;omega))
   replace HBB:=Lib.hid (HBB.out.trans (hu.below HBB.out.size (fun k _ hk=>by have hk:k=b5:=hk;have:=HGEnnn.out;have:=HN4.out;omega)))
   clear hu hr hr0
   clear y3 z3
   have HZ2:Hid (b6<q2.heap.size):=Lib.hid (by obtain ⟨v,h,_⟩:=RE.out;exact row_lt h)
   have x11:q2.cell? ⟨b1,11,none⟩=some (.int .u64 (zc1:Int)):=row_cell Rb1.out (j:=11) rfl
   have y11:q2.cell? ⟨b2,11,none⟩=some (.int .u64 (zc2:Int)):=row_cell Rb2.out (j:=11) rfl
   obtain ⟨e1,HE1⟩:∃ e,Hid ((e0||decide (18446744073709551616≤zc1+zc2))=e):=⟨_,Lib.hid rfl⟩
   go_wp2_with fail
   refine (plus_any 7 zc1 zc2 (by have:=hu64.out;omega) (by have:=hu64.out;omega) (b6+1) b6 e0 q2 HZ2.out RE (e':=e1) HE1).mono ?_
   rintro E q3 ⟨rfl,hu,he⟩
   clear x11 y11
   replace HB:=Lib.hid (HB.out.trans (hu.below HB.out.size (fun k _ hk=>by have hk:k=b6:=hk;have:=HGEnnn.out;omega)))
   replace Rb1:=Lib.hid ((hu.block _ (row_lt Rb1.out) (fun h=>by have h:b1=b6:=h;have:=HGEnnn.out;omega)).trans Rb1.out)
   replace Rb2:=Lib.hid ((hu.block _ (row_lt Rb2.out) (fun h=>by have h:b2=b6:=h;have:=HGEnnn.out;omega)).trans Rb2.out)
   replace Rb3:=Lib.hid ((hu.block _ (row_lt Rb3.out) (fun h=>by have h:b3=b6:=h;have:=HGEnnn.out;omega)).trans Rb3.out)
   replace Rb4:=Lib.hid ((hu.block _ (row_lt Rb4.out) (fun h=>by have h:b4=b6:=h;have:=HGEnnn.out;omega)).trans Rb4.out)
   replace Rb5:=Lib.hid ((hu.block _ (row_lt Rb5.out) (fun h=>by have h:b5=b6:=h;have:=HGEnnn.out;omega)).trans Rb5.out)
   replace HBB:=Lib.hid (HBB.out.trans (hu.below HBB.out.size (fun k _ hk=>by have hk:k=b6:=hk;have:=HGEnnn.out;have:=HN4.out;omega)))
   replace RE:=Lib.hid he
   clear hu he
   have y11:q3.cell? ⟨b5,11,none⟩=some (.int .u64 (zc2:Int)):=row_cell Rb5.out (j:=11) rfl
   have z11:q3.frozen? ⟨b5,11,none⟩=false:=row_thaw Rb5.out 11
   obtain ⟨czc,HCzc⟩:∃ c,Hid (usum zc1 zc2=c):=⟨_,Lib.hid rfl⟩
   rw[HCzc.out]
   go_upto_region 15 with fail
   obtain ⟨q4,HQzc⟩:∃ X,Hid ((q3.setCell ⟨b5,11,none⟩ (.int .u64 (czc:Int)))=X):=⟨_,Lib.hid rfl⟩
   rw[HQzc.out]
   have hu:Upd (fun k=>k=b5) q3 q4:=by rw[←HQzc.out];exact Upd.set q3 ⟨b5,11,none⟩ (.int .u64 (czc:Int))
   have hr0:(q3.setCell ⟨b5,11,none⟩ (.int .u64 (czc:Int))).heap[b5]? = some (.cells #[.slice lo2 l2.length lc2,.int .u64 (a1:Int),.int .u64 (t2:Int),.int .u64 (ck:Int),.bool op.1,.int .u64 (op.2:Int),.bool om.1,.int .u64 (om.2:Int),.bool og.1,.int .u64 (og.2:Int),.int .i32 (m0 - (j:Int)),.int .u64 (czc:Int),.bool (gp1||gp2),.int .i32 po2,.slice pco2 pc2.length pcc2,.string pu2,.bool (gn1||gn2),.int .i32 no2,.slice nco2 nc2.length ncc2,.string nu2,.slice eo2 es2.length ec2,.int .u32 (f2:Int),.int .u64 (th2:Int),strV u2] 32 (0,0)):=row_set Rb5.out 11 (.int .u64 (czc:Int))
   have hr:q4.heap[b5]? = some (.cells #[.slice lo2 l2.length lc2,.int .u64 (a1:Int),.int .u64 (t2:Int),.int .u64 (ck:Int),.bool op.1,.int .u64 (op.2:Int),.bool om.1,.int .u64 (om.2:Int),.bool og.1,.int .u64 (og.2:Int),.int .i32 (m0 - (j:Int)),.int .u64 (czc:Int),.bool (gp1||gp2),.int .i32 po2,.slice pco2 pc2.length pcc2,.string pu2,.bool (gn1||gn2),.int .i32 no2,.slice nco2 nc2.length ncc2,.string nu2,.slice eo2 es2.length ec2,.int .u32 (f2:Int),.int .u64 (th2:Int),strV u2] 32 (0,0)):=by rw[←HQzc.out];exact hr0
   replace HB:=Lib.hid (HB.out.trans (hu.below HB.out.size (fun k _ hk=>by have hk:k=b5:=hk;have:=HGEnnn.out;omega)))
   replace Rb1:=Lib.hid ((hu.block _ (row_lt Rb1.out) (fun h=>by have h:b1=b5:=h;have:=HGEnnn.out;omega)).trans Rb1.out)
   replace Rb2:=Lib.hid ((hu.block _ (row_lt Rb2.out) (fun h=>by have h:b2=b5:=h;have:=HGEnnn.out;omega)).trans Rb2.out)
   replace Rb3:=Lib.hid ((hu.block _ (row_lt Rb3.out) (fun h=>by have h:b3=b5:=h;have:=HGEnnn.out;omega)).trans Rb3.out)
   replace Rb4:=Lib.hid ((hu.block _ (row_lt Rb4.out) (fun h=>by have h:b4=b5:=h;have:=HGEnnn.out;omega)).trans Rb4.out)
   replace Rb5:=Lib.hid (hr)
   replace RE:=Lib.hid (RE.out.upd hu (fun h=>by have h:b6=b5:=h;have:=HGEnnn.out;omega) (fun k hk=>by have hk:k=b5:=hk;have:=HGEnnn.out;omega))
   replace HBB:=Lib.hid (HBB.out.trans (hu.below HBB.out.size (fun k _ hk=>by have hk:k=b5:=hk;have:=HGEnnn.out;have:=HN4.out;omega)))
   clear hu hr hr0
   clear y11 z11
   have HKV:Hid (e1=false→k1+k2<18446744073709551616∧zc1+zc2<18446744073709551616):=Lib.hid (fun h=>by
    have h0:=HE0.out
    have h1:=HE1.out
    rw[Bool.false_or] at h0
    rw[←h0,h,Bool.or_eq_false_iff,decide_eq_false_iff_not,decide_eq_false_iff_not] at h1
    omega)
   have HOV:Hid (e1=true→18446744073709551616≤k1+k2∨18446744073709551616≤zc1+zc2):=Lib.hid (fun h=>by
    have h0:=HE0.out
    have h1:=HE1.out
    rw[Bool.false_or] at h0
    rw[←h0,h,Bool.or_eq_true,decide_eq_true_iff,decide_eq_true_iff] at h1
    exact h1)
   cases e1 with
   | true =>
    have HOW:=Lib.hid (HOV.out rfl)
    clear HOV HKV
    obtain ⟨p0,m9,hq,hre,hrq⟩:=RE.out.row_yes
    have hce:q4.cell? ⟨b6,0,none⟩=some (.iface 97 (.pointer (some ⟨p0,0,none⟩))):=row_cell hre (j:=0) rfl
    clear hq hre hrq
    go_upto_region 16 with fail
    obtain ⟨Dz,hD⟩:∃ D,q4.drew=D:=⟨_,rfl⟩
    have hud:Upd (fun _=>False) q4 Dz:=by rw[←hD];exact Upd.drew _ _
    have HBD:Hid (Below w.heap.size w Dz):=Lib.hid (HB.out.trans (hud.below HB.out.size (fun _ _ h=>h.elim)))
    have HRD:=Lib.hid ((hud.block _ (row_lt Rb3.out) (fun h=>h)).trans Rb3.out)
    have hS:EdgeRow (b6+1) b6 true Dz:=RE.out.upd hud (fun h=>h) (fun k h=>h.elim)
    obtain ⟨p1,m1,hq,hre,hrq⟩:=hS.row_yes
    have HRQ:=Lib.hid (And.intro hq hrq)
    clear hS hud hrq hq hce
    have hne:Nonempty {w':World // w'.heap[b6]? = some (.cells #[.iface 97 (.pointer (some ⟨p1,0,none⟩))] 74 (0,0))}:=⟨⟨_,hre⟩⟩
    have hlc:∀ s:{w':World // w'.heap[b6]? = some (.cells #[.iface 97 (.pointer (some ⟨p1,0,none⟩))] 74 (0,0))},s.1.cell? ⟨b6,0,none⟩=some (.iface 97 (.pointer (some ⟨p1,0,none⟩))):=fun s=>row_cell s.2 (j:=0) rfl
    refine wp_region_seq (S:=fun w':World=>w'.heap[b6]? = some (.cells #[.iface 97 (.pointer (some ⟨p1,0,none⟩))] 74 (0,0))) [(0,true),(1,true),(2,true),(3,false),(4,true)] (by kernel_rfl) (by kernel_rfl) (by kernel_rfl) (by kernel_rfl) (by rw[hD];exact hre) ?_
    rw[hD]
    clear hD
    iterate 3 (refine seq_take _ rfl (fun KC hK=>?_);go_simp;(first|refine hK _ ?_|refine ⟨_,fun _ _=>rfl,hK _ ?_⟩);clear hK KC)
    clear hlc hne
    refine seq_come _ rfl (fun KC hK=>?_)
    have h35:¬b6=b3:=by have h1:=HGEnnn.out;omega
    rw[if_pos (by kernel_rfl)]
    refine wp_store_row 32 (.tmp 6) (.tmp 87) rfl b3 #[.slice none 0 0,.int .u64 0,.int .u64 0,.int .u64 0,.bool false,.int .u64 0,.bool false,.int .u64 0,.bool false,.int .u64 0,.int .i32 0,.int .u64 0,.bool false,.int .i32 0,.slice none 0 0,.string ⟨#[]⟩,.bool false,.int .i32 0,.slice none 0 0,.string ⟨#[]⟩,.slice none 0 0,.int .u32 0,.int .u64 0,.string ⟨#[]⟩] rfl rfl 32 _ HRD.out (by kernel_rfl) rfl (by simp[Value.oneCell']) ?_
    obtain ⟨wz,HWZ⟩:∃ X,Hid (Dz.setRow b3 #[.slice none 0 0,.int .u64 0,.int .u64 0,.int .u64 0,.bool false,.int .u64 0,.bool false,.int .u64 0,.bool false,.int .u64 0,.int .i32 0,.int .u64 0,.bool false,.int .i32 0,.slice none 0 0,.string ⟨#[]⟩,.bool false,.int .i32 0,.slice none 0 0,.string ⟨#[]⟩,.slice none 0 0,.int .u32 0,.int .u64 0,.string ⟨#[]⟩]=X):=⟨_,Lib.hid rfl⟩
    rw[HWZ.out]
    have hu:Upd (fun k=>k=b3) Dz wz:=by rw[←HWZ.out];exact upd_setRow _ _ _
    have hr:wz.heap[b3]? = some (.cells #[.slice none 0 0,.int .u64 0,.int .u64 0,.int .u64 0,.bool false,.int .u64 0,.bool false,.int .u64 0,.bool false,.int .u64 0,.int .i32 0,.int .u64 0,.bool false,.int .i32 0,.slice none 0 0,.string ⟨#[]⟩,.bool false,.int .i32 0,.slice none 0 0,.string ⟨#[]⟩,.slice none 0 0,.int .u32 0,.int .u64 0,.string ⟨#[]⟩] 32 (0,0)):=by rw[←HWZ.out];exact setRow_heap _ _ _ _ _ _ HRD.out
    have HUZ:=Lib.hid hu
    have HRZ:=Lib.hid hr
    refine hK.out _ _ ((hu.block _ (row_lt hre) h35).trans hre) ?_;clear hK KC
    clear hu hr
    refine seq_take _ rfl (fun KC hK=>?_);go_simp;(first|refine hK _ ?_|refine ⟨_,fun _ _=>rfl,hK _ ?_⟩);clear hK KC
    refine seq_done ?_
    go_wp2_with fail
    (try simp only[Exit.inBlock,Exit.then])
    refine body_cell2v rfl rfl (run_loadVar_row _ b3 32 32 _ (0,0) _ HRZ.out Tryd.underlying32 rfl (by kernel_rfl)) rfl ?_
    refine ⟨HBD.out.trans (HUZ.out.below HBD.out.size (fun k _ hk=>by have hk:k=b3:=hk;have h2:=HGEnnn.out;omega)),_,_,rfl,.inr (.inl ⟨(by first|exact HTH.out|simpa using HTH.out),.inr ⟨j,HAT.out,HOW.out.elim .inl (fun h => .inr (.inl h))⟩,?_,⟨_,_,rfl⟩,rfl⟩)⟩
    exact field_ec ((HUZ.out.block _ (row_lt HRQ.out.2) (fun hk=>by have hk:p1=b3:=hk;have h9:=HGEnnn.out;have:=HRQ.out.1;omega)).trans HRQ.out.2)
   | false =>
    have hce:q4.cell? ⟨b6,0,none⟩=some .nilIface:=row_cell RE.out.row_no (j:=0) rfl
    have HNV:Hid (k1+k2<18446744073709551616∧zc1+zc2<18446744073709551616):=Lib.hid (HKV.out rfl)
    have HKC:Hid (ck=k1+k2):=Lib.hid (by rw[←HCk.out];exact usum_fit HNV.out.1)
    have HZC:Hid (czc=zc1+zc2):=Lib.hid (by rw[←HCzc.out];exact usum_fit HNV.out.2)
    go_upto_region 17 with fail
    clear hce RE
    go_wp2_with fail
    have hle:=bAt_le HAT.out.2.1
    have HOKS:Hid ((∀ p∈T1,p.Ok)∧∀ p∈T2,p.Ok):=Lib.hid (by
     rw[←HT1.out,←HT2.out]
     exact hok.out _ _ hle.1 hle.2.1)
    have HLNS:Hid (T1.length≤2∧T2.length≤2):=Lib.hid (by
     rw[←HT1.out,←HT2.out]
     unfold pAt nAt
     rw[List.length_append,List.length_append]
     have h1:=Sd.pos_len ⟨sc1,gp1,po1,pc1,gn1,no1,nc1⟩ (dA ⟨sc1,gp1,po1,pc1,gn1,no1,nc1⟩ ⟨sc2,gp2,po2,pc2,gn2,no2,nc2⟩+j)
     have h2:=Sd.pos_len ⟨sc2,gp2,po2,pc2,gn2,no2,nc2⟩ (dB ⟨sc1,gp1,po1,pc1,gn1,no1,nc1⟩ ⟨sc2,gp2,po2,pc2,gn2,no2,nc2⟩+j)
     have h3:=Sd.neg_len ⟨sc1,gp1,po1,pc1,gn1,no1,nc1⟩ (dA ⟨sc1,gp1,po1,pc1,gn1,no1,nc1⟩ ⟨sc2,gp2,po2,pc2,gn2,no2,nc2⟩+j)
     have h4:=Sd.neg_len ⟨sc2,gp2,po2,pc2,gn2,no2,nc2⟩ (dB ⟨sc1,gp1,po1,pc1,gn1,no1,nc1⟩ ⟨sc2,gp2,po2,pc2,gn2,no2,nc2⟩+j)
     omega)
    have HWDS:Hid (width T1≤320∧width T2≤320):=Lib.hid (by
     have h:=HAT.out.2.2.1
     have hm:=HAT.out.1
     unfold wAt wide at h
     rw[HT1.out,HT2.out] at h
     simp only[Bool.or_eq_false_iff,decide_eq_false_iff_not] at h
     omega)
    clear hle
    have HOW:Hid (∀ {v:Value} {P:List Pt},SdAt b1 v P v1→v.ownBlock≠some b5):=Lib.hid (fun h hk=>by have h1:=(sd_blk h hk).2;have h2:=HN4.out;have h3:=HGEnnn.out;omega)
    refine (put_any b5 b4 b1 T1 T2 (.slice los1 T1.length cps1) (.slice los2 T2.length cps2) l2 a1 t2 ck op.1 op.2 om.1 om.2 og.1 og.2 (m0 - (j:Int)) czc (gp1||gp2) po2 pu2 (gn1||gn2) no2 nu2 es2 f2 th2 u2 lo2 lc2 pco2 pc2.length pcc2 nco2 nc2.length ncc2 eo2 ec2 q4 HLNS.out.1 HLNS.out.2 HOKS (Lib.hid (by have h:=HWDS.out;omega)) (by have h3:=HGEnnn.out;omega) (by have h3:=HGEnnn.out;omega) ⟨HOW.out HS1.out,HOW.out HS2.out⟩ (HS1.out.upd (S:=fun _=>False) (Upd.of_new HBB.out) (fun _ h=>h.elim) (fun _ _ h=>h)) (HS2.out.upd (S:=fun _=>False) (Upd.of_new HBB.out) (fun _ h=>h.elim) (fun _ _ h=>h)) Rb4.out Rb5.out).mono ?_
    rintro E p1 ⟨hu,v,rfl,hcase⟩
    replace HB:=Lib.hid (HB.out.trans (hu.below HB.out.size (fun k _ hk=>by have hk:k=b5:=hk;have:=HGEnnn.out;omega)))
    replace Rb1:=Lib.hid ((hu.block _ (row_lt Rb1.out) (fun h=>by have h:b1=b5:=h;have:=HGEnnn.out;omega)).trans Rb1.out)
    replace Rb2:=Lib.hid ((hu.block _ (row_lt Rb2.out) (fun h=>by have h:b2=b5:=h;have:=HGEnnn.out;omega)).trans Rb2.out)
    replace Rb3:=Lib.hid ((hu.block _ (row_lt Rb3.out) (fun h=>by have h:b3=b5:=h;have:=HGEnnn.out;omega)).trans Rb3.out)
    replace Rb4:=Lib.hid ((hu.block _ (row_lt Rb4.out) (fun h=>by have h:b4=b5:=h;have:=HGEnnn.out;omega)).trans Rb4.out)
    clear hu Rb5
    rcases hcase with ⟨hnone,hec,T,y,rfl⟩|⟨rfl,o1,C1,o2,C2,ha1,ha2,r1,n1,r2,n2,hrow,hn1,hn2,-,-⟩
    ·
     have HV:=Lib.hid hec
     have HNN:Hid (aans T1=none∨aans T2=none):=Lib.hid hnone
     clear hec hnone
     go_upto_region 19 with fail
     refine wp_region_lit ?_
     refine wpList_plain rfl (fun K hK=>?_);go_simp;refine hK _ _ ?_;clear hK K
     refine wpList_plain rfl (fun K hK=>?_);go_simp;refine hK _ _ ?_;clear hK K
     refine wpList_store_row rfl 32 (.tmp 6) (.tmp 93) rfl b3 #[.slice none 0 0,.int .u64 0,.int .u64 0,.int .u64 0,.bool false,.int .u64 0,.bool false,.int .u64 0,.bool false,.int .u64 0,.int .i32 0,.int .u64 0,.bool false,.int .i32 0,.slice none 0 0,.string ⟨#[]⟩,.bool false,.int .i32 0,.slice none 0 0,.string ⟨#[]⟩,.slice none 0 0,.int .u32 0,.int .u64 0,.string ⟨#[]⟩] rfl rfl 32 _ Rb3.out (by kernel_rfl) rfl (by simp[Value.oneCell']) ?_
     obtain ⟨p2,HW9⟩:∃ X,Hid (p1.setRow b3 #[.slice none 0 0,.int .u64 0,.int .u64 0,.int .u64 0,.bool false,.int .u64 0,.bool false,.int .u64 0,.bool false,.int .u64 0,.int .i32 0,.int .u64 0,.bool false,.int .i32 0,.slice none 0 0,.string ⟨#[]⟩,.bool false,.int .i32 0,.slice none 0 0,.string ⟨#[]⟩,.slice none 0 0,.int .u32 0,.int .u64 0,.string ⟨#[]⟩]=X):=⟨_,Lib.hid rfl⟩
     rw[HW9.out]
     have hu:Upd (fun k=>k=b3) p1 p2:=by rw[←HW9.out];exact upd_setRow _ _ _
     have hr:p2.heap[b3]? = some (.cells #[.slice none 0 0,.int .u64 0,.int .u64 0,.int .u64 0,.bool false,.int .u64 0,.bool false,.int .u64 0,.bool false,.int .u64 0,.int .i32 0,.int .u64 0,.bool false,.int .i32 0,.slice none 0 0,.string ⟨#[]⟩,.bool false,.int .i32 0,.slice none 0 0,.string ⟨#[]⟩,.slice none 0 0,.int .u32 0,.int .u64 0,.string ⟨#[]⟩] 32 (0,0)):=by rw[←HW9.out];exact setRow_heap _ _ _ _ _ _ Rb3.out
     replace HV:=Lib.hid (ec_upd15 HV.out hu Rb3.out (by show (24:Nat)≠2;decide))
     replace HB:=Lib.hid (HB.out.trans (hu.below HB.out.size (fun k _ hk=>by have hk:k=b3:=hk;have:=HGEnnn.out;omega)))
     replace Rb1:=Lib.hid ((hu.block _ (row_lt Rb1.out) (fun h=>by have h:b1=b3:=h;have:=HGEnnn.out;omega)).trans Rb1.out)
     replace Rb2:=Lib.hid ((hu.block _ (row_lt Rb2.out) (fun h=>by have h:b2=b3:=h;have:=HGEnnn.out;omega)).trans Rb2.out)
     replace Rb3:=Lib.hid (hr)
     replace Rb4:=Lib.hid ((hu.block _ (row_lt Rb4.out) (fun h=>by have h:b4=b3:=h;have:=HGEnnn.out;omega)).trans Rb4.out)
     clear hu hr
     go_wp2_with fail
     (try simp only[Exit.inBlock,Exit.then])
     refine body_cell2v rfl rfl (run_loadVar_row _ b3 32 32 _ (0,0) _ Rb3.out Tryd.underlying32 rfl (by kernel_rfl)) rfl ?_
     exact ⟨HB.out,_,_,rfl,.inr (.inl ⟨HTH.out,.inr ⟨j,HAT.out,.inr (.inr (by rw[HT1.out,HT2.out];exact HNN.out))⟩,HV.out,⟨_,_,rfl⟩,rfl⟩)⟩
    ·
     have HA1:=Lib.hid ha1
     have HA2:=Lib.hid ha2
     have Rb5:Hid (p1.heap[b5]? = some (.cells #[.slice lo2 l2.length lc2,.int .u64 (a1:Int),.int .u64 (t2:Int),.int .u64 (ck:Int),.bool op.1,.int .u64 (op.2:Int),.bool om.1,.int .u64 (om.2:Int),.bool og.1,.int .u64 (og.2:Int),.int .i32 (m0 - (j:Int)),.int .u64 (czc:Int),.bool (gp1||gp2),.int .i32 o1,.slice r1 C1.length n1,.string ⟨#[]⟩,.bool (gn1||gn2),.int .i32 o2,.slice r2 C2.length n2,.string ⟨#[]⟩,.slice eo2 es2.length ec2,.int .u32 (f2:Int),.int .u64 (th2:Int),strV u2] 32 (0,0))):=Lib.hid hrow
     have HN1b:=Lib.hid hn1
     have HN2b:=Lib.hid hn2
     clear ha1 ha2 hrow hn1 hn2
     have HCL:Hid (C1.length≤320∧C2.length≤320):=Lib.hid (by have h1:=aans_len HA1.out;have h2:=aans_len HA2.out;have h3:=HWDS.out;omega)
     have HBP:Hid (Below w.heap.size w p1):=HB
     go_upto_region 20 with fail
     refine wp_region_lit ?_
     refine wpList_load_mid rfl 32 (.tmp 11) rfl b5 0 rfl [.slice lo2 l2.length lc2,.int .u64 (a1:Int),.int .u64 (t2:Int),.int .u64 (ck:Int),.bool op.1,.int .u64 (op.2:Int),.bool om.1,.int .u64 (om.2:Int),.bool og.1,.int .u64 (og.2:Int),.int .i32 (m0 - (j:Int)),.int .u64 (czc:Int),.bool (gp1||gp2),.int .i32 o1,.slice r1 C1.length n1,.string ⟨#[]⟩,.bool (gn1||gn2),.int .i32 o2,.slice r2 C2.length n2,.string ⟨#[]⟩,.slice eo2 es2.length ec2,.int .u32 (f2:Int),.int .u64 (th2:Int),strV u2] _ (range_rowf Rb5.out) Tryd.underlying32 rfl (by kernel_rfl) ?_
     refine wpList_plain rfl (fun K hK=>?_);go_simp
     refine (frexp_any l2 a1 t2 ck op.1 op.2 om.1 om.2 og.1 og.2 (m0 - (j:Int)) czc (gp1||gp2) o1 C1 ⟨#[]⟩ (gn1||gn2) o2 C2 ⟨#[]⟩ es2 f2 th2 u2 lo2 lc2 r1 n1 r2 n2 eo2 ec2 P p1 hw (by have:=HCL.out;omega) (by have:=HCL.out;omega) hes hew (Lib.hid (H0.out.below HBP.out)) HN1b HN2b (Lib.hid (H20.out.below HBP.out))).mono ?_
     rintro E p2 ⟨hb,lo5,lc5,pco5,pcc5,nco5,ncc5,eo5,ec5,rfl,hk5,hp5,hn5,he5⟩
     replace HB:=Lib.hid (below_step HB.out hb)
     replace Rb3:=Lib.hid ((hb.block _ (row_lt Rb3.out)).trans Rb3.out)
     clear hb
     have HK5:=Lib.hid hk5
     have HP5:=Lib.hid hp5
     have HN5b:=Lib.hid hn5
     have HE5:=Lib.hid he5
     clear hk5 hp5 hn5 he5
     go_simp
     refine hK _ _ ?_;clear hK K
     refine wpList_store_row rfl 32 (.tmp 6) (.tmp 96) rfl b3 #[.slice lo5 l2.length lc5,.int .u64 (a1:Int),.int .u64 (t2:Int),.int .u64 (ck:Int),.bool op.1,.int .u64 (op.2:Int),.bool om.1,.int .u64 (om.2:Int),.bool og.1,.int .u64 (og.2:Int),.int .i32 (m0 - (j:Int)),.int .u64 (czc:Int),.bool (gp1||gp2),.int .i32 o1,.slice pco5 C1.length pcc5,.string ⟨#[]⟩,.bool (gn1||gn2),.int .i32 o2,.slice nco5 C2.length ncc5,.string ⟨#[]⟩,.slice eo5 es2.length ec5,.int .u32 (f2:Int),.int .u64 (th2:Int),strV u2] rfl rfl 32 _ Rb3.out (by kernel_rfl) rfl (by simp[Value.oneCell',strV]) ?_
     obtain ⟨p3,HP3⟩:∃ X,Hid (p2.setRow b3 #[.slice lo5 l2.length lc5,.int .u64 (a1:Int),.int .u64 (t2:Int),.int .u64 (ck:Int),.bool op.1,.int .u64 (op.2:Int),.bool om.1,.int .u64 (om.2:Int),.bool og.1,.int .u64 (og.2:Int),.int .i32 (m0 - (j:Int)),.int .u64 (czc:Int),.bool (gp1||gp2),.int .i32 o1,.slice pco5 C1.length pcc5,.string ⟨#[]⟩,.bool (gn1||gn2),.int .i32 o2,.slice nco5 C2.length ncc5,.string ⟨#[]⟩,.slice eo5 es2.length ec5,.int .u32 (f2:Int),.int .u64 (th2:Int),strV u2]=X):=⟨_,Lib.hid rfl⟩
     rw[HP3.out]
     have hu:Upd (fun k=>k=b3) p2 p3:=by rw[←HP3.out];exact upd_setRow _ _ _
     have hr:p3.heap[b3]? = some (.cells #[.slice lo5 l2.length lc5,.int .u64 (a1:Int),.int .u64 (t2:Int),.int .u64 (ck:Int),.bool op.1,.int .u64 (op.2:Int),.bool om.1,.int .u64 (om.2:Int),.bool og.1,.int .u64 (og.2:Int),.int .i32 (m0 - (j:Int)),.int .u64 (czc:Int),.bool (gp1||gp2),.int .i32 o1,.slice pco5 C1.length pcc5,.string ⟨#[]⟩,.bool (gn1||gn2),.int .i32 o2,.slice nco5 C2.length ncc5,.string ⟨#[]⟩,.slice eo5 es2.length ec5,.int .u32 (f2:Int),.int .u64 (th2:Int),strV u2] 32 (0,0)):=by rw[←HP3.out];exact setRow_heap _ _ _ _ _ _ Rb3.out
     have HB6:Hid (Below w.heap.size w p3):=Lib.hid (HB.out.trans (hu.below HB.out.size (fun k _ hk=>by have hk:k=b3:=hk;have:=HGEnnn.out;omega)))
     have HU6:=Lib.hid hu
     have HR6:=Lib.hid hr
     clear hu hr
     go_wp2_with fail
     (try simp only[Exit.inBlock,Exit.then])
     refine body_cell2v rfl rfl (run_loadVar_row _ b3 32 32 _ (0,0) _ HR6.out Tryd.underlying32 rfl (by kernel_rfl)) rfl ?_
     have hpw:∀ k,p1.heap.size≤k→¬k=b3:=fun k hk h=>by have h1:=row_lt Rb5.out;have h2:=HGEnnn.out;omega
     have hpq:∀ k,p1.heap.size≤k→w.heap.size≤k:=fun k hk=>Nat.le_trans HBP.out.size hk
     refine ⟨HB6.out,[.slice lo5 l2.length lc5,.int .u64 (a1:Int),.int .u64 (t2:Int),.int .u64 (ck:Int),.bool op.1,.int .u64 (op.2:Int),.bool om.1,.int .u64 (om.2:Int),.bool og.1,.int .u64 (og.2:Int),.int .i32 (m0 - (j:Int)),.int .u64 (czc:Int),.bool (gp1||gp2),.int .i32 o1,.slice pco5 C1.length pcc5,.string ⟨#[]⟩,.bool (gn1||gn2),.int .i32 o2,.slice nco5 C2.length ncc5,.string ⟨#[]⟩,.slice eo5 es2.length ec5,.int .u32 (f2:Int),.int .u64 (th2:Int),strV u2],_,rfl,.inr (.inr ⟨HTH.out,rfl,j,o1,C1,o2,C2,HAT.out,by rw[HT1.out];exact HA1.out,by rw[HT2.out];exact HA2.out,HNV.out.1,HNV.out.2,?_⟩)⟩
     have hsum:XeSum ((l1,(a1,(t1,(k1,((bp1,vp1),(sc1,(zc1,((gp1,⟨po1,pc1⟩,[]),((gn1,⟨no1,nc1⟩,[]),(f1,(es1,((bm1,vm1),((bg1,vg1),th1))))))))))))),u1) ((l2,(a2,(t2,(k2,((bp2,vp2),(sc2,(zc2,((gp2,⟨po2,pc2⟩,[]),((gn2,⟨no2,nc2⟩,[]),(f2,(es2,((bm2,vm2),((bg2,vg2),th2))))))))))))),u2) j o1 C1 o2 C2=(((l2,(a1,(t2,(ck,((op.1,op.2),(m0 - (j:Int),(czc,((gp1||gp2,⟨o1,C1⟩,[]),((gn1||gn2,⟨o2,C2⟩,[]),(f2,(es2,((om.1,om.2),((og.1,og.2),th2))))))))))))),u2):Xp):=by
      show (((l2,(a1,(t2,(k1+k2,(bothO Fm.add (bp1,vp1) (bp2,vp2),(min sc1 sc2 - j,(zc1+zc2,((gp1||gp2,⟨o1,C1⟩,[]),((gn1||gn2,⟨o2,C2⟩,[]),(f2,(es2,(bothO minF (bm1,vm1) (bm2,vm2),(bothO maxF (bg1,vg1) (bg2,vg2),th2))))))))))))),u2):Xp)=_
      rw[HOop.out,HOom.out,HOog.out,HM0.out,←HKC.out,←HZC.out]
     rw[hsum]
     refine ⟨lo5,lc5,pco5,pcc5,nco5,ncc5,eo5,ec5,rfl,?_,?_,?_,?_⟩
     ·exact KRels.upd HU6.out hpw hpq _ _ _ HK5.out
     ·exact CRels.upd HU6.out hpw hpq HP5.out
     ·exact CRels.upd HU6.out hpw hpq HN5b.out
     ·exact CRels.upd HU6.out hpw hpq HE5.out
 ·
  have dth:((th1:Int) != (th2:Int))=true:=by rw[bne_iff_ne];omega
  have dtn:(th1 != th2)=true:=by rw[bne_iff_ne];exact hth
  have HTH:Hid (decide (th1≠th2)=true):=Lib.hid (decide_eq_true hth)
  replace hth:=Lib.hid hth
  have x22:W.cell? ⟨b1,22,none⟩=some (.int .u64 (th1:Int)):=row_cell Rb1.out (j:=22) rfl
  have y22:W.cell? ⟨b2,22,none⟩=some (.int .u64 (th2:Int)):=row_cell Rb2.out (j:=22) rfl
  go_upto_region 2 with fail
  clear x22 y22 dth dtn
  refine wp_region_lit ?_
  refine wpList_plain rfl (fun K hK=>?_);go_simp;refine hK _ _ ?_;clear hK K
  refine wpList_plain rfl (fun K hK=>?_);go_simp;refine hK _ _ ?_;clear hK K
  refine wpList_plain rfl (fun K hK=>?_);go_simp
  refine (in_any 14 _ _ W).mono ?_;rintro E v1 ⟨rfl,hw1⟩
  have hb:Below W.heap.size W v1:=by rw[hw1];exact below_new _ _
  replace HB:=Lib.hid (below_step HB.out hb)
  replace Rb1:=Lib.hid ((hb.block _ (row_lt Rb1.out)).trans Rb1.out)
  replace Rb2:=Lib.hid ((hb.block _ (row_lt Rb2.out)).trans Rb2.out)
  replace Rb3:=Lib.hid ((hb.block _ (row_lt Rb3.out)).trans Rb3.out)
  have HV:Hid (EC v1 (.iface 97 (.pointer (some ⟨W.heap.size,0,none⟩))) 13):=Lib.hid (by rw[hw1];exact ec_in (n:=14) ⟨[],rfl⟩)
  clear hb hw1
  go_simp
  refine hK _ _ ?_;clear hK K
  refine wpList_store_row rfl 32 (.tmp 6) (.tmp 19) rfl b3 #[.slice none 0 0,.int .u64 0,.int .u64 0,.int .u64 0,.bool false,.int .u64 0,.bool false,.int .u64 0,.bool false,.int .u64 0,.int .i32 0,.int .u64 0,.bool false,.int .i32 0,.slice none 0 0,.string ⟨#[]⟩,.bool false,.int .i32 0,.slice none 0 0,.string ⟨#[]⟩,.slice none 0 0,.int .u32 0,.int .u64 0,.string ⟨#[]⟩] rfl rfl 32 _ Rb3.out (by kernel_rfl) rfl (by simp[Value.oneCell']) ?_
  obtain ⟨v2,HW9⟩:∃ X,Hid (v1.setRow b3 #[.slice none 0 0,.int .u64 0,.int .u64 0,.int .u64 0,.bool false,.int .u64 0,.bool false,.int .u64 0,.bool false,.int .u64 0,.int .i32 0,.int .u64 0,.bool false,.int .i32 0,.slice none 0 0,.string ⟨#[]⟩,.bool false,.int .i32 0,.slice none 0 0,.string ⟨#[]⟩,.slice none 0 0,.int .u32 0,.int .u64 0,.string ⟨#[]⟩]=X):=⟨_,Lib.hid rfl⟩
  rw[HW9.out]
  have hu:Upd (fun k=>k=b3) v1 v2:=by rw[←HW9.out];exact upd_setRow _ _ _
  have hr:v2.heap[b3]? = some (.cells #[.slice none 0 0,.int .u64 0,.int .u64 0,.int .u64 0,.bool false,.int .u64 0,.bool false,.int .u64 0,.bool false,.int .u64 0,.int .i32 0,.int .u64 0,.bool false,.int .i32 0,.slice none 0 0,.string ⟨#[]⟩,.bool false,.int .i32 0,.slice none 0 0,.string ⟨#[]⟩,.slice none 0 0,.int .u32 0,.int .u64 0,.string ⟨#[]⟩] 32 (0,0)):=by rw[←HW9.out];exact setRow_heap _ _ _ _ _ _ Rb3.out
  replace HV:=Lib.hid (ec_upd15 HV.out hu Rb3.out (by show (24:Nat)≠2;decide))
  replace HB:=Lib.hid (HB.out.trans (hu.below HB.out.size (fun k _ hk=>by have hk:k=b3:=hk;have:=HGE.out;omega)))
  replace Rb1:=Lib.hid ((hu.block _ (row_lt Rb1.out) (fun h=>by have h:b1=b3:=h;have:=HGE.out;omega)).trans Rb1.out)
  replace Rb2:=Lib.hid ((hu.block _ (row_lt Rb2.out) (fun h=>by have h:b2=b3:=h;have:=HGE.out;omega)).trans Rb2.out)
  replace Rb3:=Lib.hid (hr)
  clear hu hr
  go_wp2_with fail
  (try simp only[Exit.inBlock,Exit.then])
  refine body_cell2v rfl rfl (run_loadVar_row _ b3 32 32 _ (0,0) _ Rb3.out Tryd.underlying32 rfl (by kernel_rfl)) rfl ?_
  exact ⟨HB.out,_,_,rfl,.inl ⟨HTH.out,HV.out,⟨_,_,rfl⟩,rfl⟩⟩
end Go.Proofs.YtoggpnfeioaidaaDoor
