/-
  hyglaw18.CheckPoints.
-/
import Derived.Test.YtmlghmjjlpioeaaCkRNum
import Derived.Test.YtmlghmjjlpioeaaCkRSum
import Derived.Test.YtmlghmjjlpioeaaCkRHist
import Derived.Test.YtmlghmjjlpioeaaCkRExp
import Derived.Test.YtmlghmjjlpioeaaNuRoom
import Derived.Test.YtmlghmjjlpioeaaXpRoom
import Derived.Test.YtmlghmjjlpioeaaSuRoom
import Derived.Test.YtmlghmjjlpioeaaOrd
set_option maxRecDepth 1000000
set_option maxHeartbeats 16000000
namespace Go.Proofs.Ytmlghmjjlpioeaa
open Go.RowKit
open Lib (hid)
theorem qu20 (x:Qu):20≤quSb.wt x:=by
 obtain ⟨⟨q,v⟩,u⟩:=x
 show 20≤20+u.length
 omega
theorem range_rowc {w:World}{g:Nat}{cs:List Value}{T:TypeId}{fr:Nat × Nat}(h:w.heap[g]? = some (.cells cs.toArray T fr)):w.rangeAt g 0 cs:=fun j v hj=>by
 have:=row_cell h (j:=j) (u:=v) (by simpa using hj)
 simpa using this
theorem seq_load {P:Program} {ops:Array Oper} {Q:Exit→Act→World→Prop} {S:World→Prop} {i:Nat} {r:List (Nat × Bool)} {a:Act} {w:World} (o:Oper) (ho:ops[i]? = some o) (hw:Region.wanted o (yielded ops a.tmps)=true) (ty:TypeId) (x:Operand) (hop:o.op = .load ty x)
  (b:Nat) (hx:a.eval x = .pointer (some ⟨b,0,none⟩)) (cs:List Value) (d:TypeDesc) (hc:∀ t,S t→t.rangeAt b 0 cs) (hu:P.underlying ty=some d) (hd:d.isRow=true) (hi:(P.info? ty).map (·.size)=some cs.length)
  (h:wpSeq P ops Q S r (a.put o.dst (.agg cs.toArray)) w):wpSeq P ops Q S ((i,true)::r) a w :=
 seq_take o ho fun K hK=>⟨.agg cs.toArray,by
  rw[if_pos hw]
  intro t
  unfold execOp
  simp only[hop,hx,Instr.loadAt,Instr.sureAddr,Sem.run_bind,Sem.run_pure,Result.andThen_ok,run_loadVar_mid t.1 b 0 ty cs d (hc _ t.2) hu hd hi],hK _ h⟩
theorem ckp_any (x1:Nu)(c1:List Value)(P1:Nat→Prop)(x2:Hi)(c2:List Value)(P2:Nat→Prop)(x3:Xp)(c3:List Value)(P3:Nat→Prop)(x4:Su)(c4:List Value)(P4:Nat→Prop)(w:World)(ha1:nu_arg x1)(hr1:nuCel.R w P1 x1 c1)(ha2:hi_arg x2)(hr2:hiCel.R w P2 x2 c2)(ha3:xp_arg x3)(hr3:xpCel.R w P3 x3 c3)(ha4:su_arg x4)(hr4:suCel.R w P4 x4 c4) :
  Calls Try.prog 3 #[.agg c1.toArray,.agg c2.toArray,.agg c3.toArray,.agg c4.toArray] w fun e w'=>e = .returned (.bool true)∧Below w.heap.size w w':=by
 obtain ⟨⟨a1,⟨t1,⟨⟨⟨k1,n1⟩,es1⟩,⟨l1,f1⟩⟩⟩⟩,u1⟩:=x1
 have hs:=hr1
 obtain ⟨lo1,lc1,eo1,ec1,rfl,_,_⟩:=hs
 dsimp only[strV] at hr1 ⊢
 obtain ⟨XU1,h⟩:∃ X:ByteArray,(⟨u1.toArray⟩:ByteArray)=X:=⟨_,rfl⟩
 rw[h] at hr1 ⊢
 clear h
 obtain ⟨⟨a2,⟨t2,⟨k2,⟨⟨ph2,pn2⟩,⟨nc2,⟨nb2,⟨es2,⟨l2,⟨f2,⟨⟨mh2,mn2⟩,⟨gh2,gn2⟩⟩⟩⟩⟩⟩⟩⟩⟩⟩⟩,u2⟩:=x2
 have hs:=hr2
 obtain ⟨lo2,lc2,nco2,ncc2,nbo2,nbc2,eo2,ec2,rfl,_,_,_,_⟩:=hs
 dsimp only[strV] at hr2 ⊢
 obtain ⟨XU2,h⟩:∃ X:ByteArray,(⟨u2.toArray⟩:ByteArray)=X:=⟨_,rfl⟩
 rw[h] at hr2 ⊢
 clear h
 obtain ⟨⟨l3,⟨a3,⟨t3,⟨k3,⟨⟨bp3,vp3⟩,⟨sc3,⟨zc3,⟨⟨gp3,pb3,pu3⟩,⟨⟨gn3,nb3,nu3⟩,⟨f3,⟨es3,⟨⟨bm3,vm3⟩,⟨⟨bg3,vg3⟩,th3⟩⟩⟩⟩⟩⟩⟩⟩⟩⟩⟩⟩⟩,u3⟩:=x3
 have hs:=hr3
 obtain ⟨lo3,lc3,po3,pc3,no3,nc3,eo3,ec3,rfl,_,_,_,_⟩:=hs
 dsimp only[strV] at hr3 ⊢
 obtain ⟨Xpu3,h⟩:∃ X:ByteArray,(⟨pu3.toArray⟩:ByteArray)=X:=⟨_,rfl⟩
 rw[h] at hr3 ⊢
 clear h
 obtain ⟨Xnu3,h⟩:∃ X:ByteArray,(⟨nu3.toArray⟩:ByteArray)=X:=⟨_,rfl⟩
 rw[h] at hr3 ⊢
 clear h
 obtain ⟨Xu3,h⟩:∃ X:ByteArray,(⟨u3.toArray⟩:ByteArray)=X:=⟨_,rfl⟩
 rw[h] at hr3 ⊢
 clear h
 obtain ⟨⟨a4,⟨t4,⟨k4,⟨n4,⟨qs4,⟨l4,f4⟩⟩⟩⟩⟩⟩,u4⟩:=x4
 have hs:=hr4
 obtain ⟨lo4,lc4,qo4,qc4,rfl,_,_⟩:=hs
 dsimp only[strV] at hr4 ⊢
 obtain ⟨XU4,h⟩:∃ X:ByteArray,(⟨u4.toArray⟩:ByteArray)=X:=⟨_,rfl⟩
 rw[h] at hr4 ⊢
 clear h
 obtain ⟨W,hW⟩:∃ W,(((w.alloc (.cells #[.slice lo1 l1.length lc1,.int .u64 (a1:Int),.int .u64 (t1:Int),.int .i64 k1,.int .u64 (n1:Int),.slice eo1 es1.length ec1,.int .u32 (f1:Int),.string XU1] 27)).alloc (.cells #[.slice lo2 l2.length lc2,.int .u64 (a2:Int),.int .u64 (t2:Int),.int .u64 (k2:Int),.bool ph2,.int .u64 (pn2:Int),.bool mh2,.int .u64 (mn2:Int),.bool gh2,.int .u64 (gn2:Int),.slice nco2 nc2.length ncc2,.slice nbo2 nb2.length nbc2,.slice eo2 es2.length ec2,.int .u32 (f2:Int),.string XU2] 32)).alloc (.cells #[.slice lo3 l3.length lc3,.int .u64 (a3:Int),.int .u64 (t3:Int),.int .u64 (k3:Int),.bool bp3,.int .u64 (vp3:Int),.bool bm3,.int .u64 (vm3:Int),.bool bg3,.int .u64 (vg3:Int),.int .i32 sc3,.int .u64 (zc3:Int),.bool gp3,.int .i32 pb3.off,.slice po3 pb3.cs.length pc3,.string Xpu3,.bool gn3,.int .i32 nb3.off,.slice no3 nb3.cs.length nc3,.string Xnu3,.slice eo3 es3.length ec3,.int .u32 (f3:Int),.int .u64 (th3:Int),.string Xu3] 36)).alloc (.cells #[.slice lo4 l4.length lc4,.int .u64 (a4:Int),.int .u64 (t4:Int),.int .u64 (k4:Int),.int .u64 (n4:Int),.slice qo4 qs4.length qc4,.int .u32 (f4:Int),.string XU4] 39)=W:=⟨_,rfl⟩
 obtain ⟨b1,hb1⟩:∃ b,w.heap.size=b:=⟨_,rfl⟩
 obtain ⟨b2,hb2⟩:∃ b,w.heap.size+1=b:=⟨_,rfl⟩
 obtain ⟨b3,hb3⟩:∃ b,w.heap.size+2=b:=⟨_,rfl⟩
 obtain ⟨b4,hb4⟩:∃ b,w.heap.size+3=b:=⟨_,rfl⟩
 have HBW:Hid (Below w.heap.size w W):=hid (by rw[←hW];exact below_step (below_step (below_step (below_new _ _) (below_new _ _)) (below_new _ _)) (below_new _ _))
 have HR1:Hid (W.heap[b1]? = some (.cells #[.slice lo1 l1.length lc1,.int .u64 (a1:Int),.int .u64 (t1:Int),.int .i64 k1,.int .u64 (n1:Int),.slice eo1 es1.length ec1,.int .u32 (f1:Int),.string XU1] 27 (0,0))):=hid (by rw[←hW,←hb1];exact (Below.heap_alloc _ _ _ (by first|(simp;done)|(simp;omega))).trans ((Below.heap_alloc _ _ _ (by first|(simp;done)|(simp;omega))).trans ((Below.heap_alloc _ _ _ (by first|(simp;done)|(simp;omega))).trans (heap_alloc_new w _))))
 have HR2:Hid (W.heap[b2]? = some (.cells #[.slice lo2 l2.length lc2,.int .u64 (a2:Int),.int .u64 (t2:Int),.int .u64 (k2:Int),.bool ph2,.int .u64 (pn2:Int),.bool mh2,.int .u64 (mn2:Int),.bool gh2,.int .u64 (gn2:Int),.slice nco2 nc2.length ncc2,.slice nbo2 nb2.length nbc2,.slice eo2 es2.length ec2,.int .u32 (f2:Int),.string XU2] 32 (0,0))):=hid (by rw[←hW,←hb2];exact (Below.heap_alloc _ _ _ (by first|(simp;done)|(simp;omega))).trans ((Below.heap_alloc _ _ _ (by first|(simp;done)|(simp;omega))).trans ((by have h:=heap_alloc_new (w.alloc (.cells #[.slice lo1 l1.length lc1,.int .u64 (a1:Int),.int .u64 (t1:Int),.int .i64 k1,.int .u64 (n1:Int),.slice eo1 es1.length ec1,.int .u32 (f1:Int),.string XU1] 27)) (.cells #[.slice lo2 l2.length lc2,.int .u64 (a2:Int),.int .u64 (t2:Int),.int .u64 (k2:Int),.bool ph2,.int .u64 (pn2:Int),.bool mh2,.int .u64 (mn2:Int),.bool gh2,.int .u64 (gn2:Int),.slice nco2 nc2.length ncc2,.slice nbo2 nb2.length nbc2,.slice eo2 es2.length ec2,.int .u32 (f2:Int),.string XU2] 32);rw[show (w.alloc (.cells #[.slice lo1 l1.length lc1,.int .u64 (a1:Int),.int .u64 (t1:Int),.int .i64 k1,.int .u64 (n1:Int),.slice eo1 es1.length ec1,.int .u32 (f1:Int),.string XU1] 27)).heap.size=w.heap.size+1 by simp] at h;exact h))))
 have HR3:Hid (W.heap[b3]? = some (.cells #[.slice lo3 l3.length lc3,.int .u64 (a3:Int),.int .u64 (t3:Int),.int .u64 (k3:Int),.bool bp3,.int .u64 (vp3:Int),.bool bm3,.int .u64 (vm3:Int),.bool bg3,.int .u64 (vg3:Int),.int .i32 sc3,.int .u64 (zc3:Int),.bool gp3,.int .i32 pb3.off,.slice po3 pb3.cs.length pc3,.string Xpu3,.bool gn3,.int .i32 nb3.off,.slice no3 nb3.cs.length nc3,.string Xnu3,.slice eo3 es3.length ec3,.int .u32 (f3:Int),.int .u64 (th3:Int),.string Xu3] 36 (0,0))):=hid (by rw[←hW,←hb3];exact (Below.heap_alloc _ _ _ (by first|(simp;done)|(simp;omega))).trans ((by have h:=heap_alloc_new ((w.alloc (.cells #[.slice lo1 l1.length lc1,.int .u64 (a1:Int),.int .u64 (t1:Int),.int .i64 k1,.int .u64 (n1:Int),.slice eo1 es1.length ec1,.int .u32 (f1:Int),.string XU1] 27)).alloc (.cells #[.slice lo2 l2.length lc2,.int .u64 (a2:Int),.int .u64 (t2:Int),.int .u64 (k2:Int),.bool ph2,.int .u64 (pn2:Int),.bool mh2,.int .u64 (mn2:Int),.bool gh2,.int .u64 (gn2:Int),.slice nco2 nc2.length ncc2,.slice nbo2 nb2.length nbc2,.slice eo2 es2.length ec2,.int .u32 (f2:Int),.string XU2] 32)) (.cells #[.slice lo3 l3.length lc3,.int .u64 (a3:Int),.int .u64 (t3:Int),.int .u64 (k3:Int),.bool bp3,.int .u64 (vp3:Int),.bool bm3,.int .u64 (vm3:Int),.bool bg3,.int .u64 (vg3:Int),.int .i32 sc3,.int .u64 (zc3:Int),.bool gp3,.int .i32 pb3.off,.slice po3 pb3.cs.length pc3,.string Xpu3,.bool gn3,.int .i32 nb3.off,.slice no3 nb3.cs.length nc3,.string Xnu3,.slice eo3 es3.length ec3,.int .u32 (f3:Int),.int .u64 (th3:Int),.string Xu3] 36);rw[show ((w.alloc (.cells #[.slice lo1 l1.length lc1,.int .u64 (a1:Int),.int .u64 (t1:Int),.int .i64 k1,.int .u64 (n1:Int),.slice eo1 es1.length ec1,.int .u32 (f1:Int),.string XU1] 27)).alloc (.cells #[.slice lo2 l2.length lc2,.int .u64 (a2:Int),.int .u64 (t2:Int),.int .u64 (k2:Int),.bool ph2,.int .u64 (pn2:Int),.bool mh2,.int .u64 (mn2:Int),.bool gh2,.int .u64 (gn2:Int),.slice nco2 nc2.length ncc2,.slice nbo2 nb2.length nbc2,.slice eo2 es2.length ec2,.int .u32 (f2:Int),.string XU2] 32)).heap.size=w.heap.size+2 by simp] at h;exact h)))
 have HR4:Hid (W.heap[b4]? = some (.cells #[.slice lo4 l4.length lc4,.int .u64 (a4:Int),.int .u64 (t4:Int),.int .u64 (k4:Int),.int .u64 (n4:Int),.slice qo4 qs4.length qc4,.int .u32 (f4:Int),.string XU4] 39 (0,0))):=hid (by rw[←hW,←hb4];exact (by have h:=heap_alloc_new (((w.alloc (.cells #[.slice lo1 l1.length lc1,.int .u64 (a1:Int),.int .u64 (t1:Int),.int .i64 k1,.int .u64 (n1:Int),.slice eo1 es1.length ec1,.int .u32 (f1:Int),.string XU1] 27)).alloc (.cells #[.slice lo2 l2.length lc2,.int .u64 (a2:Int),.int .u64 (t2:Int),.int .u64 (k2:Int),.bool ph2,.int .u64 (pn2:Int),.bool mh2,.int .u64 (mn2:Int),.bool gh2,.int .u64 (gn2:Int),.slice nco2 nc2.length ncc2,.slice nbo2 nb2.length nbc2,.slice eo2 es2.length ec2,.int .u32 (f2:Int),.string XU2] 32)).alloc (.cells #[.slice lo3 l3.length lc3,.int .u64 (a3:Int),.int .u64 (t3:Int),.int .u64 (k3:Int),.bool bp3,.int .u64 (vp3:Int),.bool bm3,.int .u64 (vm3:Int),.bool bg3,.int .u64 (vg3:Int),.int .i32 sc3,.int .u64 (zc3:Int),.bool gp3,.int .i32 pb3.off,.slice po3 pb3.cs.length pc3,.string Xpu3,.bool gn3,.int .i32 nb3.off,.slice no3 nb3.cs.length nc3,.string Xnu3,.slice eo3 es3.length ec3,.int .u32 (f3:Int),.int .u64 (th3:Int),.string Xu3] 36)) (.cells #[.slice lo4 l4.length lc4,.int .u64 (a4:Int),.int .u64 (t4:Int),.int .u64 (k4:Int),.int .u64 (n4:Int),.slice qo4 qs4.length qc4,.int .u32 (f4:Int),.string XU4] 39);rw[show (((w.alloc (.cells #[.slice lo1 l1.length lc1,.int .u64 (a1:Int),.int .u64 (t1:Int),.int .i64 k1,.int .u64 (n1:Int),.slice eo1 es1.length ec1,.int .u32 (f1:Int),.string XU1] 27)).alloc (.cells #[.slice lo2 l2.length lc2,.int .u64 (a2:Int),.int .u64 (t2:Int),.int .u64 (k2:Int),.bool ph2,.int .u64 (pn2:Int),.bool mh2,.int .u64 (mn2:Int),.bool gh2,.int .u64 (gn2:Int),.slice nco2 nc2.length ncc2,.slice nbo2 nb2.length nbc2,.slice eo2 es2.length ec2,.int .u32 (f2:Int),.string XU2] 32)).alloc (.cells #[.slice lo3 l3.length lc3,.int .u64 (a3:Int),.int .u64 (t3:Int),.int .u64 (k3:Int),.bool bp3,.int .u64 (vp3:Int),.bool bm3,.int .u64 (vm3:Int),.bool bg3,.int .u64 (vg3:Int),.int .i32 sc3,.int .u64 (zc3:Int),.bool gp3,.int .i32 pb3.off,.slice po3 pb3.cs.length pc3,.string Xpu3,.bool gn3,.int .i32 nb3.off,.slice no3 nb3.cs.length nc3,.string Xnu3,.slice eo3 es3.length ec3,.int .u32 (f3:Int),.int .u64 (th3:Int),.string Xu3] 36)).heap.size=w.heap.size+3 by simp] at h;exact h))
 have HA1:=hid ha1
 have HL1:=hid (nuCel.upd (Upd.of_new (S:=fun _=>False) HBW.out) (fun _ _ h=>h) (fun _ h=>h) hr1)
 have HB1:=hid hb1
 have HA2:=hid ha2
 have HL2:=hid (hiCel.upd (Upd.of_new (S:=fun _=>False) HBW.out) (fun _ _ h=>h) (fun _ h=>h) hr2)
 have HB2:=hid hb2
 have HA3:=hid ha3
 have HL3:=hid (xpCel.upd (Upd.of_new (S:=fun _=>False) HBW.out) (fun _ _ h=>h) (fun _ h=>h) hr3)
 have HB3:=hid hb3
 have HA4:=hid ha4
 have HL4:=hid (suCel.upd (Upd.of_new (S:=fun _=>False) HBW.out) (fun _ _ h=>h) (fun _ h=>h) hr4)
 have HB4:=hid hb4
 have HW:=hid hW
 clear hW ha1 hr1 hb1 ha2 hr2 hb2 ha3 hr3 hb3 ha4 hr4 hb4
 go_enter Try.func3,Try.ntmps3
 go_upto_region 1 with fail
 rw[HW.out,HB4.out,HB3.out,HB2.out,HB1.out]
 go_wp2_with fail
 refine (first18 W).mono ?_;rintro e w1 ⟨rfl,hb⟩
 have HV1:Hid (Below W.heap.size W w1):=hid hb
 clear hb HW HB1 HB2 HB3 HB4
 go_upto_region 3 with fail
 refine wp_region_lit ?_
 refine wpList_plain rfl (fun K hK=>?_)
 refine wp_load_mid 27 (.tmp 4) rfl b1 0 rfl [.slice lo1 l1.length lc1,.int .u64 (a1:Int),.int .u64 (t1:Int),.int .i64 k1,.int .u64 (n1:Int),.slice eo1 es1.length ec1,.int .u32 (f1:Int),.string XU1] _ (range_rowc ((HV1.out.block _ (row_lt HR1.out)).trans HR1.out)) Try.underlying27 rfl (by kernel_rfl) (hK _ _ ?_)
 clear hK K
 refine wpList_plain rfl (fun K hK=>?_);go_simp
 refine (nu_room ((a1,(t1,(((k1,n1),es1),(l1,f1)))),u1) [.slice lo1 l1.length lc1,.int .u64 (a1:Int),.int .u64 (t1:Int),.int .i64 k1,.int .u64 (n1:Int),.slice eo1 es1.length ec1,.int .u32 (f1:Int),.string XU1] _ w1 12000 HA1.out (nuCel.upd (Upd.of_new (S:=fun _=>False) HV1.out) (fun _ _ h=>h) (fun _ h=>h) HL1.out) (by omega)).mono ?_;rintro e w2 hpost
 obtain ⟨hb,s1,rfl,HRM1⟩:=hpost
 have HV2:Hid (Below W.heap.size W w2):=hid (below_step HV1.out hb)
 clear hb
 refine hK _ _ ?_;clear hK K
 by_cases hneg:s1<0
 case pos =>
  have d1:decide (s1<0)=true:=decide_eq_true hneg
  clear hneg
  go_wp2_with fail
  refine (first18 w2).mono ?_;rintro e w9 ⟨rfl,hb⟩
  have HV9:Hid (Below W.heap.size W w9):=hid (below_step HV2.out hb)
  clear hb
  go_wp2_with fail
  go_ret
  exact ⟨rfl,HBW.out.trans (HV9.out.mono HBW.out.size)⟩
 have d1:decide (s1<0)=false:=decide_eq_false hneg
 have HSM1:=hid (by have h:=HRM1.out;have h2:=ksw_len l1;unfold RoomOk at h;have h3:nu_wt ((a1,(t1,(((k1,n1),es1),(l1,f1)))),u1)=20+(lwt exSb es1+ksw l1+u1.length):=rfl;show l1.length≤1000000;omega)
 clear hneg HRM1
 refine wpList_plain rfl (fun K hK=>?_);go_simp;refine hK _ _ ?_;clear hK K
 refine wpList_plain rfl (fun K hK=>?_);go_simp;refine hK _ _ ?_;clear hK K
 refine BigFrame.wpList_want (by rfl) (fun K hK=>?_)
 refine wp_load_mid 32 (.tmp 5) rfl b2 0 rfl [.slice lo2 l2.length lc2,.int .u64 (a2:Int),.int .u64 (t2:Int),.int .u64 (k2:Int),.bool ph2,.int .u64 (pn2:Int),.bool mh2,.int .u64 (mn2:Int),.bool gh2,.int .u64 (gn2:Int),.slice nco2 nc2.length ncc2,.slice nbo2 nb2.length nbc2,.slice eo2 es2.length ec2,.int .u32 (f2:Int),.string XU2] _ (range_rowc ((HV2.out.block _ (row_lt HR2.out)).trans HR2.out)) Try.underlying32 rfl (by kernel_rfl) (hK _ _ ?_)
 clear hK K
 refine BigFrame.wpList_want (by rfl) (fun K hK=>?_);go_simp
 refine (hi_room ((a2,(t2,(k2,((ph2,pn2),(nc2,(nb2,(es2,(l2,(f2,((mh2,mn2),(gh2,gn2))))))))))),u2) [.slice lo2 l2.length lc2,.int .u64 (a2:Int),.int .u64 (t2:Int),.int .u64 (k2:Int),.bool ph2,.int .u64 (pn2:Int),.bool mh2,.int .u64 (mn2:Int),.bool gh2,.int .u64 (gn2:Int),.slice nco2 nc2.length ncc2,.slice nbo2 nb2.length nbc2,.slice eo2 es2.length ec2,.int .u32 (f2:Int),.string XU2] _ w2 12000 HA2.out (hiCel.upd (Upd.of_new (S:=fun _=>False) HV2.out) (fun _ _ h=>h) (fun _ h=>h) HL2.out) (by omega)).mono ?_;rintro e w3 hpost
 obtain ⟨hb,s2,rfl,HRM2⟩:=hpost
 have HV3:Hid (Below W.heap.size W w3):=hid (below_step HV2.out hb)
 clear hb
 refine hK _ _ ?_;clear hK K
 by_cases hneg:s2<0
 case pos =>
  have d1:decide (s2<0)=true:=decide_eq_true hneg
  clear hneg
  go_wp2_with fail
  refine (first18 w3).mono ?_;rintro e w9 ⟨rfl,hb⟩
  have HV9:Hid (Below W.heap.size W w9):=hid (below_step HV3.out hb)
  clear hb
  go_wp2_with fail
  go_ret
  exact ⟨rfl,HBW.out.trans (HV9.out.mono HBW.out.size)⟩
 have d2:decide (s2<0)=false:=decide_eq_false hneg
 have HSM2:=hid (by have h:=HRM2.out;have h2:=ksw_len l2;unfold RoomOk at h;have h3:hi_wt ((a2,(t2,(k2,((ph2,pn2),(nc2,(nb2,(es2,(l2,(f2,((mh2,mn2),(gh2,gn2))))))))))),u2)=60+(8 * nc2.length+8 * nb2.length+lwt exSb es2+ksw l2+u2.length):=rfl;show nc2.length≤1000000∧nb2.length≤1000000∧l2.length≤1000000;omega)
 clear hneg HRM2
 refine BigFrame.wpList_want (by rfl) (fun K hK=>?_);go_simp;refine hK _ _ ?_;clear hK K
 refine wpList_plain rfl (fun K hK=>?_);go_simp;refine hK _ _ ?_;clear hK K
 refine wpList_plain rfl (fun K hK=>?_);go_simp;refine hK _ _ ?_;clear hK K
 refine BigFrame.wpList_want (by rfl) (fun K hK=>?_)
 refine wp_load_mid 36 (.tmp 6) rfl b3 0 rfl [.slice lo3 l3.length lc3,.int .u64 (a3:Int),.int .u64 (t3:Int),.int .u64 (k3:Int),.bool bp3,.int .u64 (vp3:Int),.bool bm3,.int .u64 (vm3:Int),.bool bg3,.int .u64 (vg3:Int),.int .i32 sc3,.int .u64 (zc3:Int),.bool gp3,.int .i32 pb3.off,.slice po3 pb3.cs.length pc3,.string Xpu3,.bool gn3,.int .i32 nb3.off,.slice no3 nb3.cs.length nc3,.string Xnu3,.slice eo3 es3.length ec3,.int .u32 (f3:Int),.int .u64 (th3:Int),.string Xu3] _ (range_rowc ((HV3.out.block _ (row_lt HR3.out)).trans HR3.out)) Try.underlying36 rfl (by kernel_rfl) (hK _ _ ?_)
 clear hK K
 refine BigFrame.wpList_want (by rfl) (fun K hK=>?_);go_simp
 refine (xp_room ((l3,(a3,(t3,(k3,((bp3,vp3),(sc3,(zc3,((gp3,pb3,pu3),((gn3,nb3,nu3),(f3,(es3,((bm3,vm3),((bg3,vg3),th3))))))))))))),u3) [.slice lo3 l3.length lc3,.int .u64 (a3:Int),.int .u64 (t3:Int),.int .u64 (k3:Int),.bool bp3,.int .u64 (vp3:Int),.bool bm3,.int .u64 (vm3:Int),.bool bg3,.int .u64 (vg3:Int),.int .i32 sc3,.int .u64 (zc3:Int),.bool gp3,.int .i32 pb3.off,.slice po3 pb3.cs.length pc3,.string Xpu3,.bool gn3,.int .i32 nb3.off,.slice no3 nb3.cs.length nc3,.string Xnu3,.slice eo3 es3.length ec3,.int .u32 (f3:Int),.int .u64 (th3:Int),.string Xu3] _ w3 12000 HA3.out (xpCel.upd (Upd.of_new (S:=fun _=>False) HV3.out) (fun _ _ h=>h) (fun _ h=>h) HL3.out) (by omega)).mono ?_;rintro e w4 hpost
 obtain ⟨hb,s3,rfl,HRM3⟩:=hpost
 have HV4:Hid (Below W.heap.size W w4):=hid (below_step HV3.out hb)
 clear hb
 refine hK _ _ ?_;clear hK K
 by_cases hneg:s3<0
 case pos =>
  have d1:decide (s3<0)=true:=decide_eq_true hneg
  clear hneg
  go_wp2_with fail
  refine (first18 w4).mono ?_;rintro e w9 ⟨rfl,hb⟩
  have HV9:Hid (Below W.heap.size W w9):=hid (below_step HV4.out hb)
  clear hb
  go_wp2_with fail
  go_ret
  exact ⟨rfl,HBW.out.trans (HV9.out.mono HBW.out.size)⟩
 have d3:decide (s3<0)=false:=decide_eq_false hneg
 have HSM3:=hid (by have h:=HRM3.out;have h2:=ksw_len l3;unfold RoomOk at h;have h3:xp_rw ((l3,(a3,(t3,(k3,((bp3,vp3),(sc3,(zc3,((gp3,pb3,pu3),((gn3,nb3,nu3),(f3,(es3,((bm3,vm3),((bg3,vg3),th3))))))))))))),u3)=100+(8 * min pb3.cs.length 100000+pu3.length+(8 * min nb3.cs.length 100000+nu3.length)+ksw l3+lwt exSb es3+u3.length):=rfl;show l3.length≤1000000∧pb3.cs.length≤1000000∧nb3.cs.length≤1000000;omega)
 clear hneg HRM3
 refine BigFrame.wpList_want (by rfl) (fun K hK=>?_);go_simp;refine hK _ _ ?_;clear hK K
 refine wpList_plain rfl (fun K hK=>?_);go_simp;refine hK _ _ ?_;clear hK K
 refine wpList_plain rfl (fun K hK=>?_);go_simp;refine hK _ _ ?_;clear hK K
 refine BigFrame.wpList_want (by rfl) (fun K hK=>?_)
 refine wp_load_mid 39 (.tmp 7) rfl b4 0 rfl [.slice lo4 l4.length lc4,.int .u64 (a4:Int),.int .u64 (t4:Int),.int .u64 (k4:Int),.int .u64 (n4:Int),.slice qo4 qs4.length qc4,.int .u32 (f4:Int),.string XU4] _ (range_rowc ((HV4.out.block _ (row_lt HR4.out)).trans HR4.out)) Try.underlying39 rfl (by kernel_rfl) (hK _ _ ?_)
 clear hK K
 refine BigFrame.wpList_want (by rfl) (fun K hK=>?_);go_simp
 refine (su_room ((a4,(t4,(k4,(n4,(qs4,(l4,f4)))))),u4) [.slice lo4 l4.length lc4,.int .u64 (a4:Int),.int .u64 (t4:Int),.int .u64 (k4:Int),.int .u64 (n4:Int),.slice qo4 qs4.length qc4,.int .u32 (f4:Int),.string XU4] _ w4 12000 HA4.out (suCel.upd (Upd.of_new (S:=fun _=>False) HV4.out) (fun _ _ h=>h) (fun _ h=>h) HL4.out) (by omega)).mono ?_;rintro e w5 hpost
 obtain ⟨hb,s4,rfl,HRM4⟩:=hpost
 have HV5:Hid (Below W.heap.size W w5):=hid (below_step HV4.out hb)
 clear hb
 refine hK _ _ ?_;clear hK K
 by_cases hneg:s4<0
 case pos =>
  have d1:decide (s4<0)=true:=decide_eq_true hneg
  clear hneg
  go_wp2_with fail
  refine (first18 w5).mono ?_;rintro e w9 ⟨rfl,hb⟩
  have HV9:Hid (Below W.heap.size W w9):=hid (below_step HV5.out hb)
  clear hb
  go_wp2_with fail
  go_ret
  exact ⟨rfl,HBW.out.trans (HV9.out.mono HBW.out.size)⟩
 have d4:decide (s4<0)=false:=decide_eq_false hneg
 have HSM4:=hid (by have h:=HRM4.out;have h2:=ksw_len l4;have h4:=lwt_len qu20 qs4;unfold RoomOk at h;have h3:su_wt ((a4,(t4,(k4,(n4,(qs4,(l4,f4)))))),u4)=20+(lwt quSb qs4+ksw l4+u4.length):=rfl;show l4.length≤1000000∧qs4.length≤1000000;omega)
 clear hneg HRM4
 skip
 go_upto_region 5 with fail
 obtain ⟨D,hD⟩:∃ D,w5.drew=D:=⟨_,rfl⟩
 have HV6:Hid (Below W.heap.size W D):=hid (by rw[←hD];exact HV5.out.trans ((Below.refl _ _).drew.mono HV5.out.size))
 refine wp_region_seq (S:=fun w'=>Below W.heap.size W w') [(0,false),(1,true),(2,true),(4,true),(3,false),(5,false),(6,true),(7,true),(8,true),(9,true),(11,true),(10,false),(12,false),(13,true),(14,true),(15,true),(16,true),(18,true),(17,false),(19,false),(20,true),(21,true),(22,true),(23,true),(25,true),(24,false),(26,false),(27,true),(28,true),(29,true)] (by kernel_rfl) (by kernel_rfl) (by kernel_rfl) (by kernel_rfl) (by rw[hD];exact HV6.out) ?_
 rw[hD]
 clear hD
 have hne:Nonempty { w':World // Below W.heap.size W w' }:=⟨⟨_,HV6.out⟩⟩
 refine seq_come _ rfl (fun KC hK=>?_);go_simp
 refine (first18 D).mono ?_;rintro e v7 ⟨rfl,hb⟩
 have HV7:Hid (Below W.heap.size W v7):=hid (below_step HV6.out hb)
 clear hb
 go_simp;refine hK.out _ _ HV7.out ?_;clear hK KC
 iterate 1 (refine seq_take _ rfl (fun KC hK=>?_);go_simp;(first|refine hK _ ?_|refine ⟨_,fun _ _=>rfl,hK _ ?_⟩|refine ⟨undef,by first|rfl|simp,hK _ ?_⟩);clear hK KC)
 refine seq_load _ rfl (by rfl) 27 (.tmp 4) rfl b1 rfl [.slice lo1 l1.length lc1,.int .u64 (a1:Int),.int .u64 (t1:Int),.int .i64 k1,.int .u64 (n1:Int),.slice eo1 es1.length ec1,.int .u32 (f1:Int),.string XU1] _ (fun t ht=>range_rowc ((ht.block _ (row_lt HR1.out)).trans HR1.out)) Try.underlying27 rfl (by kernel_rfl) ?_
 refine seq_load _ rfl (by rfl) 27 (.tmp 4) rfl b1 rfl [.slice lo1 l1.length lc1,.int .u64 (a1:Int),.int .u64 (t1:Int),.int .i64 k1,.int .u64 (n1:Int),.slice eo1 es1.length ec1,.int .u32 (f1:Int),.string XU1] _ (fun t ht=>range_rowc ((ht.block _ (row_lt HR1.out)).trans HR1.out)) Try.underlying27 rfl (by kernel_rfl) ?_
 obtain ⟨r1,HG1⟩:∃ r,Hid (numR ((a1,(t1,(((k1,n1),es1),(l1,f1)))),u1)=r):=⟨_,hid rfl⟩
 refine seq_come _ rfl (fun KC hK=>?_);go_simp
 refine (num_any ((a1,(t1,(((k1,n1),es1),(l1,f1)))),u1) [.slice lo1 l1.length lc1,.int .u64 (a1:Int),.int .u64 (t1:Int),.int .i64 k1,.int .u64 (n1:Int),.slice eo1 es1.length ec1,.int .u32 (f1:Int),.string XU1] _ v7 HA1.out (nuCel.upd (Upd.of_new (S:=fun _=>False) HV7.out) (fun _ _ h=>h) (fun _ h=>h) HL1.out) HSM1.out HG1).mono ?_;rintro e v8 ⟨rfl,hb⟩
 have HV8:Hid (Below W.heap.size W v8):=hid (below_step HV7.out hb)
 clear hb
 go_simp;refine hK.out _ _ HV8.out ?_;clear hK KC
 refine seq_come _ rfl (fun KC hK=>?_);go_simp
 refine (rnum_any ((a1,(t1,(((k1,n1),es1),(l1,f1)))),u1) [.slice lo1 l1.length lc1,.int .u64 (a1:Int),.int .u64 (t1:Int),.int .i64 k1,.int .u64 (n1:Int),.slice eo1 es1.length ec1,.int .u32 (f1:Int),.string XU1] _ v8 HA1.out (nuCel.upd (Upd.of_new (S:=fun _=>False) HV8.out) (fun _ _ h=>h) (fun _ h=>h) HL1.out) HSM1.out HG1).mono ?_;rintro e v9 ⟨rfl,hb⟩
 have HV9:Hid (Below W.heap.size W v9):=hid (below_step HV8.out hb)
 clear hb
 go_simp;refine hK.out _ _ HV9.out ?_;clear hK KC
 iterate 3 (refine seq_take _ rfl (fun KC hK=>?_);go_simp;(first|refine hK _ ?_|refine ⟨_,fun _ _=>rfl,hK _ ?_⟩|refine ⟨undef,by first|rfl|simp,hK _ ?_⟩);clear hK KC)
 refine seq_load _ rfl (by rfl) 32 (.tmp 5) rfl b2 rfl [.slice lo2 l2.length lc2,.int .u64 (a2:Int),.int .u64 (t2:Int),.int .u64 (k2:Int),.bool ph2,.int .u64 (pn2:Int),.bool mh2,.int .u64 (mn2:Int),.bool gh2,.int .u64 (gn2:Int),.slice nco2 nc2.length ncc2,.slice nbo2 nb2.length nbc2,.slice eo2 es2.length ec2,.int .u32 (f2:Int),.string XU2] _ (fun t ht=>range_rowc ((ht.block _ (row_lt HR2.out)).trans HR2.out)) Try.underlying32 rfl (by kernel_rfl) ?_
 refine seq_load _ rfl (by rfl) 32 (.tmp 5) rfl b2 rfl [.slice lo2 l2.length lc2,.int .u64 (a2:Int),.int .u64 (t2:Int),.int .u64 (k2:Int),.bool ph2,.int .u64 (pn2:Int),.bool mh2,.int .u64 (mn2:Int),.bool gh2,.int .u64 (gn2:Int),.slice nco2 nc2.length ncc2,.slice nbo2 nb2.length nbc2,.slice eo2 es2.length ec2,.int .u32 (f2:Int),.string XU2] _ (fun t ht=>range_rowc ((ht.block _ (row_lt HR2.out)).trans HR2.out)) Try.underlying32 rfl (by kernel_rfl) ?_
 obtain ⟨r2,HG2⟩:∃ r,Hid (histR ((a2,(t2,(k2,((ph2,pn2),(nc2,(nb2,(es2,(l2,(f2,((mh2,mn2),(gh2,gn2))))))))))),u2)=r):=⟨_,hid rfl⟩
 refine seq_come _ rfl (fun KC hK=>?_);go_simp
 refine (hist_any ((a2,(t2,(k2,((ph2,pn2),(nc2,(nb2,(es2,(l2,(f2,((mh2,mn2),(gh2,gn2))))))))))),u2) [.slice lo2 l2.length lc2,.int .u64 (a2:Int),.int .u64 (t2:Int),.int .u64 (k2:Int),.bool ph2,.int .u64 (pn2:Int),.bool mh2,.int .u64 (mn2:Int),.bool gh2,.int .u64 (gn2:Int),.slice nco2 nc2.length ncc2,.slice nbo2 nb2.length nbc2,.slice eo2 es2.length ec2,.int .u32 (f2:Int),.string XU2] _ v9 HA2.out (hiCel.upd (Upd.of_new (S:=fun _=>False) HV9.out) (fun _ _ h=>h) (fun _ h=>h) HL2.out) HSM2.out HG2).mono ?_;rintro e v10 ⟨rfl,hb⟩
 have HV10:Hid (Below W.heap.size W v10):=hid (below_step HV9.out hb)
 clear hb
 go_simp;refine hK.out _ _ HV10.out ?_;clear hK KC
 refine seq_come _ rfl (fun KC hK=>?_);go_simp
 refine (rhist_any ((a2,(t2,(k2,((ph2,pn2),(nc2,(nb2,(es2,(l2,(f2,((mh2,mn2),(gh2,gn2))))))))))),u2) [.slice lo2 l2.length lc2,.int .u64 (a2:Int),.int .u64 (t2:Int),.int .u64 (k2:Int),.bool ph2,.int .u64 (pn2:Int),.bool mh2,.int .u64 (mn2:Int),.bool gh2,.int .u64 (gn2:Int),.slice nco2 nc2.length ncc2,.slice nbo2 nb2.length nbc2,.slice eo2 es2.length ec2,.int .u32 (f2:Int),.string XU2] _ v10 HA2.out (hiCel.upd (Upd.of_new (S:=fun _=>False) HV10.out) (fun _ _ h=>h) (fun _ h=>h) HL2.out) HSM2.out HG2).mono ?_;rintro e v11 ⟨rfl,hb⟩
 have HV11:Hid (Below W.heap.size W v11):=hid (below_step HV10.out hb)
 clear hb
 go_simp;refine hK.out _ _ HV11.out ?_;clear hK KC
 iterate 3 (refine seq_take _ rfl (fun KC hK=>?_);go_simp;(first|refine hK _ ?_|refine ⟨_,fun _ _=>rfl,hK _ ?_⟩|refine ⟨undef,by first|rfl|simp,hK _ ?_⟩);clear hK KC)
 refine seq_load _ rfl (by rfl) 36 (.tmp 6) rfl b3 rfl [.slice lo3 l3.length lc3,.int .u64 (a3:Int),.int .u64 (t3:Int),.int .u64 (k3:Int),.bool bp3,.int .u64 (vp3:Int),.bool bm3,.int .u64 (vm3:Int),.bool bg3,.int .u64 (vg3:Int),.int .i32 sc3,.int .u64 (zc3:Int),.bool gp3,.int .i32 pb3.off,.slice po3 pb3.cs.length pc3,.string Xpu3,.bool gn3,.int .i32 nb3.off,.slice no3 nb3.cs.length nc3,.string Xnu3,.slice eo3 es3.length ec3,.int .u32 (f3:Int),.int .u64 (th3:Int),.string Xu3] _ (fun t ht=>range_rowc ((ht.block _ (row_lt HR3.out)).trans HR3.out)) Try.underlying36 rfl (by kernel_rfl) ?_
 refine seq_load _ rfl (by rfl) 36 (.tmp 6) rfl b3 rfl [.slice lo3 l3.length lc3,.int .u64 (a3:Int),.int .u64 (t3:Int),.int .u64 (k3:Int),.bool bp3,.int .u64 (vp3:Int),.bool bm3,.int .u64 (vm3:Int),.bool bg3,.int .u64 (vg3:Int),.int .i32 sc3,.int .u64 (zc3:Int),.bool gp3,.int .i32 pb3.off,.slice po3 pb3.cs.length pc3,.string Xpu3,.bool gn3,.int .i32 nb3.off,.slice no3 nb3.cs.length nc3,.string Xnu3,.slice eo3 es3.length ec3,.int .u32 (f3:Int),.int .u64 (th3:Int),.string Xu3] _ (fun t ht=>range_rowc ((ht.block _ (row_lt HR3.out)).trans HR3.out)) Try.underlying36 rfl (by kernel_rfl) ?_
 obtain ⟨r3,HG3⟩:∃ r,Hid (expR ((l3,(a3,(t3,(k3,((bp3,vp3),(sc3,(zc3,((gp3,pb3,pu3),((gn3,nb3,nu3),(f3,(es3,((bm3,vm3),((bg3,vg3),th3))))))))))))),u3)=r):=⟨_,hid rfl⟩
 refine seq_come _ rfl (fun KC hK=>?_);go_simp
 refine (exp_any ((l3,(a3,(t3,(k3,((bp3,vp3),(sc3,(zc3,((gp3,pb3,pu3),((gn3,nb3,nu3),(f3,(es3,((bm3,vm3),((bg3,vg3),th3))))))))))))),u3) [.slice lo3 l3.length lc3,.int .u64 (a3:Int),.int .u64 (t3:Int),.int .u64 (k3:Int),.bool bp3,.int .u64 (vp3:Int),.bool bm3,.int .u64 (vm3:Int),.bool bg3,.int .u64 (vg3:Int),.int .i32 sc3,.int .u64 (zc3:Int),.bool gp3,.int .i32 pb3.off,.slice po3 pb3.cs.length pc3,.string Xpu3,.bool gn3,.int .i32 nb3.off,.slice no3 nb3.cs.length nc3,.string Xnu3,.slice eo3 es3.length ec3,.int .u32 (f3:Int),.int .u64 (th3:Int),.string Xu3] _ v11 HA3.out (xpCel.upd (Upd.of_new (S:=fun _=>False) HV11.out) (fun _ _ h=>h) (fun _ h=>h) HL3.out) HSM3.out HG3).mono ?_;rintro e v12 ⟨rfl,hb⟩
 have HV12:Hid (Below W.heap.size W v12):=hid (below_step HV11.out hb)
 clear hb
 go_simp;refine hK.out _ _ HV12.out ?_;clear hK KC
 refine seq_come _ rfl (fun KC hK=>?_);go_simp
 refine (rexp_any ((l3,(a3,(t3,(k3,((bp3,vp3),(sc3,(zc3,((gp3,pb3,pu3),((gn3,nb3,nu3),(f3,(es3,((bm3,vm3),((bg3,vg3),th3))))))))))))),u3) [.slice lo3 l3.length lc3,.int .u64 (a3:Int),.int .u64 (t3:Int),.int .u64 (k3:Int),.bool bp3,.int .u64 (vp3:Int),.bool bm3,.int .u64 (vm3:Int),.bool bg3,.int .u64 (vg3:Int),.int .i32 sc3,.int .u64 (zc3:Int),.bool gp3,.int .i32 pb3.off,.slice po3 pb3.cs.length pc3,.string Xpu3,.bool gn3,.int .i32 nb3.off,.slice no3 nb3.cs.length nc3,.string Xnu3,.slice eo3 es3.length ec3,.int .u32 (f3:Int),.int .u64 (th3:Int),.string Xu3] _ v12 HA3.out (xpCel.upd (Upd.of_new (S:=fun _=>False) HV12.out) (fun _ _ h=>h) (fun _ h=>h) HL3.out) HSM3.out HG3).mono ?_;rintro e v13 ⟨rfl,hb⟩
 have HV13:Hid (Below W.heap.size W v13):=hid (below_step HV12.out hb)
 clear hb
 go_simp;refine hK.out _ _ HV13.out ?_;clear hK KC
 iterate 3 (refine seq_take _ rfl (fun KC hK=>?_);go_simp;(first|refine hK _ ?_|refine ⟨_,fun _ _=>rfl,hK _ ?_⟩|refine ⟨undef,by first|rfl|simp,hK _ ?_⟩);clear hK KC)
 refine seq_load _ rfl (by rfl) 39 (.tmp 7) rfl b4 rfl [.slice lo4 l4.length lc4,.int .u64 (a4:Int),.int .u64 (t4:Int),.int .u64 (k4:Int),.int .u64 (n4:Int),.slice qo4 qs4.length qc4,.int .u32 (f4:Int),.string XU4] _ (fun t ht=>range_rowc ((ht.block _ (row_lt HR4.out)).trans HR4.out)) Try.underlying39 rfl (by kernel_rfl) ?_
 refine seq_load _ rfl (by rfl) 39 (.tmp 7) rfl b4 rfl [.slice lo4 l4.length lc4,.int .u64 (a4:Int),.int .u64 (t4:Int),.int .u64 (k4:Int),.int .u64 (n4:Int),.slice qo4 qs4.length qc4,.int .u32 (f4:Int),.string XU4] _ (fun t ht=>range_rowc ((ht.block _ (row_lt HR4.out)).trans HR4.out)) Try.underlying39 rfl (by kernel_rfl) ?_
 obtain ⟨r4,HG4⟩:∃ r,Hid (sumR ((a4,(t4,(k4,(n4,(qs4,(l4,f4)))))),u4)=r):=⟨_,hid rfl⟩
 refine seq_come _ rfl (fun KC hK=>?_);go_simp
 refine (sum_any ((a4,(t4,(k4,(n4,(qs4,(l4,f4)))))),u4) [.slice lo4 l4.length lc4,.int .u64 (a4:Int),.int .u64 (t4:Int),.int .u64 (k4:Int),.int .u64 (n4:Int),.slice qo4 qs4.length qc4,.int .u32 (f4:Int),.string XU4] _ v13 HA4.out (suCel.upd (Upd.of_new (S:=fun _=>False) HV13.out) (fun _ _ h=>h) (fun _ h=>h) HL4.out) HSM4.out HG4).mono ?_;rintro e v14 ⟨rfl,hb⟩
 have HV14:Hid (Below W.heap.size W v14):=hid (below_step HV13.out hb)
 clear hb
 go_simp;refine hK.out _ _ HV14.out ?_;clear hK KC
 refine seq_come _ rfl (fun KC hK=>?_);go_simp
 refine (rsum_any ((a4,(t4,(k4,(n4,(qs4,(l4,f4)))))),u4) [.slice lo4 l4.length lc4,.int .u64 (a4:Int),.int .u64 (t4:Int),.int .u64 (k4:Int),.int .u64 (n4:Int),.slice qo4 qs4.length qc4,.int .u32 (f4:Int),.string XU4] _ v14 HA4.out (suCel.upd (Upd.of_new (S:=fun _=>False) HV14.out) (fun _ _ h=>h) (fun _ h=>h) HL4.out) HSM4.out HG4).mono ?_;rintro e v15 ⟨rfl,hb⟩
 have HV15:Hid (Below W.heap.size W v15):=hid (below_step HV14.out hb)
 clear hb
 go_simp;refine hK.out _ _ HV15.out ?_;clear hK KC
 iterate 3 (refine seq_take _ rfl (fun KC hK=>?_);go_simp;(first|refine hK _ ?_|refine ⟨_,fun _ _=>rfl,hK _ ?_⟩|refine ⟨undef,by first|rfl|simp,hK _ ?_⟩);clear hK KC)
 refine seq_done ?_
 clear hne
 go_wp2_with fail
 go_ret
 exact ⟨by first|rfl|(refine ret_bool ?_;simp),HBW.out.trans (HV15.out.mono HBW.out.size)⟩
end Go.Proofs.Ytmlghmjjlpioeaa
