/-
  hyglaw25.MergeOrder.
-/
import Derived.Test.YtoggpnfeioaidaaDoorMoExp
import Derived.Test.YtoggpnfeioaidaaDoorFrV
import Derived.Test.YtoggpnfeioaidaaDoorMgFirst
import Derived.Test.YtoggpnfeioaidaaDoorMgSat
import Derived.Test.YtoggpnfeioaidaaDoorMgPlaces
import Derived.Deep.DeepCutAuto
set_option maxRecDepth 1000000
set_option maxHeartbeats 16000000
namespace Go.Proofs.YtoggpnfeioaidaaDoor
open Go.RowKit
theorem lwt_ksx:∀ (es:List Ex) (n:Nat),lwt exSb es≤n→∀ x∈es,ksw x.1.2.2≤n
 | [],_,_,x,h=>by cases h
 | y::es,n,h,x,hx=>by
  have hc:lwt exSb (y::es)=exSb.wt y+lwt exSb es:=by unfold lwt;rfl
  rw[hc] at h
  rcases List.mem_cons.1 hx with rfl|hx
  ·obtain ⟨⟨t,⟨⟨⟨k,m⟩,⟨a,b⟩⟩,l⟩⟩,u⟩:=x
   have h2:exSb.wt ((t,(((k,m),(a,b)),l)),u)=60+(a.length+b.length+ksw l+u.length):=rfl
   rw[h2] at h
   show ksw l≤n
   omega
  ·exact lwt_ksx es n (by omega) x hx
theorem crels_n {α:Type} {C:Cel α} {w:World} {g:Nat} {T:TypeId} {fr:Nat × Nat} {xs:List α} {cs:List (List Value)} (hr:w.heap[g]? = some (.cells cs.flatten.toArray T fr)) (hl:cs.length=xs.length) (hx:∀ j (h:j<xs.length),C.R w (fun _=>True) xs[j] (cs[j]'(by omega))):CRels C w (fun _=>True) xs (some ⟨g,0,none⟩):=fun j hj=>by
 have hlen:∀ c∈cs,c.length=C.size:=fun c hc=>by
  obtain ⟨i,hi,rfl⟩:=List.mem_iff_getElem.1 hc
  exact C.len (hx i (by omega))
 have hat:∀ (l:List (List Value)) (j i:Nat) (h:j<l.length),(∀ c∈l,c.length=C.size)→i<C.size→l.flatten[C.size * j+i]? = (l[j])[i]?:=by
  intro l
  induction l with
  | nil=>intro j i h;simp at h
  | cons c l ih =>
   intro j i h hc hi
   have hcl:=hc c (by simp)
   cases j with
   | zero =>
    rw[List.flatten_cons,Nat.mul_zero,Nat.zero_add,List.getElem?_append_left (by omega)]
    rfl
   | succ j =>
    rw[List.flatten_cons,List.getElem?_append_right (by rw[hcl,Nat.mul_succ];omega),hcl,show C.size * (j+1)+i - C.size=C.size * j+i by rw[Nat.mul_succ];omega]
    exact ih j i (by simp at h;omega) (fun c h=>hc c (by simp[h])) hi
 refine ⟨g,0,cs[j]'(by omega),rfl,trivial,row_lt hr,fun i hi=>?_,hx j hj⟩
 have hci:=hlen (cs[j]'(by omega)) (List.getElem_mem _)
 refine row_cell hr (j:=0+C.size * j+i) ?_
 rw[Nat.zero_add]
 have:=hat cs j i (by omega) hlen (by omega)
 rw[List.getElem?_toArray,this,List.getElem?_eq_getElem hi]
theorem hiB_arg {x:Hi} (ha:hi_arg x) (h:hi_wt x≤12000):HiB x:=by
 obtain ⟨⟨a1,⟨t1,⟨k1,⟨⟨ph1,pn1⟩,⟨nc1,⟨nb1,⟨es1,⟨l1,⟨f1,⟨⟨mh1,mn1⟩,⟨gh1,gn1⟩⟩⟩⟩⟩⟩⟩⟩⟩⟩⟩,u1⟩:=x
 obtain ⟨q1,q2,q3,q4,q5,q6,q7,q8,q9,q10,q11,q12,q13,q14,q15,q16,q17⟩:=ha
 have h:60+(8 * nc1.length+8 * nb1.length+lwt exSb es1+ksw l1+u1.length)≤12000:=h
 have h3:=lwt_len (S:=exSb) (k:=1) (fun x=>by obtain ⟨⟨t,⟨⟨⟨k,m⟩,⟨a,b⟩⟩,l⟩⟩,u⟩:=x;show 1≤60+_;omega) es1
 exact ⟨⟨q3,q4,q15,q16⟩,q5,⟨by omega,by omega,by omega,by omega⟩,lwt_ksx es1 1000000 (by omega)⟩
theorem xpB_arg {x:Xp} (ha:xp_arg x) (h:xp_rw x≤12000):XpB x:=by
 have h:=xp_wt_rw h
 obtain ⟨⟨l1,⟨a1,⟨t1,⟨k1,⟨⟨bp1,vp1⟩,⟨sc1,⟨zc1,⟨⟨gp1,⟨po1,pc1⟩,pu1⟩,⟨⟨gn1,⟨no1,nc1⟩,nu1⟩,⟨f1,⟨es1,⟨⟨bm1,vm1⟩,⟨⟨bg1,vg1⟩,th1⟩⟩⟩⟩⟩⟩⟩⟩⟩⟩⟩⟩⟩,u1⟩:=x
 obtain ⟨q1,q2,q3,q4,q5,q6,q7,q8,q9,q10,q11,q12,q13,q14,q15,q16,q17,q18,q19,q20,q21,q22⟩:=ha
 have h:100+(ksw l1+10 * pc1.length+pu1.length+10 * nc1.length+nu1.length+lwt exSb es1+u1.length)≤16000:=h
 have h3:=lwt_len (S:=exSb) (k:=1) (fun x=>by obtain ⟨⟨t,⟨⟨⟨k,m⟩,⟨a,b⟩⟩,l⟩⟩,u⟩:=x;show 1≤60+_;omega) es1
 exact ⟨⟨by omega,by omega,lwt_ksx es1 1000000 (by omega)⟩,q8,⟨q6,q7,q19,q20,q9⟩,⟨q10,by show pc1.length≤_;omega⟩,⟨q13,by show nc1.length≤_;omega⟩⟩
theorem hi_cells {w:World} {P:Nat→Prop} {h:Hi} {cs:List Value} (hr:hiCel.R w P h cs):cs.length=15∧cs.toArray.all (·.oneCell')=true∧cs.toArray[3]? = some (.int .u64 (h.1.2.2.1:Int))∧cs.toArray[1]? = some (.int .u64 (h.1.1:Int))∧cs.toArray[2]? = some (.int .u64 (h.1.2.1:Int))∧∃ nco ncc,cs.toArray[10]? = some (.slice nco h.1.2.2.2.2.1.length ncc)∧Nats .u64 w nco h.1.2.2.2.2.1:=by
 obtain ⟨⟨a1,⟨t1,⟨k1,⟨⟨ph1,pn1⟩,⟨nc1,⟨nb1,⟨es1,⟨l1,⟨f1,⟨⟨mh1,mn1⟩,⟨gh1,gn1⟩⟩⟩⟩⟩⟩⟩⟩⟩⟩⟩,u1⟩:=h
 obtain ⟨lo1,lc1,nco1,ncc1,nbo1,nbc1,eo1,ec1,rfl,hk1,hc1,hb1,he1⟩:=hr
 exact ⟨rfl,by simp[Value.oneCell',strV],rfl,rfl,rfl,nco1,ncc1,rfl,nats_of_rels hc1⟩
theorem xp_cells {w:World} {P:Nat→Prop} {x:Xp} {cs:List Value} (hr:xpCel.R w P x cs):cs.length=24∧cs.toArray.all (·.oneCell')=true∧cs.toArray[3]? = some (.int .u64 (xK x:Int))∧cs.toArray[10]? = some (.int .i32 (xSd x).sc)∧cs.toArray[11]? = some (.int .u64 (xZ x:Int))∧cs.toArray[13]? = some (.int .i32 (xSd x).po)∧∃ po pc no nc,cs.toArray[14]? = some (.slice po (xSd x).pc.length pc)∧Nats .u64 w po (xSd x).pc∧cs.toArray[18]? = some (.slice no (xSd x).nc.length nc)∧Nats .u64 w no (xSd x).nc:=by
 obtain ⟨⟨l1,⟨a1,⟨t1,⟨k1,⟨⟨bp1,vp1⟩,⟨sc1,⟨zc1,⟨⟨gp1,⟨po1,pc1⟩,pu1⟩,⟨⟨gn1,⟨no1,nc1⟩,nu1⟩,⟨f1,⟨es1,⟨⟨bm1,vm1⟩,⟨⟨bg1,vg1⟩,th1⟩⟩⟩⟩⟩⟩⟩⟩⟩⟩⟩⟩⟩,u1⟩:=x
 obtain ⟨lo1,lc1,pco1,pcc1,nco1,ncc1,eo1,ec1,rfl,hk1,hp1,hn1,he1⟩:=hr
 exact ⟨rfl,by simp[Value.oneCell',strV],rfl,rfl,rfl,rfl,pco1,pcc1,nco1,ncc1,rfl,nats_of_rels hp1,rfl,nats_of_rels hn1⟩
def TwoRows (b c:Nat) (cb cc:Array Value) (T:TypeId) (w':World):Prop:=w'.heap[b]? = some (.cells cb T (0,0))∧w'.heap[c]? = some (.cells cc T (0,0))
theorem order_any (a1 t1 k1:Nat) (ph1:Bool) (pn1:Nat) (nc1 nb1:List Nat) (es1:List Ex) (l1:List KV) (f1:Nat) (mh1:Bool) (mn1:Nat) (gh1:Bool) (gn1:Nat) (u1:List UInt8) (lo1:Option Addr) (lc1:Nat) (nco1:Option Addr) (ncc1:Nat) (nbo1:Option Addr) (nbc1:Nat) (eo1:Option Addr) (ec1:Nat) (a2 t2 k2:Nat) (ph2:Bool) (pn2:Nat) (nc2 nb2:List Nat) (es2:List Ex) (l2:List KV) (f2:Nat) (mh2:Bool) (mn2:Nat) (gh2:Bool) (gn2:Nat) (u2:List UInt8) (lo2:Option Addr) (lc2:Nat) (nco2:Option Addr) (ncc2:Nat) (nbo2:Option Addr) (nbc2:Nat) (eo2:Option Addr) (ec2:Nat) (a3 t3 k3:Nat) (ph3:Bool) (pn3:Nat) (nc3 nb3:List Nat) (es3:List Ex) (l3:List KV) (f3:Nat) (mh3:Bool) (mn3:Nat) (gh3:Bool) (gn3:Nat) (u3:List UInt8) (lo3:Option Addr) (lc3:Nat) (nco3:Option Addr) (ncc3:Nat) (nbo3:Option Addr) (nbc3:Nat) (eo3:Option Addr) (ec3:Nat) (l4:List KV) (a4 t4 k4:Nat) (bp4:Bool) (vp4:Nat) (bm4:Bool) (vm4:Nat) (bg4:Bool) (vg4:Nat) (sc4:Int) (zc4:Nat) (gp4:Bool) (po4:Int) (pc4:List Nat) (pu4:List UInt8) (gn4:Bool) (no4:Int) (nc4:List Nat) (nu4:List UInt8) (es4:List Ex) (f4 th4:Nat) (u4:List UInt8) (lo4:Option Addr) (lc4:Nat) (pco4:Option Addr) (pcc4:Nat) (nco4:Option Addr) (ncc4:Nat) (eo4:Option Addr) (ec4:Nat) (l5:List KV) (a5 t5 k5:Nat) (bp5:Bool) (vp5:Nat) (bm5:Bool) (vm5:Nat) (bg5:Bool) (vg5:Nat) (sc5:Int) (zc5:Nat) (gp5:Bool) (po5:Int) (pc5:List Nat) (pu5:List UInt8) (gn5:Bool) (no5:Int) (nc5:List Nat) (nu5:List UInt8) (es5:List Ex) (f5 th5:Nat) (u5:List UInt8) (lo5:Option Addr) (lc5:Nat) (pco5:Option Addr) (pcc5:Nat) (nco5:Option Addr) (ncc5:Nat) (eo5:Option Addr) (ec5:Nat) (most:Int) (ew:Addr) (P1 P2 P3 P4 P5:Nat→Prop) (w:World) (hg:Hid (Glob w)) (HE0:Hid (WideAt ew w)) (hA1:Hid (hi_arg ((a1,(t1,(k1,((ph1,pn1),(nc1,(nb1,(es1,(l1,(f1,((mh1,mn1),(gh1,gn1))))))))))),u1))) (hA2:Hid (hi_arg ((a2,(t2,(k2,((ph2,pn2),(nc2,(nb2,(es2,(l2,(f2,((mh2,mn2),(gh2,gn2))))))))))),u2))) (hA3:Hid (hi_arg ((a3,(t3,(k3,((ph3,pn3),(nc3,(nb3,(es3,(l3,(f3,((mh3,mn3),(gh3,gn3))))))))))),u3))) (hA4:Hid (xp_arg ((l4,(a4,(t4,(k4,((bp4,vp4),(sc4,(zc4,((gp4,⟨po4,pc4⟩,pu4),((gn4,⟨no4,nc4⟩,nu4),(f4,(es4,((bm4,vm4),((bg4,vg4),th4))))))))))))),u4))) (hA5:Hid (xp_arg ((l5,(a5,(t5,(k5,((bp5,vp5),(sc5,(zc5,((gp5,⟨po5,pc5⟩,pu5),((gn5,⟨no5,nc5⟩,nu5),(f5,(es5,((bm5,vm5),((bg5,vg5),th5))))))))))))),u5))) (hR1:Hid (hiCel.R w P1 ((a1,(t1,(k1,((ph1,pn1),(nc1,(nb1,(es1,(l1,(f1,((mh1,mn1),(gh1,gn1))))))))))),u1) [.slice lo1 l1.length lc1,.int .u64 (a1:Int),.int .u64 (t1:Int),.int .u64 (k1:Int),.bool ph1,.int .u64 (pn1:Int),.bool mh1,.int .u64 (mn1:Int),.bool gh1,.int .u64 (gn1:Int),.slice nco1 nc1.length ncc1,.slice nbo1 nb1.length nbc1,.slice eo1 es1.length ec1,.int .u32 (f1:Int),strV u1])) (hR2:Hid (hiCel.R w P2 ((a2,(t2,(k2,((ph2,pn2),(nc2,(nb2,(es2,(l2,(f2,((mh2,mn2),(gh2,gn2))))))))))),u2) [.slice lo2 l2.length lc2,.int .u64 (a2:Int),.int .u64 (t2:Int),.int .u64 (k2:Int),.bool ph2,.int .u64 (pn2:Int),.bool mh2,.int .u64 (mn2:Int),.bool gh2,.int .u64 (gn2:Int),.slice nco2 nc2.length ncc2,.slice nbo2 nb2.length nbc2,.slice eo2 es2.length ec2,.int .u32 (f2:Int),strV u2])) (hR3:Hid (hiCel.R w P3 ((a3,(t3,(k3,((ph3,pn3),(nc3,(nb3,(es3,(l3,(f3,((mh3,mn3),(gh3,gn3))))))))))),u3) [.slice lo3 l3.length lc3,.int .u64 (a3:Int),.int .u64 (t3:Int),.int .u64 (k3:Int),.bool ph3,.int .u64 (pn3:Int),.bool mh3,.int .u64 (mn3:Int),.bool gh3,.int .u64 (gn3:Int),.slice nco3 nc3.length ncc3,.slice nbo3 nb3.length nbc3,.slice eo3 es3.length ec3,.int .u32 (f3:Int),strV u3])) (hR4:Hid (xpCel.R w P4 ((l4,(a4,(t4,(k4,((bp4,vp4),(sc4,(zc4,((gp4,⟨po4,pc4⟩,pu4),((gn4,⟨no4,nc4⟩,nu4),(f4,(es4,((bm4,vm4),((bg4,vg4),th4))))))))))))),u4) [.slice lo4 l4.length lc4,.int .u64 (a4:Int),.int .u64 (t4:Int),.int .u64 (k4:Int),.bool bp4,.int .u64 (vp4:Int),.bool bm4,.int .u64 (vm4:Int),.bool bg4,.int .u64 (vg4:Int),.int .i32 sc4,.int .u64 (zc4:Int),.bool gp4,.int .i32 po4,.slice pco4 pc4.length pcc4,strV pu4,.bool gn4,.int .i32 no4,.slice nco4 nc4.length ncc4,strV nu4,.slice eo4 es4.length ec4,.int .u32 (f4:Int),.int .u64 (th4:Int),strV u4])) (hR5:Hid (xpCel.R w P5 ((l5,(a5,(t5,(k5,((bp5,vp5),(sc5,(zc5,((gp5,⟨po5,pc5⟩,pu5),((gn5,⟨no5,nc5⟩,nu5),(f5,(es5,((bm5,vm5),((bg5,vg5),th5))))))))))))),u5) [.slice lo5 l5.length lc5,.int .u64 (a5:Int),.int .u64 (t5:Int),.int .u64 (k5:Int),.bool bp5,.int .u64 (vp5:Int),.bool bm5,.int .u64 (vm5:Int),.bool bg5,.int .u64 (vg5:Int),.int .i32 sc5,.int .u64 (zc5:Int),.bool gp5,.int .i32 po5,.slice pco5 pc5.length pcc5,strV pu5,.bool gn5,.int .i32 no5,.slice nco5 nc5.length ncc5,strV nu5,.slice eo5 es5.length ec5,.int .u32 (f5:Int),.int .u64 (th5:Int),strV u5])) :
  Calls Tryd.prog 4 #[.agg #[.slice lo1 l1.length lc1,.int .u64 (a1:Int),.int .u64 (t1:Int),.int .u64 (k1:Int),.bool ph1,.int .u64 (pn1:Int),.bool mh1,.int .u64 (mn1:Int),.bool gh1,.int .u64 (gn1:Int),.slice nco1 nc1.length ncc1,.slice nbo1 nb1.length nbc1,.slice eo1 es1.length ec1,.int .u32 (f1:Int),strV u1],.agg #[.slice lo2 l2.length lc2,.int .u64 (a2:Int),.int .u64 (t2:Int),.int .u64 (k2:Int),.bool ph2,.int .u64 (pn2:Int),.bool mh2,.int .u64 (mn2:Int),.bool gh2,.int .u64 (gn2:Int),.slice nco2 nc2.length ncc2,.slice nbo2 nb2.length nbc2,.slice eo2 es2.length ec2,.int .u32 (f2:Int),strV u2],.agg #[.slice lo3 l3.length lc3,.int .u64 (a3:Int),.int .u64 (t3:Int),.int .u64 (k3:Int),.bool ph3,.int .u64 (pn3:Int),.bool mh3,.int .u64 (mn3:Int),.bool gh3,.int .u64 (gn3:Int),.slice nco3 nc3.length ncc3,.slice nbo3 nb3.length nbc3,.slice eo3 es3.length ec3,.int .u32 (f3:Int),strV u3],.agg #[.slice lo4 l4.length lc4,.int .u64 (a4:Int),.int .u64 (t4:Int),.int .u64 (k4:Int),.bool bp4,.int .u64 (vp4:Int),.bool bm4,.int .u64 (vm4:Int),.bool bg4,.int .u64 (vg4:Int),.int .i32 sc4,.int .u64 (zc4:Int),.bool gp4,.int .i32 po4,.slice pco4 pc4.length pcc4,strV pu4,.bool gn4,.int .i32 no4,.slice nco4 nc4.length ncc4,strV nu4,.slice eo4 es4.length ec4,.int .u32 (f4:Int),.int .u64 (th4:Int),strV u4],.agg #[.slice lo5 l5.length lc5,.int .u64 (a5:Int),.int .u64 (t5:Int),.int .u64 (k5:Int),.bool bp5,.int .u64 (vp5:Int),.bool bm5,.int .u64 (vm5:Int),.bool bg5,.int .u64 (vg5:Int),.int .i32 sc5,.int .u64 (zc5:Int),.bool gp5,.int .i32 po5,.slice pco5 pc5.length pcc5,strV pu5,.bool gn5,.int .i32 no5,.slice nco5 nc5.length ncc5,strV nu5,.slice eo5 es5.length ec5,.int .u32 (f5:Int),.int .u64 (th5:Int),strV u5],.int .i64 most] w fun E w'=>E = .returned (.bool true)∧Below w.heap.size w w':=by
 obtain ⟨b1,HNb1⟩:∃ b,Hid (w.heap.size=b):=⟨_,Lib.hid rfl⟩
 obtain ⟨b2,HNb2⟩:∃ b,Hid (b1+1=b):=⟨_,Lib.hid rfl⟩
 obtain ⟨b3,HNb3⟩:∃ b,Hid (b2+1=b):=⟨_,Lib.hid rfl⟩
 obtain ⟨b4,HNb4⟩:∃ b,Hid (b3+1=b):=⟨_,Lib.hid rfl⟩
 obtain ⟨b5,HNb5⟩:∃ b,Hid (b4+1=b):=⟨_,Lib.hid rfl⟩
 obtain ⟨W_0,HW_0⟩:∃ X,Hid (w.alloc (.cells #[.slice lo1 l1.length lc1,.int .u64 (a1:Int),.int .u64 (t1:Int),.int .u64 (k1:Int),.bool ph1,.int .u64 (pn1:Int),.bool mh1,.int .u64 (mn1:Int),.bool gh1,.int .u64 (gn1:Int),.slice nco1 nc1.length ncc1,.slice nbo1 nb1.length nbc1,.slice eo1 es1.length ec1,.int .u32 (f1:Int),strV u1] 48)=X):=⟨_,Lib.hid rfl⟩
 have hbW_0:Below w.heap.size w W_0:=by rw[←HW_0.out];exact below_new _ _
 have hzW_0:W_0.heap.size=b1+1:=by rw[←HW_0.out];simp;exact HNb1.out
 have hxb1:W_0.heap[b1]? = some (.cells #[.slice lo1 l1.length lc1,.int .u64 (a1:Int),.int .u64 (t1:Int),.int .u64 (k1:Int),.bool ph1,.int .u64 (pn1:Int),.bool mh1,.int .u64 (mn1:Int),.bool gh1,.int .u64 (gn1:Int),.slice nco1 nc1.length ncc1,.slice nbo1 nb1.length nbc1,.slice eo1 es1.length ec1,.int .u32 (f1:Int),strV u1] 48 (0,0)):=by rw[←HW_0.out,←HNb1.out];exact heap_alloc_new w _
 obtain ⟨W_1,HW_1⟩:∃ X,Hid (W_0.alloc (.cells #[.slice lo2 l2.length lc2,.int .u64 (a2:Int),.int .u64 (t2:Int),.int .u64 (k2:Int),.bool ph2,.int .u64 (pn2:Int),.bool mh2,.int .u64 (mn2:Int),.bool gh2,.int .u64 (gn2:Int),.slice nco2 nc2.length ncc2,.slice nbo2 nb2.length nbc2,.slice eo2 es2.length ec2,.int .u32 (f2:Int),strV u2] 48)=X):=⟨_,Lib.hid rfl⟩
 have hbW_1:Below W_0.heap.size W_0 W_1:=by rw[←HW_1.out];exact below_new _ _
 have hzW_1:W_1.heap.size=b1+1+1:=by rw[←HW_1.out];simp;exact hzW_0
 have hxb2:W_1.heap[b2]? = some (.cells #[.slice lo2 l2.length lc2,.int .u64 (a2:Int),.int .u64 (t2:Int),.int .u64 (k2:Int),.bool ph2,.int .u64 (pn2:Int),.bool mh2,.int .u64 (mn2:Int),.bool gh2,.int .u64 (gn2:Int),.slice nco2 nc2.length ncc2,.slice nbo2 nb2.length nbc2,.slice eo2 es2.length ec2,.int .u32 (f2:Int),strV u2] 48 (0,0)):=by rw[←HW_1.out,←HNb2.out,←hzW_0];exact heap_alloc_new W_0 _
 obtain ⟨W_2,HW_2⟩:∃ X,Hid (W_1.alloc (.cells #[.slice lo3 l3.length lc3,.int .u64 (a3:Int),.int .u64 (t3:Int),.int .u64 (k3:Int),.bool ph3,.int .u64 (pn3:Int),.bool mh3,.int .u64 (mn3:Int),.bool gh3,.int .u64 (gn3:Int),.slice nco3 nc3.length ncc3,.slice nbo3 nb3.length nbc3,.slice eo3 es3.length ec3,.int .u32 (f3:Int),strV u3] 48)=X):=⟨_,Lib.hid rfl⟩
 have hbW_2:Below W_1.heap.size W_1 W_2:=by rw[←HW_2.out];exact below_new _ _
 have hzW_2:W_2.heap.size=b1+1+1+1:=by rw[←HW_2.out];simp;exact hzW_1
 have hxb3:W_2.heap[b3]? = some (.cells #[.slice lo3 l3.length lc3,.int .u64 (a3:Int),.int .u64 (t3:Int),.int .u64 (k3:Int),.bool ph3,.int .u64 (pn3:Int),.bool mh3,.int .u64 (mn3:Int),.bool gh3,.int .u64 (gn3:Int),.slice nco3 nc3.length ncc3,.slice nbo3 nb3.length nbc3,.slice eo3 es3.length ec3,.int .u32 (f3:Int),strV u3] 48 (0,0)):=by rw[←HW_2.out,←HNb3.out,←HNb2.out,←hzW_1];exact heap_alloc_new W_1 _
 obtain ⟨W_3,HW_3⟩:∃ X,Hid (W_2.alloc (.cells #[.slice lo4 l4.length lc4,.int .u64 (a4:Int),.int .u64 (t4:Int),.int .u64 (k4:Int),.bool bp4,.int .u64 (vp4:Int),.bool bm4,.int .u64 (vm4:Int),.bool bg4,.int .u64 (vg4:Int),.int .i32 sc4,.int .u64 (zc4:Int),.bool gp4,.int .i32 po4,.slice pco4 pc4.length pcc4,strV pu4,.bool gn4,.int .i32 no4,.slice nco4 nc4.length ncc4,strV nu4,.slice eo4 es4.length ec4,.int .u32 (f4:Int),.int .u64 (th4:Int),strV u4] 32)=X):=⟨_,Lib.hid rfl⟩
 have hbW_3:Below W_2.heap.size W_2 W_3:=by rw[←HW_3.out];exact below_new _ _
 have hzW_3:W_3.heap.size=b1+1+1+1+1:=by rw[←HW_3.out];simp;exact hzW_2
 have hxb4:W_3.heap[b4]? = some (.cells #[.slice lo4 l4.length lc4,.int .u64 (a4:Int),.int .u64 (t4:Int),.int .u64 (k4:Int),.bool bp4,.int .u64 (vp4:Int),.bool bm4,.int .u64 (vm4:Int),.bool bg4,.int .u64 (vg4:Int),.int .i32 sc4,.int .u64 (zc4:Int),.bool gp4,.int .i32 po4,.slice pco4 pc4.length pcc4,strV pu4,.bool gn4,.int .i32 no4,.slice nco4 nc4.length ncc4,strV nu4,.slice eo4 es4.length ec4,.int .u32 (f4:Int),.int .u64 (th4:Int),strV u4] 32 (0,0)):=by rw[←HW_3.out,←HNb4.out,←HNb3.out,←HNb2.out,←hzW_2];exact heap_alloc_new W_2 _
 obtain ⟨W,HW⟩:∃ X,Hid (W_3.alloc (.cells #[.slice lo5 l5.length lc5,.int .u64 (a5:Int),.int .u64 (t5:Int),.int .u64 (k5:Int),.bool bp5,.int .u64 (vp5:Int),.bool bm5,.int .u64 (vm5:Int),.bool bg5,.int .u64 (vg5:Int),.int .i32 sc5,.int .u64 (zc5:Int),.bool gp5,.int .i32 po5,.slice pco5 pc5.length pcc5,strV pu5,.bool gn5,.int .i32 no5,.slice nco5 nc5.length ncc5,strV nu5,.slice eo5 es5.length ec5,.int .u32 (f5:Int),.int .u64 (th5:Int),strV u5] 32)=X):=⟨_,Lib.hid rfl⟩
 have hbW:Below W_3.heap.size W_3 W:=by rw[←HW.out];exact below_new _ _
 have hzW:W.heap.size=b1+1+1+1+1+1:=by rw[←HW.out];simp;exact hzW_3
 have hxb5:W.heap[b5]? = some (.cells #[.slice lo5 l5.length lc5,.int .u64 (a5:Int),.int .u64 (t5:Int),.int .u64 (k5:Int),.bool bp5,.int .u64 (vp5:Int),.bool bm5,.int .u64 (vm5:Int),.bool bg5,.int .u64 (vg5:Int),.int .i32 sc5,.int .u64 (zc5:Int),.bool gp5,.int .i32 po5,.slice pco5 pc5.length pcc5,strV pu5,.bool gn5,.int .i32 no5,.slice nco5 nc5.length ncc5,strV nu5,.slice eo5 es5.length ec5,.int .u32 (f5:Int),.int .u64 (th5:Int),strV u5] 32 (0,0)):=by rw[←HW.out,←HNb5.out,←HNb4.out,←HNb3.out,←HNb2.out,←hzW_3];exact heap_alloc_new W_3 _
 have hxb1':=(hbW_1.block _ (row_lt hxb1)).trans hxb1
 have hxb1'':=(hbW_2.block _ (row_lt hxb1')).trans hxb1'
 have hxb1''':=(hbW_3.block _ (row_lt hxb1'')).trans hxb1''
 have hxb1'''':=(hbW.block _ (row_lt hxb1''')).trans hxb1'''
 have HXb1:=Lib.hid hxb1''''
 have hxb2':=(hbW_2.block _ (row_lt hxb2)).trans hxb2
 have hxb2'':=(hbW_3.block _ (row_lt hxb2')).trans hxb2'
 have hxb2''':=(hbW.block _ (row_lt hxb2'')).trans hxb2''
 have HXb2:=Lib.hid hxb2'''
 have hxb3':=(hbW_3.block _ (row_lt hxb3)).trans hxb3
 have hxb3'':=(hbW.block _ (row_lt hxb3')).trans hxb3'
 have HXb3:=Lib.hid hxb3''
 have hxb4':=(hbW.block _ (row_lt hxb4)).trans hxb4
 have HXb4:=Lib.hid hxb4'
 have HXb5:=Lib.hid hxb5
 have HBW:Hid (Below w.heap.size w W):=Lib.hid (below_step (below_step (below_step (below_step hbW_0 hbW_1) hbW_2) hbW_3) hbW)
 clear hbW_0 hzW_0 hbW_1 hzW_1 hbW_2 hzW_2 hbW_3 hzW_3 hbW hzW hxb1 hxb1' hxb1'' hxb1''' hxb1'''' hxb2 hxb2' hxb2'' hxb2''' hxb3 hxb3' hxb3'' hxb4 hxb4' hxb5
 have HGE:Hid (w.heap.size≤b1∧b1<b2∧b2<b3∧b3<b4∧b4<b5):=Lib.hid ⟨by have:=HNb1.out;omega,by have:=HNb2.out;omega,by have:=HNb3.out;omega,by have:=HNb4.out;omega,by have:=HNb5.out;omega⟩
 have HB:=HBW
 have Rb1:=HXb1
 have Rb2:=HXb2
 have Rb3:=HXb3
 have Rb4:=HXb4
 have Rb5:=HXb5
 clear HBW HXb1 HXb2 HXb3 HXb4 HXb5
 have HR1:Hid (hiCel.R W (fun _=>True) ((a1,(t1,(k1,((ph1,pn1),(nc1,(nb1,(es1,(l1,(f1,((mh1,mn1),(gh1,gn1))))))))))),u1) [.slice lo1 l1.length lc1,.int .u64 (a1:Int),.int .u64 (t1:Int),.int .u64 (k1:Int),.bool ph1,.int .u64 (pn1:Int),.bool mh1,.int .u64 (mn1:Int),.bool gh1,.int .u64 (gn1:Int),.slice nco1 nc1.length ncc1,.slice nbo1 nb1.length nbc1,.slice eo1 es1.length ec1,.int .u32 (f1:Int),strV u1]):=Lib.hid (hiCel.upd (Upd.of_new (S:=fun _=>False) HB.out) (fun _ _ h=>h) (fun _ _=>trivial) hR1.out)
 have HR2:Hid (hiCel.R W (fun _=>True) ((a2,(t2,(k2,((ph2,pn2),(nc2,(nb2,(es2,(l2,(f2,((mh2,mn2),(gh2,gn2))))))))))),u2) [.slice lo2 l2.length lc2,.int .u64 (a2:Int),.int .u64 (t2:Int),.int .u64 (k2:Int),.bool ph2,.int .u64 (pn2:Int),.bool mh2,.int .u64 (mn2:Int),.bool gh2,.int .u64 (gn2:Int),.slice nco2 nc2.length ncc2,.slice nbo2 nb2.length nbc2,.slice eo2 es2.length ec2,.int .u32 (f2:Int),strV u2]):=Lib.hid (hiCel.upd (Upd.of_new (S:=fun _=>False) HB.out) (fun _ _ h=>h) (fun _ _=>trivial) hR2.out)
 have HR3:Hid (hiCel.R W (fun _=>True) ((a3,(t3,(k3,((ph3,pn3),(nc3,(nb3,(es3,(l3,(f3,((mh3,mn3),(gh3,gn3))))))))))),u3) [.slice lo3 l3.length lc3,.int .u64 (a3:Int),.int .u64 (t3:Int),.int .u64 (k3:Int),.bool ph3,.int .u64 (pn3:Int),.bool mh3,.int .u64 (mn3:Int),.bool gh3,.int .u64 (gn3:Int),.slice nco3 nc3.length ncc3,.slice nbo3 nb3.length nbc3,.slice eo3 es3.length ec3,.int .u32 (f3:Int),strV u3]):=Lib.hid (hiCel.upd (Upd.of_new (S:=fun _=>False) HB.out) (fun _ _ h=>h) (fun _ _=>trivial) hR3.out)
 have HR4:Hid (xpCel.R W (fun _=>True) ((l4,(a4,(t4,(k4,((bp4,vp4),(sc4,(zc4,((gp4,⟨po4,pc4⟩,pu4),((gn4,⟨no4,nc4⟩,nu4),(f4,(es4,((bm4,vm4),((bg4,vg4),th4))))))))))))),u4) [.slice lo4 l4.length lc4,.int .u64 (a4:Int),.int .u64 (t4:Int),.int .u64 (k4:Int),.bool bp4,.int .u64 (vp4:Int),.bool bm4,.int .u64 (vm4:Int),.bool bg4,.int .u64 (vg4:Int),.int .i32 sc4,.int .u64 (zc4:Int),.bool gp4,.int .i32 po4,.slice pco4 pc4.length pcc4,strV pu4,.bool gn4,.int .i32 no4,.slice nco4 nc4.length ncc4,strV nu4,.slice eo4 es4.length ec4,.int .u32 (f4:Int),.int .u64 (th4:Int),strV u4]):=Lib.hid (xpCel.upd (Upd.of_new (S:=fun _=>False) HB.out) (fun _ _ h=>h) (fun _ _=>trivial) hR4.out)
 have HR5:Hid (xpCel.R W (fun _=>True) ((l5,(a5,(t5,(k5,((bp5,vp5),(sc5,(zc5,((gp5,⟨po5,pc5⟩,pu5),((gn5,⟨no5,nc5⟩,nu5),(f5,(es5,((bm5,vm5),((bg5,vg5),th5))))))))))))),u5) [.slice lo5 l5.length lc5,.int .u64 (a5:Int),.int .u64 (t5:Int),.int .u64 (k5:Int),.bool bp5,.int .u64 (vp5:Int),.bool bm5,.int .u64 (vm5:Int),.bool bg5,.int .u64 (vg5:Int),.int .i32 sc5,.int .u64 (zc5:Int),.bool gp5,.int .i32 po5,.slice pco5 pc5.length pcc5,strV pu5,.bool gn5,.int .i32 no5,.slice nco5 nc5.length ncc5,strV nu5,.slice eo5 es5.length ec5,.int .u32 (f5:Int),.int .u64 (th5:Int),strV u5]):=Lib.hid (xpCel.upd (Upd.of_new (S:=fun _=>False) HB.out) (fun _ _ h=>h) (fun _ _=>trivial) hR5.out)
 have HG:=Lib.hid (hg.out.below HB.out)
 have HEW:=Lib.hid (HE0.out.below HB.out)
 clear hR1 hR2 hR3 hR4 hR5
 go_enter Tryd.func4,Tryd.ntmps4
 go_upto_region 1 with fail
 (try rw[HW_0.out])
 (try rw[HW_1.out])
 (try rw[HW_2.out])
 (try rw[HW_3.out])
 (try rw[HW.out])
 rw[HNb1.out,HNb2.out,HNb3.out,HNb4.out,HNb5.out]
 go_wp2_with fail
 refine (first25 W HG).mono ?_
 rintro E v1 ⟨rfl,hb⟩
 replace HB:=Lib.hid (below_step HB.out hb)
 replace Rb1:=Lib.hid ((hb.block _ (row_lt Rb1.out)).trans Rb1.out)
 replace Rb2:=Lib.hid ((hb.block _ (row_lt Rb2.out)).trans Rb2.out)
 replace Rb3:=Lib.hid ((hb.block _ (row_lt Rb3.out)).trans Rb3.out)
 replace Rb4:=Lib.hid ((hb.block _ (row_lt Rb4.out)).trans Rb4.out)
 replace Rb5:=Lib.hid ((hb.block _ (row_lt Rb5.out)).trans Rb5.out)
 replace HG:=Lib.hid (hg.out.below HB.out)
 replace HEW:=Lib.hid (HE0.out.below HB.out)
 replace HR1:=Lib.hid (hiCel.upd (Upd.of_new (S:=fun _=>False) hb) (fun _ _ h=>h) (fun _ h=>h) HR1.out)
 replace HR2:=Lib.hid (hiCel.upd (Upd.of_new (S:=fun _=>False) hb) (fun _ _ h=>h) (fun _ h=>h) HR2.out)
 replace HR3:=Lib.hid (hiCel.upd (Upd.of_new (S:=fun _=>False) hb) (fun _ _ h=>h) (fun _ h=>h) HR3.out)
 replace HR4:=Lib.hid (xpCel.upd (Upd.of_new (S:=fun _=>False) hb) (fun _ _ h=>h) (fun _ h=>h) HR4.out)
 replace HR5:=Lib.hid (xpCel.upd (Upd.of_new (S:=fun _=>False) hb) (fun _ _ h=>h) (fun _ h=>h) HR5.out)
 clear hb
 go_upto_region 3 with fail
 refine wp_region_lit ?_
 refine wpList_load_mid rfl 48 (.tmp 6) rfl b1 0 rfl [.slice lo1 l1.length lc1,.int .u64 (a1:Int),.int .u64 (t1:Int),.int .u64 (k1:Int),.bool ph1,.int .u64 (pn1:Int),.bool mh1,.int .u64 (mn1:Int),.bool gh1,.int .u64 (gn1:Int),.slice nco1 nc1.length ncc1,.slice nbo1 nb1.length nbc1,.slice eo1 es1.length ec1,.int .u32 (f1:Int),strV u1] _ (range_rowf Rb1.out) Tryd.underlying48 rfl (by kernel_rfl) ?_
 refine wpList_load_mid rfl 48 (.tmp 7) rfl b2 0 rfl [.slice lo2 l2.length lc2,.int .u64 (a2:Int),.int .u64 (t2:Int),.int .u64 (k2:Int),.bool ph2,.int .u64 (pn2:Int),.bool mh2,.int .u64 (mn2:Int),.bool gh2,.int .u64 (gn2:Int),.slice nco2 nc2.length ncc2,.slice nbo2 nb2.length nbc2,.slice eo2 es2.length ec2,.int .u32 (f2:Int),strV u2] _ (range_rowf Rb2.out) Tryd.underlying48 rfl (by kernel_rfl) ?_
 refine wpList_load_mid rfl 48 (.tmp 8) rfl b3 0 rfl [.slice lo3 l3.length lc3,.int .u64 (a3:Int),.int .u64 (t3:Int),.int .u64 (k3:Int),.bool ph3,.int .u64 (pn3:Int),.bool mh3,.int .u64 (mn3:Int),.bool gh3,.int .u64 (gn3:Int),.slice nco3 nc3.length ncc3,.slice nbo3 nb3.length nbc3,.slice eo3 es3.length ec3,.int .u32 (f3:Int),strV u3] _ (range_rowf Rb3.out) Tryd.underlying48 rfl (by kernel_rfl) ?_
 refine wpList_plain rfl (fun K hK=>?_);go_simp;refine hK _ _ ?_;clear hK K
 obtain ⟨b6,HNb6⟩:∃ x,Hid (v1.heap.size=x):=⟨_,Lib.hid rfl⟩
 obtain ⟨v2,HWv2⟩:∃ X,Hid (v1.alloc (.cells #[.slice lo1 l1.length lc1,.int .u64 (a1:Int),.int .u64 (t1:Int),.int .u64 (k1:Int),.bool ph1,.int .u64 (pn1:Int),.bool mh1,.int .u64 (mn1:Int),.bool gh1,.int .u64 (gn1:Int),.slice nco1 nc1.length ncc1,.slice nbo1 nb1.length nbc1,.slice eo1 es1.length ec1,.int .u32 (f1:Int),strV u1,.slice lo2 l2.length lc2,.int .u64 (a2:Int),.int .u64 (t2:Int),.int .u64 (k2:Int),.bool ph2,.int .u64 (pn2:Int),.bool mh2,.int .u64 (mn2:Int),.bool gh2,.int .u64 (gn2:Int),.slice nco2 nc2.length ncc2,.slice nbo2 nb2.length nbc2,.slice eo2 es2.length ec2,.int .u32 (f2:Int),strV u2,.slice lo3 l3.length lc3,.int .u64 (a3:Int),.int .u64 (t3:Int),.int .u64 (k3:Int),.bool ph3,.int .u64 (pn3:Int),.bool mh3,.int .u64 (mn3:Int),.bool gh3,.int .u64 (gn3:Int),.slice nco3 nc3.length ncc3,.slice nbo3 nb3.length nbc3,.slice eo3 es3.length ec3,.int .u32 (f3:Int),strV u3] 48)=X):=⟨_,Lib.hid rfl⟩
 rw[HWv2.out,HNb6.out]
 have hb:Below v1.heap.size v1 v2:=by rw[←HWv2.out];exact below_new _ _
 have hr:v2.heap[b6]? = some (.cells #[.slice lo1 l1.length lc1,.int .u64 (a1:Int),.int .u64 (t1:Int),.int .u64 (k1:Int),.bool ph1,.int .u64 (pn1:Int),.bool mh1,.int .u64 (mn1:Int),.bool gh1,.int .u64 (gn1:Int),.slice nco1 nc1.length ncc1,.slice nbo1 nb1.length nbc1,.slice eo1 es1.length ec1,.int .u32 (f1:Int),strV u1,.slice lo2 l2.length lc2,.int .u64 (a2:Int),.int .u64 (t2:Int),.int .u64 (k2:Int),.bool ph2,.int .u64 (pn2:Int),.bool mh2,.int .u64 (mn2:Int),.bool gh2,.int .u64 (gn2:Int),.slice nco2 nc2.length ncc2,.slice nbo2 nb2.length nbc2,.slice eo2 es2.length ec2,.int .u32 (f2:Int),strV u2,.slice lo3 l3.length lc3,.int .u64 (a3:Int),.int .u64 (t3:Int),.int .u64 (k3:Int),.bool ph3,.int .u64 (pn3:Int),.bool mh3,.int .u64 (mn3:Int),.bool gh3,.int .u64 (gn3:Int),.slice nco3 nc3.length ncc3,.slice nbo3 nb3.length nbc3,.slice eo3 es3.length ec3,.int .u32 (f3:Int),strV u3] 48 (0,0)):=by rw[←HWv2.out,←HNb6.out];exact heap_alloc_new v1 _
 replace HB:=Lib.hid (below_step HB.out hb)
 replace Rb1:=Lib.hid ((hb.block _ (row_lt Rb1.out)).trans Rb1.out)
 replace Rb2:=Lib.hid ((hb.block _ (row_lt Rb2.out)).trans Rb2.out)
 replace Rb3:=Lib.hid ((hb.block _ (row_lt Rb3.out)).trans Rb3.out)
 replace Rb4:=Lib.hid ((hb.block _ (row_lt Rb4.out)).trans Rb4.out)
 replace Rb5:=Lib.hid ((hb.block _ (row_lt Rb5.out)).trans Rb5.out)
 replace HG:=Lib.hid (hg.out.below HB.out)
 replace HEW:=Lib.hid (HE0.out.below HB.out)
 replace HR1:=Lib.hid (hiCel.upd (Upd.of_new (S:=fun _=>False) hb) (fun _ _ h=>h) (fun _ h=>h) HR1.out)
 replace HR2:=Lib.hid (hiCel.upd (Upd.of_new (S:=fun _=>False) hb) (fun _ _ h=>h) (fun _ h=>h) HR2.out)
 replace HR3:=Lib.hid (hiCel.upd (Upd.of_new (S:=fun _=>False) hb) (fun _ _ h=>h) (fun _ h=>h) HR3.out)
 replace HR4:=Lib.hid (xpCel.upd (Upd.of_new (S:=fun _=>False) hb) (fun _ _ h=>h) (fun _ h=>h) HR4.out)
 replace HR5:=Lib.hid (xpCel.upd (Upd.of_new (S:=fun _=>False) hb) (fun _ _ h=>h) (fun _ h=>h) HR5.out)
 have HCR:Hid (CRels hiCel v2 (fun _=>True) [((a1,(t1,(k1,((ph1,pn1),(nc1,(nb1,(es1,(l1,(f1,((mh1,mn1),(gh1,gn1))))))))))),u1),((a2,(t2,(k2,((ph2,pn2),(nc2,(nb2,(es2,(l2,(f2,((mh2,mn2),(gh2,gn2))))))))))),u2),((a3,(t3,(k3,((ph3,pn3),(nc3,(nb3,(es3,(l3,(f3,((mh3,mn3),(gh3,gn3))))))))))),u3)] (some ⟨b6,0,none⟩)):=Lib.hid (crels_n (cs:=[[.slice lo1 l1.length lc1,.int .u64 (a1:Int),.int .u64 (t1:Int),.int .u64 (k1:Int),.bool ph1,.int .u64 (pn1:Int),.bool mh1,.int .u64 (mn1:Int),.bool gh1,.int .u64 (gn1:Int),.slice nco1 nc1.length ncc1,.slice nbo1 nb1.length nbc1,.slice eo1 es1.length ec1,.int .u32 (f1:Int),strV u1],[.slice lo2 l2.length lc2,.int .u64 (a2:Int),.int .u64 (t2:Int),.int .u64 (k2:Int),.bool ph2,.int .u64 (pn2:Int),.bool mh2,.int .u64 (mn2:Int),.bool gh2,.int .u64 (gn2:Int),.slice nco2 nc2.length ncc2,.slice nbo2 nb2.length nbc2,.slice eo2 es2.length ec2,.int .u32 (f2:Int),strV u2],[.slice lo3 l3.length lc3,.int .u64 (a3:Int),.int .u64 (t3:Int),.int .u64 (k3:Int),.bool ph3,.int .u64 (pn3:Int),.bool mh3,.int .u64 (mn3:Int),.bool gh3,.int .u64 (gn3:Int),.slice nco3 nc3.length ncc3,.slice nbo3 nb3.length nbc3,.slice eo3 es3.length ec3,.int .u32 (f3:Int),strV u3]]) hr rfl (fun j hj=>by
  match j,hj with
  | 0,_=>exact HR1.out
  | 1,_=>exact HR2.out
  | 2,_=>exact HR3.out))
 clear hr
 refine wpList_plain rfl (fun K hK=>?_);go_simp
 refine (fewh_any [((a1,(t1,(k1,((ph1,pn1),(nc1,(nb1,(es1,(l1,(f1,((mh1,mn1),(gh1,gn1))))))))))),u1),((a2,(t2,(k2,((ph2,pn2),(nc2,(nb2,(es2,(l2,(f2,((mh2,mn2),(gh2,gn2))))))))))),u2),((a3,(t3,(k3,((ph3,pn3),(nc3,(nb3,(es3,(l3,(f3,((mh3,mn3),(gh3,gn3))))))))))),u3)] (some ⟨b6,0,none⟩) 3 (fun _=>True) v2 (by simp) HCR (Lib.hid (fun x hx=>by simp at hx;rcases hx with rfl|rfl|rfl;exact hA1.out;exact hA2.out;exact hA3.out))).mono ?_
 rintro E v3 ⟨hb,rh,rfl,hfrh⟩
 clear HCR
 replace HB:=Lib.hid (below_step HB.out hb)
 replace Rb1:=Lib.hid ((hb.block _ (row_lt Rb1.out)).trans Rb1.out)
 replace Rb2:=Lib.hid ((hb.block _ (row_lt Rb2.out)).trans Rb2.out)
 replace Rb3:=Lib.hid ((hb.block _ (row_lt Rb3.out)).trans Rb3.out)
 replace Rb4:=Lib.hid ((hb.block _ (row_lt Rb4.out)).trans Rb4.out)
 replace Rb5:=Lib.hid ((hb.block _ (row_lt Rb5.out)).trans Rb5.out)
 replace HG:=Lib.hid (hg.out.below HB.out)
 replace HEW:=Lib.hid (HE0.out.below HB.out)
 replace HR1:=Lib.hid (hiCel.upd (Upd.of_new (S:=fun _=>False) hb) (fun _ _ h=>h) (fun _ h=>h) HR1.out)
 replace HR2:=Lib.hid (hiCel.upd (Upd.of_new (S:=fun _=>False) hb) (fun _ _ h=>h) (fun _ h=>h) HR2.out)
 replace HR3:=Lib.hid (hiCel.upd (Upd.of_new (S:=fun _=>False) hb) (fun _ _ h=>h) (fun _ h=>h) HR3.out)
 replace HR4:=Lib.hid (xpCel.upd (Upd.of_new (S:=fun _=>False) hb) (fun _ _ h=>h) (fun _ h=>h) HR4.out)
 replace HR5:=Lib.hid (xpCel.upd (Upd.of_new (S:=fun _=>False) hb) (fun _ _ h=>h) (fun _ h=>h) HR5.out)
 clear hb
 (try clear hb)
 go_simp
 refine hK _ _ ?_;clear hK K
 cases rh with
 | false =>
  iterate 7 (refine wpList_step fun K hK=>?_;go_simp;refine hK _ _ ?_;clear hK K)
  go_wp2_with fail
  refine (first25 v3 HG).mono ?_
  rintro E v4 ⟨rfl,hb⟩
  replace HB:=Lib.hid (below_step HB.out hb)
  replace Rb1:=Lib.hid ((hb.block _ (row_lt Rb1.out)).trans Rb1.out)
  replace Rb2:=Lib.hid ((hb.block _ (row_lt Rb2.out)).trans Rb2.out)
  replace Rb3:=Lib.hid ((hb.block _ (row_lt Rb3.out)).trans Rb3.out)
  replace Rb4:=Lib.hid ((hb.block _ (row_lt Rb4.out)).trans Rb4.out)
  replace Rb5:=Lib.hid ((hb.block _ (row_lt Rb5.out)).trans Rb5.out)
  replace HG:=Lib.hid (hg.out.below HB.out)
  replace HEW:=Lib.hid (HE0.out.below HB.out)
  replace HR1:=Lib.hid (hiCel.upd (Upd.of_new (S:=fun _=>False) hb) (fun _ _ h=>h) (fun _ h=>h) HR1.out)
  replace HR2:=Lib.hid (hiCel.upd (Upd.of_new (S:=fun _=>False) hb) (fun _ _ h=>h) (fun _ h=>h) HR2.out)
  replace HR3:=Lib.hid (hiCel.upd (Upd.of_new (S:=fun _=>False) hb) (fun _ _ h=>h) (fun _ h=>h) HR3.out)
  replace HR4:=Lib.hid (xpCel.upd (Upd.of_new (S:=fun _=>False) hb) (fun _ _ h=>h) (fun _ h=>h) HR4.out)
  replace HR5:=Lib.hid (xpCel.upd (Upd.of_new (S:=fun _=>False) hb) (fun _ _ h=>h) (fun _ h=>h) HR5.out)
  clear hb
  go_wp2_with fail
  go_ret
  exact ⟨rfl,HB.out⟩
 | true =>
  have HX1:Hid (HiB ((a1,(t1,(k1,((ph1,pn1),(nc1,(nb1,(es1,(l1,(f1,((mh1,mn1),(gh1,gn1))))))))))),u1)):=Lib.hid (hiB_arg hA1.out (hfrh rfl ((a1,(t1,(k1,((ph1,pn1),(nc1,(nb1,(es1,(l1,(f1,((mh1,mn1),(gh1,gn1))))))))))),u1) (by simp)))
  have HX2:Hid (HiB ((a2,(t2,(k2,((ph2,pn2),(nc2,(nb2,(es2,(l2,(f2,((mh2,mn2),(gh2,gn2))))))))))),u2)):=Lib.hid (hiB_arg hA2.out (hfrh rfl ((a2,(t2,(k2,((ph2,pn2),(nc2,(nb2,(es2,(l2,(f2,((mh2,mn2),(gh2,gn2))))))))))),u2) (by simp)))
  have HX3:Hid (HiB ((a3,(t3,(k3,((ph3,pn3),(nc3,(nb3,(es3,(l3,(f3,((mh3,mn3),(gh3,gn3))))))))))),u3)):=Lib.hid (hiB_arg hA3.out (hfrh rfl ((a3,(t3,(k3,((ph3,pn3),(nc3,(nb3,(es3,(l3,(f3,((mh3,mn3),(gh3,gn3))))))))))),u3) (by simp)))
  clear hfrh
  iterate 2 (refine wpList_step fun K hK=>?_;go_simp;refine hK _ _ ?_;clear hK K)
  refine wpList_unguard (by go_simp) ?_
  refine wpList_load_mid rfl 32 (.tmp 9) rfl b4 0 rfl [.slice lo4 l4.length lc4,.int .u64 (a4:Int),.int .u64 (t4:Int),.int .u64 (k4:Int),.bool bp4,.int .u64 (vp4:Int),.bool bm4,.int .u64 (vm4:Int),.bool bg4,.int .u64 (vg4:Int),.int .i32 sc4,.int .u64 (zc4:Int),.bool gp4,.int .i32 po4,.slice pco4 pc4.length pcc4,strV pu4,.bool gn4,.int .i32 no4,.slice nco4 nc4.length ncc4,strV nu4,.slice eo4 es4.length ec4,.int .u32 (f4:Int),.int .u64 (th4:Int),strV u4] _ (range_rowf Rb4.out) Tryd.underlying32 rfl (by kernel_rfl) ?_
  refine wpList_unguard (by go_simp) ?_
  refine wpList_load_mid rfl 32 (.tmp 10) rfl b5 0 rfl [.slice lo5 l5.length lc5,.int .u64 (a5:Int),.int .u64 (t5:Int),.int .u64 (k5:Int),.bool bp5,.int .u64 (vp5:Int),.bool bm5,.int .u64 (vm5:Int),.bool bg5,.int .u64 (vg5:Int),.int .i32 sc5,.int .u64 (zc5:Int),.bool gp5,.int .i32 po5,.slice pco5 pc5.length pcc5,strV pu5,.bool gn5,.int .i32 no5,.slice nco5 nc5.length ncc5,strV nu5,.slice eo5 es5.length ec5,.int .u32 (f5:Int),.int .u64 (th5:Int),strV u5] _ (range_rowf Rb5.out) Tryd.underlying32 rfl (by kernel_rfl) ?_
  refine wpList_unguard (by go_simp) ?_
  refine wpList_plain rfl (fun K hK=>?_);go_simp;refine hK _ _ ?_;clear hK K
  obtain ⟨b7,HNb7⟩:∃ x,Hid (v3.heap.size=x):=⟨_,Lib.hid rfl⟩
  obtain ⟨v4,HWv4⟩:∃ X,Hid (v3.alloc (.cells #[.slice lo4 l4.length lc4,.int .u64 (a4:Int),.int .u64 (t4:Int),.int .u64 (k4:Int),.bool bp4,.int .u64 (vp4:Int),.bool bm4,.int .u64 (vm4:Int),.bool bg4,.int .u64 (vg4:Int),.int .i32 sc4,.int .u64 (zc4:Int),.bool gp4,.int .i32 po4,.slice pco4 pc4.length pcc4,strV pu4,.bool gn4,.int .i32 no4,.slice nco4 nc4.length ncc4,strV nu4,.slice eo4 es4.length ec4,.int .u32 (f4:Int),.int .u64 (th4:Int),strV u4,.slice lo5 l5.length lc5,.int .u64 (a5:Int),.int .u64 (t5:Int),.int .u64 (k5:Int),.bool bp5,.int .u64 (vp5:Int),.bool bm5,.int .u64 (vm5:Int),.bool bg5,.int .u64 (vg5:Int),.int .i32 sc5,.int .u64 (zc5:Int),.bool gp5,.int .i32 po5,.slice pco5 pc5.length pcc5,strV pu5,.bool gn5,.int .i32 no5,.slice nco5 nc5.length ncc5,strV nu5,.slice eo5 es5.length ec5,.int .u32 (f5:Int),.int .u64 (th5:Int),strV u5] 32)=X):=⟨_,Lib.hid rfl⟩
  rw[HWv4.out,HNb7.out]
  have hb:Below v3.heap.size v3 v4:=by rw[←HWv4.out];exact below_new _ _
  have hr:v4.heap[b7]? = some (.cells #[.slice lo4 l4.length lc4,.int .u64 (a4:Int),.int .u64 (t4:Int),.int .u64 (k4:Int),.bool bp4,.int .u64 (vp4:Int),.bool bm4,.int .u64 (vm4:Int),.bool bg4,.int .u64 (vg4:Int),.int .i32 sc4,.int .u64 (zc4:Int),.bool gp4,.int .i32 po4,.slice pco4 pc4.length pcc4,strV pu4,.bool gn4,.int .i32 no4,.slice nco4 nc4.length ncc4,strV nu4,.slice eo4 es4.length ec4,.int .u32 (f4:Int),.int .u64 (th4:Int),strV u4,.slice lo5 l5.length lc5,.int .u64 (a5:Int),.int .u64 (t5:Int),.int .u64 (k5:Int),.bool bp5,.int .u64 (vp5:Int),.bool bm5,.int .u64 (vm5:Int),.bool bg5,.int .u64 (vg5:Int),.int .i32 sc5,.int .u64 (zc5:Int),.bool gp5,.int .i32 po5,.slice pco5 pc5.length pcc5,strV pu5,.bool gn5,.int .i32 no5,.slice nco5 nc5.length ncc5,strV nu5,.slice eo5 es5.length ec5,.int .u32 (f5:Int),.int .u64 (th5:Int),strV u5] 32 (0,0)):=by rw[←HWv4.out,←HNb7.out];exact heap_alloc_new v3 _
  replace HB:=Lib.hid (below_step HB.out hb)
  replace Rb1:=Lib.hid ((hb.block _ (row_lt Rb1.out)).trans Rb1.out)
  replace Rb2:=Lib.hid ((hb.block _ (row_lt Rb2.out)).trans Rb2.out)
  replace Rb3:=Lib.hid ((hb.block _ (row_lt Rb3.out)).trans Rb3.out)
  replace Rb4:=Lib.hid ((hb.block _ (row_lt Rb4.out)).trans Rb4.out)
  replace Rb5:=Lib.hid ((hb.block _ (row_lt Rb5.out)).trans Rb5.out)
  replace HG:=Lib.hid (hg.out.below HB.out)
  replace HEW:=Lib.hid (HE0.out.below HB.out)
  replace HR1:=Lib.hid (hiCel.upd (Upd.of_new (S:=fun _=>False) hb) (fun _ _ h=>h) (fun _ h=>h) HR1.out)
  replace HR2:=Lib.hid (hiCel.upd (Upd.of_new (S:=fun _=>False) hb) (fun _ _ h=>h) (fun _ h=>h) HR2.out)
  replace HR3:=Lib.hid (hiCel.upd (Upd.of_new (S:=fun _=>False) hb) (fun _ _ h=>h) (fun _ h=>h) HR3.out)
  replace HR4:=Lib.hid (xpCel.upd (Upd.of_new (S:=fun _=>False) hb) (fun _ _ h=>h) (fun _ h=>h) HR4.out)
  replace HR5:=Lib.hid (xpCel.upd (Upd.of_new (S:=fun _=>False) hb) (fun _ _ h=>h) (fun _ h=>h) HR5.out)
  have HCR:Hid (CRels xpCel v4 (fun _=>True) [((l4,(a4,(t4,(k4,((bp4,vp4),(sc4,(zc4,((gp4,⟨po4,pc4⟩,pu4),((gn4,⟨no4,nc4⟩,nu4),(f4,(es4,((bm4,vm4),((bg4,vg4),th4))))))))))))),u4),((l5,(a5,(t5,(k5,((bp5,vp5),(sc5,(zc5,((gp5,⟨po5,pc5⟩,pu5),((gn5,⟨no5,nc5⟩,nu5),(f5,(es5,((bm5,vm5),((bg5,vg5),th5))))))))))))),u5)] (some ⟨b7,0,none⟩)):=Lib.hid (crels_n (cs:=[[.slice lo4 l4.length lc4,.int .u64 (a4:Int),.int .u64 (t4:Int),.int .u64 (k4:Int),.bool bp4,.int .u64 (vp4:Int),.bool bm4,.int .u64 (vm4:Int),.bool bg4,.int .u64 (vg4:Int),.int .i32 sc4,.int .u64 (zc4:Int),.bool gp4,.int .i32 po4,.slice pco4 pc4.length pcc4,strV pu4,.bool gn4,.int .i32 no4,.slice nco4 nc4.length ncc4,strV nu4,.slice eo4 es4.length ec4,.int .u32 (f4:Int),.int .u64 (th4:Int),strV u4],[.slice lo5 l5.length lc5,.int .u64 (a5:Int),.int .u64 (t5:Int),.int .u64 (k5:Int),.bool bp5,.int .u64 (vp5:Int),.bool bm5,.int .u64 (vm5:Int),.bool bg5,.int .u64 (vg5:Int),.int .i32 sc5,.int .u64 (zc5:Int),.bool gp5,.int .i32 po5,.slice pco5 pc5.length pcc5,strV pu5,.bool gn5,.int .i32 no5,.slice nco5 nc5.length ncc5,strV nu5,.slice eo5 es5.length ec5,.int .u32 (f5:Int),.int .u64 (th5:Int),strV u5]]) hr rfl (fun j hj=>by
   match j,hj with
   | 0,_=>exact HR4.out
   | 1,_=>exact HR5.out))
  clear hr
  refine wpList_unguard (by go_simp) ?_
  refine wpList_plain rfl (fun K hK=>?_);go_simp
  refine (few_any [((l4,(a4,(t4,(k4,((bp4,vp4),(sc4,(zc4,((gp4,⟨po4,pc4⟩,pu4),((gn4,⟨no4,nc4⟩,nu4),(f4,(es4,((bm4,vm4),((bg4,vg4),th4))))))))))))),u4),((l5,(a5,(t5,(k5,((bp5,vp5),(sc5,(zc5,((gp5,⟨po5,pc5⟩,pu5),((gn5,⟨no5,nc5⟩,nu5),(f5,(es5,((bm5,vm5),((bg5,vg5),th5))))))))))))),u5)] (some ⟨b7,0,none⟩) 2 (fun _=>True) v4 (by simp) HCR (Lib.hid (fun x hx=>by simp at hx;rcases hx with rfl|rfl;exact hA4.out;exact hA5.out))).mono ?_
  rintro E v5 ⟨hb,rx,rfl,hfrx⟩
  clear HCR
  replace HB:=Lib.hid (below_step HB.out hb)
  replace Rb1:=Lib.hid ((hb.block _ (row_lt Rb1.out)).trans Rb1.out)
  replace Rb2:=Lib.hid ((hb.block _ (row_lt Rb2.out)).trans Rb2.out)
  replace Rb3:=Lib.hid ((hb.block _ (row_lt Rb3.out)).trans Rb3.out)
  replace Rb4:=Lib.hid ((hb.block _ (row_lt Rb4.out)).trans Rb4.out)
  replace Rb5:=Lib.hid ((hb.block _ (row_lt Rb5.out)).trans Rb5.out)
  replace HG:=Lib.hid (hg.out.below HB.out)
  replace HEW:=Lib.hid (HE0.out.below HB.out)
  replace HR1:=Lib.hid (hiCel.upd (Upd.of_new (S:=fun _=>False) hb) (fun _ _ h=>h) (fun _ h=>h) HR1.out)
  replace HR2:=Lib.hid (hiCel.upd (Upd.of_new (S:=fun _=>False) hb) (fun _ _ h=>h) (fun _ h=>h) HR2.out)
  replace HR3:=Lib.hid (hiCel.upd (Upd.of_new (S:=fun _=>False) hb) (fun _ _ h=>h) (fun _ h=>h) HR3.out)
  replace HR4:=Lib.hid (xpCel.upd (Upd.of_new (S:=fun _=>False) hb) (fun _ _ h=>h) (fun _ h=>h) HR4.out)
  replace HR5:=Lib.hid (xpCel.upd (Upd.of_new (S:=fun _=>False) hb) (fun _ _ h=>h) (fun _ h=>h) HR5.out)
  clear hb
  (try clear hb)
  go_simp
  refine hK _ _ ?_;clear hK K
  cases rx with
  | false =>
   go_wp2_with fail
   refine (first25 v5 HG).mono ?_
   rintro E v6 ⟨rfl,hb⟩
   replace HB:=Lib.hid (below_step HB.out hb)
   replace Rb1:=Lib.hid ((hb.block _ (row_lt Rb1.out)).trans Rb1.out)
   replace Rb2:=Lib.hid ((hb.block _ (row_lt Rb2.out)).trans Rb2.out)
   replace Rb3:=Lib.hid ((hb.block _ (row_lt Rb3.out)).trans Rb3.out)
   replace Rb4:=Lib.hid ((hb.block _ (row_lt Rb4.out)).trans Rb4.out)
   replace Rb5:=Lib.hid ((hb.block _ (row_lt Rb5.out)).trans Rb5.out)
   replace HG:=Lib.hid (hg.out.below HB.out)
   replace HEW:=Lib.hid (HE0.out.below HB.out)
   replace HR1:=Lib.hid (hiCel.upd (Upd.of_new (S:=fun _=>False) hb) (fun _ _ h=>h) (fun _ h=>h) HR1.out)
   replace HR2:=Lib.hid (hiCel.upd (Upd.of_new (S:=fun _=>False) hb) (fun _ _ h=>h) (fun _ h=>h) HR2.out)
   replace HR3:=Lib.hid (hiCel.upd (Upd.of_new (S:=fun _=>False) hb) (fun _ _ h=>h) (fun _ h=>h) HR3.out)
   replace HR4:=Lib.hid (xpCel.upd (Upd.of_new (S:=fun _=>False) hb) (fun _ _ h=>h) (fun _ h=>h) HR4.out)
   replace HR5:=Lib.hid (xpCel.upd (Upd.of_new (S:=fun _=>False) hb) (fun _ _ h=>h) (fun _ h=>h) HR5.out)
   clear hb
   go_wp2_with fail
   go_ret
   exact ⟨rfl,HB.out⟩
  | true =>
   have HX4:Hid (XpB ((l4,(a4,(t4,(k4,((bp4,vp4),(sc4,(zc4,((gp4,⟨po4,pc4⟩,pu4),((gn4,⟨no4,nc4⟩,nu4),(f4,(es4,((bm4,vm4),((bg4,vg4),th4))))))))))))),u4)):=Lib.hid (xpB_arg hA4.out (hfrx rfl ((l4,(a4,(t4,(k4,((bp4,vp4),(sc4,(zc4,((gp4,⟨po4,pc4⟩,pu4),((gn4,⟨no4,nc4⟩,nu4),(f4,(es4,((bm4,vm4),((bg4,vg4),th4))))))))))))),u4) (by simp)))
   have HX5:Hid (XpB ((l5,(a5,(t5,(k5,((bp5,vp5),(sc5,(zc5,((gp5,⟨po5,pc5⟩,pu5),((gn5,⟨no5,nc5⟩,nu5),(f5,(es5,((bm5,vm5),((bg5,vg5),th5))))))))))))),u5)):=Lib.hid (xpB_arg hA5.out (hfrx rfl ((l5,(a5,(t5,(k5,((bp5,vp5),(sc5,(zc5,((gp5,⟨po5,pc5⟩,pu5),((gn5,⟨no5,nc5⟩,nu5),(f5,(es5,((bm5,vm5),((bg5,vg5),th5))))))))))))),u5) (by simp)))
   clear hfrx hA1 hA2 hA3 hA4 hA5
   obtain ⟨hp,HHp⟩:∃ z,Hid (hs ((a1,(t1,(k1,((ph1,pn1),(nc1,(nb1,(es1,(l1,(f1,((mh1,mn1),(gh1,gn1))))))))))),u1) ((a2,(t2,(k2,((ph2,pn2),(nc2,(nb2,(es2,(l2,(f2,((mh2,mn2),(gh2,gn2))))))))))),u2)=z):=⟨_,Lib.hid rfl⟩
   obtain ⟨op,HOp⟩:∃ z,Hid (hsOk ((a1,(t1,(k1,((ph1,pn1),(nc1,(nb1,(es1,(l1,(f1,((mh1,mn1),(gh1,gn1))))))))))),u1) ((a2,(t2,(k2,((ph2,pn2),(nc2,(nb2,(es2,(l2,(f2,((mh2,mn2),(gh2,gn2))))))))))),u2)=z):=⟨_,Lib.hid rfl⟩
   have HXp:Hid (HiB hp):=Lib.hid (by rw[←HHp.out];exact hiB_hs HX1.out HX2.out)
   go_upto_region 5 with fail
   refine wp_region_lit ?_
   refine wpList_load_mid rfl 48 (.tmp 6) rfl b1 0 rfl [.slice lo1 l1.length lc1,.int .u64 (a1:Int),.int .u64 (t1:Int),.int .u64 (k1:Int),.bool ph1,.int .u64 (pn1:Int),.bool mh1,.int .u64 (mn1:Int),.bool gh1,.int .u64 (gn1:Int),.slice nco1 nc1.length ncc1,.slice nbo1 nb1.length nbc1,.slice eo1 es1.length ec1,.int .u32 (f1:Int),strV u1] _ (range_rowf Rb1.out) Tryd.underlying48 rfl (by kernel_rfl) ?_
   refine wpList_load_mid rfl 48 (.tmp 7) rfl b2 0 rfl [.slice lo2 l2.length lc2,.int .u64 (a2:Int),.int .u64 (t2:Int),.int .u64 (k2:Int),.bool ph2,.int .u64 (pn2:Int),.bool mh2,.int .u64 (mn2:Int),.bool gh2,.int .u64 (gn2:Int),.slice nco2 nc2.length ncc2,.slice nbo2 nb2.length nbc2,.slice eo2 es2.length ec2,.int .u32 (f2:Int),strV u2] _ (range_rowf Rb2.out) Tryd.underlying48 rfl (by kernel_rfl) ?_
   refine wpList_plain rfl (fun K hK=>?_);go_simp
   refine (mh_u ((a1,(t1,(k1,((ph1,pn1),(nc1,(nb1,(es1,(l1,(f1,((mh1,mn1),(gh1,gn1))))))))))),u1) ((a2,(t2,(k2,((ph2,pn2),(nc2,(nb2,(es2,(l2,(f2,((mh2,mn2),(gh2,gn2))))))))))),u2) [.slice lo1 l1.length lc1,.int .u64 (a1:Int),.int .u64 (t1:Int),.int .u64 (k1:Int),.bool ph1,.int .u64 (pn1:Int),.bool mh1,.int .u64 (mn1:Int),.bool gh1,.int .u64 (gn1:Int),.slice nco1 nc1.length ncc1,.slice nbo1 nb1.length nbc1,.slice eo1 es1.length ec1,.int .u32 (f1:Int),strV u1] [.slice lo2 l2.length lc2,.int .u64 (a2:Int),.int .u64 (t2:Int),.int .u64 (k2:Int),.bool ph2,.int .u64 (pn2:Int),.bool mh2,.int .u64 (mn2:Int),.bool gh2,.int .u64 (gn2:Int),.slice nco2 nc2.length ncc2,.slice nbo2 nb2.length nbc2,.slice eo2 es2.length ec2,.int .u32 (f2:Int),strV u2] (fun _=>True) v5 HX1.out HX2.out HR1.out HR2.out).mono ?_
   rintro E w1 ⟨hb,cp,ep,rfl,hrel,herr⟩
   rw[HHp.out] at hrel
   rw[HOp.out] at herr
   replace HB:=Lib.hid (below_step HB.out hb)
   replace Rb1:=Lib.hid ((hb.block _ (row_lt Rb1.out)).trans Rb1.out)
   replace Rb2:=Lib.hid ((hb.block _ (row_lt Rb2.out)).trans Rb2.out)
   replace Rb3:=Lib.hid ((hb.block _ (row_lt Rb3.out)).trans Rb3.out)
   replace Rb4:=Lib.hid ((hb.block _ (row_lt Rb4.out)).trans Rb4.out)
   replace Rb5:=Lib.hid ((hb.block _ (row_lt Rb5.out)).trans Rb5.out)
   replace HG:=Lib.hid (hg.out.below HB.out)
   replace HEW:=Lib.hid (HE0.out.below HB.out)
   replace HR1:=Lib.hid (hiCel.upd (Upd.of_new (S:=fun _=>False) hb) (fun _ _ h=>h) (fun _ h=>h) HR1.out)
   replace HR2:=Lib.hid (hiCel.upd (Upd.of_new (S:=fun _=>False) hb) (fun _ _ h=>h) (fun _ h=>h) HR2.out)
   replace HR3:=Lib.hid (hiCel.upd (Upd.of_new (S:=fun _=>False) hb) (fun _ _ h=>h) (fun _ h=>h) HR3.out)
   replace HR4:=Lib.hid (xpCel.upd (Upd.of_new (S:=fun _=>False) hb) (fun _ _ h=>h) (fun _ h=>h) HR4.out)
   replace HR5:=Lib.hid (xpCel.upd (Upd.of_new (S:=fun _=>False) hb) (fun _ _ h=>h) (fun _ h=>h) HR5.out)
   have HRp:=Lib.hid hrel
   have HVp:=Lib.hid herr
   have HLp:=Lib.hid (hi_cells hrel).1
   have HCp:=Lib.hid (hi_cells hrel).2.1
   clear hb hrel herr
   go_simp
   refine hK _ _ ?_;clear hK K
   iterate 3 (refine wpList_plain rfl (fun K hK=>?_);go_simp;refine hK _ _ ?_;clear hK K)
   refine wpList_plain rfl (fun K hK=>?_);go_simp;refine hK _ _ ?_;clear hK K
   obtain ⟨bp,HNbp⟩:∃ x,Hid (w1.heap.size=x):=⟨_,Lib.hid rfl⟩
   obtain ⟨w1a,HWabp⟩:∃ X,Hid (w1.alloc (.cells #[.slice none 0 0,.int .u64 0,.int .u64 0,.int .u64 0,.bool false,.int .u64 0,.bool false,.int .u64 0,.bool false,.int .u64 0,.slice none 0 0,.slice none 0 0,.slice none 0 0,.int .u32 0,.string ⟨#[]⟩] 48)=X):=⟨_,Lib.hid rfl⟩
   rw[HWabp.out,HNbp.out]
   have hb:Below w1.heap.size w1 w1a:=by rw[←HWabp.out];exact below_new _ _
   have hr:w1a.heap[bp]? = some (.cells #[.slice none 0 0,.int .u64 0,.int .u64 0,.int .u64 0,.bool false,.int .u64 0,.bool false,.int .u64 0,.bool false,.int .u64 0,.slice none 0 0,.slice none 0 0,.slice none 0 0,.int .u32 0,.string ⟨#[]⟩] 48 (0,0)):=by rw[←HWabp.out,←HNbp.out];exact heap_alloc_new w1 _
   have HGEn:Hid ((w.heap.size≤b1∧b1<b2∧b2<b3∧b3<b4∧b4<b5)∧b5<bp):=Lib.hid ⟨HGE.out,by have h1:=row_lt Rb5.out;have h2:=HNbp.out;omega⟩
   replace HB:=Lib.hid (below_step HB.out hb)
   replace Rb1:=Lib.hid ((hb.block _ (row_lt Rb1.out)).trans Rb1.out)
   replace Rb2:=Lib.hid ((hb.block _ (row_lt Rb2.out)).trans Rb2.out)
   replace Rb3:=Lib.hid ((hb.block _ (row_lt Rb3.out)).trans Rb3.out)
   replace Rb4:=Lib.hid ((hb.block _ (row_lt Rb4.out)).trans Rb4.out)
   replace Rb5:=Lib.hid ((hb.block _ (row_lt Rb5.out)).trans Rb5.out)
   have Rbp:=Lib.hid hr
   clear hb hr
   have hbz:Below w1.heap.size w1 w1a:=by rw[←HWabp.out];exact below_new _ _
   refine wpList_store_row rfl 48 (.tmp 13) (.tmp 45) rfl bp cp.toArray rfl rfl 48 _ Rbp.out (by rw[List.size_toArray,HLp.out];kernel_rfl) (Eq.symm (show cp.toArray.size=15 from (by rw[List.size_toArray,HLp.out]))) HCp.out ?_
   obtain ⟨w1b,HWbbp⟩:∃ X,Hid (w1a.setRow bp cp.toArray=X):=⟨_,Lib.hid rfl⟩
   rw[HWbbp.out]
   have hu:Upd (fun k=>k=bp) w1a w1b:=by rw[←HWbbp.out];exact upd_setRow _ _ _
   have hr:w1b.heap[bp]? = some (.cells cp.toArray 48 (0,0)):=by rw[←HWbbp.out];exact setRow_heap _ _ _ _ _ _ Rbp.out
   replace HB:=Lib.hid (HB.out.trans (hu.below HB.out.size (fun k _ hk=>by have hk:k=bp:=hk;have:=HGEn.out;omega)))
   replace Rb1:=Lib.hid ((hu.block _ (row_lt Rb1.out) (fun h=>by have h:b1=bp:=h;have:=HGEn.out;omega)).trans Rb1.out)
   replace Rb2:=Lib.hid ((hu.block _ (row_lt Rb2.out) (fun h=>by have h:b2=bp:=h;have:=HGEn.out;omega)).trans Rb2.out)
   replace Rb3:=Lib.hid ((hu.block _ (row_lt Rb3.out) (fun h=>by have h:b3=bp:=h;have:=HGEn.out;omega)).trans Rb3.out)
   replace Rb4:=Lib.hid ((hu.block _ (row_lt Rb4.out) (fun h=>by have h:b4=bp:=h;have:=HGEn.out;omega)).trans Rb4.out)
   replace Rb5:=Lib.hid ((hu.block _ (row_lt Rb5.out) (fun h=>by have h:b5=bp:=h;have:=HGEn.out;omega)).trans Rb5.out)
   replace Rbp:=Lib.hid (hr)
   have hbb:Below w1.heap.size w1 w1b:=hbz.trans (hu.below hbz.size (fun k _ hk=>by have hk:k=bp:=hk;have:=HNbp.out;omega))
   replace HR1:=Lib.hid (hiCel.upd (Upd.of_new (S:=fun _=>False) hbb) (fun _ _ h=>h) (fun _ h=>h) HR1.out)
   replace HR2:=Lib.hid (hiCel.upd (Upd.of_new (S:=fun _=>False) hbb) (fun _ _ h=>h) (fun _ h=>h) HR2.out)
   replace HR3:=Lib.hid (hiCel.upd (Upd.of_new (S:=fun _=>False) hbb) (fun _ _ h=>h) (fun _ h=>h) HR3.out)
   replace HR4:=Lib.hid (xpCel.upd (Upd.of_new (S:=fun _=>False) hbb) (fun _ _ h=>h) (fun _ h=>h) HR4.out)
   replace HR5:=Lib.hid (xpCel.upd (Upd.of_new (S:=fun _=>False) hbb) (fun _ _ h=>h) (fun _ h=>h) HR5.out)
   replace HRp:=Lib.hid (hiCel.upd (Upd.of_new (S:=fun _=>False) hbb) (fun _ _ h=>h) (fun _ h=>h) HRp.out)
   clear hu hr hbz hbb
   replace HG:=Lib.hid (hg.out.below HB.out)
   replace HEW:=Lib.hid (HE0.out.below HB.out)
   refine wpList_plain rfl (fun K hK=>?_);go_simp;refine hK _ _ ?_;clear hK K
   obtain ⟨hq,HHq⟩:∃ z,Hid (hs hp ((a3,(t3,(k3,((ph3,pn3),(nc3,(nb3,(es3,(l3,(f3,((mh3,mn3),(gh3,gn3))))))))))),u3)=z):=⟨_,Lib.hid rfl⟩
   obtain ⟨oq,HOq⟩:∃ z,Hid (hsOk hp ((a3,(t3,(k3,((ph3,pn3),(nc3,(nb3,(es3,(l3,(f3,((mh3,mn3),(gh3,gn3))))))))))),u3)=z):=⟨_,Lib.hid rfl⟩
   have HXq:Hid (HiB hq):=Lib.hid (by rw[←HHq.out];exact hiB_hs HXp.out HX3.out)
   go_upto_region 6 with fail
   refine wp_region_lit ?_
   refine wpList_load_mid rfl 48 (.tmp 13) rfl bp 0 rfl cp _ (range_rowf Rbp.out) Tryd.underlying48 rfl (by rw[HLp.out];kernel_rfl) ?_
   refine wpList_load_mid rfl 48 (.tmp 8) rfl b3 0 rfl [.slice lo3 l3.length lc3,.int .u64 (a3:Int),.int .u64 (t3:Int),.int .u64 (k3:Int),.bool ph3,.int .u64 (pn3:Int),.bool mh3,.int .u64 (mn3:Int),.bool gh3,.int .u64 (gn3:Int),.slice nco3 nc3.length ncc3,.slice nbo3 nb3.length nbc3,.slice eo3 es3.length ec3,.int .u32 (f3:Int),strV u3] _ (range_rowf Rb3.out) Tryd.underlying48 rfl (by kernel_rfl) ?_
   refine wpList_plain rfl (fun K hK=>?_);go_simp
   refine (mh_u hp ((a3,(t3,(k3,((ph3,pn3),(nc3,(nb3,(es3,(l3,(f3,((mh3,mn3),(gh3,gn3))))))))))),u3) cp [.slice lo3 l3.length lc3,.int .u64 (a3:Int),.int .u64 (t3:Int),.int .u64 (k3:Int),.bool ph3,.int .u64 (pn3:Int),.bool mh3,.int .u64 (mn3:Int),.bool gh3,.int .u64 (gn3:Int),.slice nco3 nc3.length ncc3,.slice nbo3 nb3.length nbc3,.slice eo3 es3.length ec3,.int .u32 (f3:Int),strV u3] (fun _=>True) w1b HXp.out HX3.out HRp.out HR3.out).mono ?_
   rintro E w2 ⟨hb,cq,eq,rfl,hrel,herr⟩
   rw[HHq.out] at hrel
   rw[HOq.out] at herr
   replace HB:=Lib.hid (below_step HB.out hb)
   replace Rb1:=Lib.hid ((hb.block _ (row_lt Rb1.out)).trans Rb1.out)
   replace Rb2:=Lib.hid ((hb.block _ (row_lt Rb2.out)).trans Rb2.out)
   replace Rb3:=Lib.hid ((hb.block _ (row_lt Rb3.out)).trans Rb3.out)
   replace Rb4:=Lib.hid ((hb.block _ (row_lt Rb4.out)).trans Rb4.out)
   replace Rb5:=Lib.hid ((hb.block _ (row_lt Rb5.out)).trans Rb5.out)
   replace Rbp:=Lib.hid ((hb.block _ (row_lt Rbp.out)).trans Rbp.out)
   replace HG:=Lib.hid (hg.out.below HB.out)
   replace HEW:=Lib.hid (HE0.out.below HB.out)
   replace HR1:=Lib.hid (hiCel.upd (Upd.of_new (S:=fun _=>False) hb) (fun _ _ h=>h) (fun _ h=>h) HR1.out)
   replace HR2:=Lib.hid (hiCel.upd (Upd.of_new (S:=fun _=>False) hb) (fun _ _ h=>h) (fun _ h=>h) HR2.out)
   replace HR3:=Lib.hid (hiCel.upd (Upd.of_new (S:=fun _=>False) hb) (fun _ _ h=>h) (fun _ h=>h) HR3.out)
   replace HR4:=Lib.hid (xpCel.upd (Upd.of_new (S:=fun _=>False) hb) (fun _ _ h=>h) (fun _ h=>h) HR4.out)
   replace HR5:=Lib.hid (xpCel.upd (Upd.of_new (S:=fun _=>False) hb) (fun _ _ h=>h) (fun _ h=>h) HR5.out)
   replace HRp:=Lib.hid (hiCel.upd (Upd.of_new (S:=fun _=>False) hb) (fun _ _ h=>h) (fun _ h=>h) HRp.out)
   have HRq:=Lib.hid hrel
   have HVq:=Lib.hid herr
   have HLq:=Lib.hid (hi_cells hrel).1
   have HCq:=Lib.hid (hi_cells hrel).2.1
   clear hb hrel herr
   go_simp
   refine hK _ _ ?_;clear hK K
   iterate 3 (refine wpList_plain rfl (fun K hK=>?_);go_simp;refine hK _ _ ?_;clear hK K)
   refine wpList_plain rfl (fun K hK=>?_);go_simp;refine hK _ _ ?_;clear hK K
   obtain ⟨bq,HNbq⟩:∃ x,Hid (w2.heap.size=x):=⟨_,Lib.hid rfl⟩
   obtain ⟨w2a,HWabq⟩:∃ X,Hid (w2.alloc (.cells #[.slice none 0 0,.int .u64 0,.int .u64 0,.int .u64 0,.bool false,.int .u64 0,.bool false,.int .u64 0,.bool false,.int .u64 0,.slice none 0 0,.slice none 0 0,.slice none 0 0,.int .u32 0,.string ⟨#[]⟩] 48)=X):=⟨_,Lib.hid rfl⟩
   rw[HWabq.out,HNbq.out]
   have hb:Below w2.heap.size w2 w2a:=by rw[←HWabq.out];exact below_new _ _
   have hr:w2a.heap[bq]? = some (.cells #[.slice none 0 0,.int .u64 0,.int .u64 0,.int .u64 0,.bool false,.int .u64 0,.bool false,.int .u64 0,.bool false,.int .u64 0,.slice none 0 0,.slice none 0 0,.slice none 0 0,.int .u32 0,.string ⟨#[]⟩] 48 (0,0)):=by rw[←HWabq.out,←HNbq.out];exact heap_alloc_new w2 _
   have HGEnn:Hid (((w.heap.size≤b1∧b1<b2∧b2<b3∧b3<b4∧b4<b5)∧b5<bp)∧bp<bq):=Lib.hid ⟨HGEn.out,by have h1:=row_lt Rbp.out;have h2:=HNbq.out;omega⟩
   replace HB:=Lib.hid (below_step HB.out hb)
   replace Rb1:=Lib.hid ((hb.block _ (row_lt Rb1.out)).trans Rb1.out)
   replace Rb2:=Lib.hid ((hb.block _ (row_lt Rb2.out)).trans Rb2.out)
   replace Rb3:=Lib.hid ((hb.block _ (row_lt Rb3.out)).trans Rb3.out)
   replace Rb4:=Lib.hid ((hb.block _ (row_lt Rb4.out)).trans Rb4.out)
   replace Rb5:=Lib.hid ((hb.block _ (row_lt Rb5.out)).trans Rb5.out)
   replace Rbp:=Lib.hid ((hb.block _ (row_lt Rbp.out)).trans Rbp.out)
   have Rbq:=Lib.hid hr
   clear hb hr
   have hbz:Below w2.heap.size w2 w2a:=by rw[←HWabq.out];exact below_new _ _
   refine wpList_store_row rfl 48 (.tmp 15) (.tmp 51) rfl bq cq.toArray rfl rfl 48 _ Rbq.out (by rw[List.size_toArray,HLq.out];kernel_rfl) (Eq.symm (show cq.toArray.size=15 from (by rw[List.size_toArray,HLq.out]))) HCq.out ?_
   obtain ⟨w2b,HWbbq⟩:∃ X,Hid (w2a.setRow bq cq.toArray=X):=⟨_,Lib.hid rfl⟩
   rw[HWbbq.out]
   have hu:Upd (fun k=>k=bq) w2a w2b:=by rw[←HWbbq.out];exact upd_setRow _ _ _
   have hr:w2b.heap[bq]? = some (.cells cq.toArray 48 (0,0)):=by rw[←HWbbq.out];exact setRow_heap _ _ _ _ _ _ Rbq.out
   replace HB:=Lib.hid (HB.out.trans (hu.below HB.out.size (fun k _ hk=>by have hk:k=bq:=hk;have:=HGEnn.out;omega)))
   replace Rb1:=Lib.hid ((hu.block _ (row_lt Rb1.out) (fun h=>by have h:b1=bq:=h;have:=HGEnn.out;omega)).trans Rb1.out)
   replace Rb2:=Lib.hid ((hu.block _ (row_lt Rb2.out) (fun h=>by have h:b2=bq:=h;have:=HGEnn.out;omega)).trans Rb2.out)
   replace Rb3:=Lib.hid ((hu.block _ (row_lt Rb3.out) (fun h=>by have h:b3=bq:=h;have:=HGEnn.out;omega)).trans Rb3.out)
   replace Rb4:=Lib.hid ((hu.block _ (row_lt Rb4.out) (fun h=>by have h:b4=bq:=h;have:=HGEnn.out;omega)).trans Rb4.out)
   replace Rb5:=Lib.hid ((hu.block _ (row_lt Rb5.out) (fun h=>by have h:b5=bq:=h;have:=HGEnn.out;omega)).trans Rb5.out)
   replace Rbp:=Lib.hid ((hu.block _ (row_lt Rbp.out) (fun h=>by have h:bp=bq:=h;have:=HGEnn.out;omega)).trans Rbp.out)
   replace Rbq:=Lib.hid (hr)
   have hbb:Below w2.heap.size w2 w2b:=hbz.trans (hu.below hbz.size (fun k _ hk=>by have hk:k=bq:=hk;have:=HNbq.out;omega))
   replace HR1:=Lib.hid (hiCel.upd (Upd.of_new (S:=fun _=>False) hbb) (fun _ _ h=>h) (fun _ h=>h) HR1.out)
   replace HR2:=Lib.hid (hiCel.upd (Upd.of_new (S:=fun _=>False) hbb) (fun _ _ h=>h) (fun _ h=>h) HR2.out)
   replace HR3:=Lib.hid (hiCel.upd (Upd.of_new (S:=fun _=>False) hbb) (fun _ _ h=>h) (fun _ h=>h) HR3.out)
   replace HR4:=Lib.hid (xpCel.upd (Upd.of_new (S:=fun _=>False) hbb) (fun _ _ h=>h) (fun _ h=>h) HR4.out)
   replace HR5:=Lib.hid (xpCel.upd (Upd.of_new (S:=fun _=>False) hbb) (fun _ _ h=>h) (fun _ h=>h) HR5.out)
   replace HRp:=Lib.hid (hiCel.upd (Upd.of_new (S:=fun _=>False) hbb) (fun _ _ h=>h) (fun _ h=>h) HRp.out)
   replace HRq:=Lib.hid (hiCel.upd (Upd.of_new (S:=fun _=>False) hbb) (fun _ _ h=>h) (fun _ h=>h) HRq.out)
   clear hu hr hbz hbb
   replace HG:=Lib.hid (hg.out.below HB.out)
   replace HEW:=Lib.hid (HE0.out.below HB.out)
   refine wpList_plain rfl (fun K hK=>?_);go_simp;refine hK _ _ ?_;clear hK K
   obtain ⟨hr,HHr⟩:∃ z,Hid (hs ((a2,(t2,(k2,((ph2,pn2),(nc2,(nb2,(es2,(l2,(f2,((mh2,mn2),(gh2,gn2))))))))))),u2) ((a3,(t3,(k3,((ph3,pn3),(nc3,(nb3,(es3,(l3,(f3,((mh3,mn3),(gh3,gn3))))))))))),u3)=z):=⟨_,Lib.hid rfl⟩
   obtain ⟨or,HOr⟩:∃ z,Hid (hsOk ((a2,(t2,(k2,((ph2,pn2),(nc2,(nb2,(es2,(l2,(f2,((mh2,mn2),(gh2,gn2))))))))))),u2) ((a3,(t3,(k3,((ph3,pn3),(nc3,(nb3,(es3,(l3,(f3,((mh3,mn3),(gh3,gn3))))))))))),u3)=z):=⟨_,Lib.hid rfl⟩
   have HXr:Hid (HiB hr):=Lib.hid (by rw[←HHr.out];exact hiB_hs HX2.out HX3.out)
   go_upto_region 7 with fail
   refine wp_region_lit ?_
   refine wpList_load_mid rfl 48 (.tmp 7) rfl b2 0 rfl [.slice lo2 l2.length lc2,.int .u64 (a2:Int),.int .u64 (t2:Int),.int .u64 (k2:Int),.bool ph2,.int .u64 (pn2:Int),.bool mh2,.int .u64 (mn2:Int),.bool gh2,.int .u64 (gn2:Int),.slice nco2 nc2.length ncc2,.slice nbo2 nb2.length nbc2,.slice eo2 es2.length ec2,.int .u32 (f2:Int),strV u2] _ (range_rowf Rb2.out) Tryd.underlying48 rfl (by kernel_rfl) ?_
   refine wpList_load_mid rfl 48 (.tmp 8) rfl b3 0 rfl [.slice lo3 l3.length lc3,.int .u64 (a3:Int),.int .u64 (t3:Int),.int .u64 (k3:Int),.bool ph3,.int .u64 (pn3:Int),.bool mh3,.int .u64 (mn3:Int),.bool gh3,.int .u64 (gn3:Int),.slice nco3 nc3.length ncc3,.slice nbo3 nb3.length nbc3,.slice eo3 es3.length ec3,.int .u32 (f3:Int),strV u3] _ (range_rowf Rb3.out) Tryd.underlying48 rfl (by kernel_rfl) ?_
   refine wpList_plain rfl (fun K hK=>?_);go_simp
   refine (mh_u ((a2,(t2,(k2,((ph2,pn2),(nc2,(nb2,(es2,(l2,(f2,((mh2,mn2),(gh2,gn2))))))))))),u2) ((a3,(t3,(k3,((ph3,pn3),(nc3,(nb3,(es3,(l3,(f3,((mh3,mn3),(gh3,gn3))))))))))),u3) [.slice lo2 l2.length lc2,.int .u64 (a2:Int),.int .u64 (t2:Int),.int .u64 (k2:Int),.bool ph2,.int .u64 (pn2:Int),.bool mh2,.int .u64 (mn2:Int),.bool gh2,.int .u64 (gn2:Int),.slice nco2 nc2.length ncc2,.slice nbo2 nb2.length nbc2,.slice eo2 es2.length ec2,.int .u32 (f2:Int),strV u2] [.slice lo3 l3.length lc3,.int .u64 (a3:Int),.int .u64 (t3:Int),.int .u64 (k3:Int),.bool ph3,.int .u64 (pn3:Int),.bool mh3,.int .u64 (mn3:Int),.bool gh3,.int .u64 (gn3:Int),.slice nco3 nc3.length ncc3,.slice nbo3 nb3.length nbc3,.slice eo3 es3.length ec3,.int .u32 (f3:Int),strV u3] (fun _=>True) w2b HX2.out HX3.out HR2.out HR3.out).mono ?_
   rintro E w3 ⟨hb,cr,er,rfl,hrel,herr⟩
   rw[HHr.out] at hrel
   rw[HOr.out] at herr
   replace HB:=Lib.hid (below_step HB.out hb)
   replace Rb1:=Lib.hid ((hb.block _ (row_lt Rb1.out)).trans Rb1.out)
   replace Rb2:=Lib.hid ((hb.block _ (row_lt Rb2.out)).trans Rb2.out)
   replace Rb3:=Lib.hid ((hb.block _ (row_lt Rb3.out)).trans Rb3.out)
   replace Rb4:=Lib.hid ((hb.block _ (row_lt Rb4.out)).trans Rb4.out)
   replace Rb5:=Lib.hid ((hb.block _ (row_lt Rb5.out)).trans Rb5.out)
   replace Rbp:=Lib.hid ((hb.block _ (row_lt Rbp.out)).trans Rbp.out)
   replace Rbq:=Lib.hid ((hb.block _ (row_lt Rbq.out)).trans Rbq.out)
   replace HG:=Lib.hid (hg.out.below HB.out)
   replace HEW:=Lib.hid (HE0.out.below HB.out)
   replace HR1:=Lib.hid (hiCel.upd (Upd.of_new (S:=fun _=>False) hb) (fun _ _ h=>h) (fun _ h=>h) HR1.out)
   replace HR2:=Lib.hid (hiCel.upd (Upd.of_new (S:=fun _=>False) hb) (fun _ _ h=>h) (fun _ h=>h) HR2.out)
   replace HR3:=Lib.hid (hiCel.upd (Upd.of_new (S:=fun _=>False) hb) (fun _ _ h=>h) (fun _ h=>h) HR3.out)
   replace HR4:=Lib.hid (xpCel.upd (Upd.of_new (S:=fun _=>False) hb) (fun _ _ h=>h) (fun _ h=>h) HR4.out)
   replace HR5:=Lib.hid (xpCel.upd (Upd.of_new (S:=fun _=>False) hb) (fun _ _ h=>h) (fun _ h=>h) HR5.out)
   replace HRp:=Lib.hid (hiCel.upd (Upd.of_new (S:=fun _=>False) hb) (fun _ _ h=>h) (fun _ h=>h) HRp.out)
   replace HRq:=Lib.hid (hiCel.upd (Upd.of_new (S:=fun _=>False) hb) (fun _ _ h=>h) (fun _ h=>h) HRq.out)
   have HRr:=Lib.hid hrel
   have HVr:=Lib.hid herr
   have HLr:=Lib.hid (hi_cells hrel).1
   have HCr:=Lib.hid (hi_cells hrel).2.1
   clear hb hrel herr
   go_simp
   refine hK _ _ ?_;clear hK K
   iterate 3 (refine wpList_plain rfl (fun K hK=>?_);go_simp;refine hK _ _ ?_;clear hK K)
   refine wpList_plain rfl (fun K hK=>?_);go_simp;refine hK _ _ ?_;clear hK K
   obtain ⟨br,HNbr⟩:∃ x,Hid (w3.heap.size=x):=⟨_,Lib.hid rfl⟩
   obtain ⟨w3a,HWabr⟩:∃ X,Hid (w3.alloc (.cells #[.slice none 0 0,.int .u64 0,.int .u64 0,.int .u64 0,.bool false,.int .u64 0,.bool false,.int .u64 0,.bool false,.int .u64 0,.slice none 0 0,.slice none 0 0,.slice none 0 0,.int .u32 0,.string ⟨#[]⟩] 48)=X):=⟨_,Lib.hid rfl⟩
   rw[HWabr.out,HNbr.out]
   have hb:Below w3.heap.size w3 w3a:=by rw[←HWabr.out];exact below_new _ _
   have hr:w3a.heap[br]? = some (.cells #[.slice none 0 0,.int .u64 0,.int .u64 0,.int .u64 0,.bool false,.int .u64 0,.bool false,.int .u64 0,.bool false,.int .u64 0,.slice none 0 0,.slice none 0 0,.slice none 0 0,.int .u32 0,.string ⟨#[]⟩] 48 (0,0)):=by rw[←HWabr.out,←HNbr.out];exact heap_alloc_new w3 _
   have HGEnnn:Hid ((((w.heap.size≤b1∧b1<b2∧b2<b3∧b3<b4∧b4<b5)∧b5<bp)∧bp<bq)∧bq<br):=Lib.hid ⟨HGEnn.out,by have h1:=row_lt Rbq.out;have h2:=HNbr.out;omega⟩
   replace HB:=Lib.hid (below_step HB.out hb)
   replace Rb1:=Lib.hid ((hb.block _ (row_lt Rb1.out)).trans Rb1.out)
   replace Rb2:=Lib.hid ((hb.block _ (row_lt Rb2.out)).trans Rb2.out)
   replace Rb3:=Lib.hid ((hb.block _ (row_lt Rb3.out)).trans Rb3.out)
   replace Rb4:=Lib.hid ((hb.block _ (row_lt Rb4.out)).trans Rb4.out)
   replace Rb5:=Lib.hid ((hb.block _ (row_lt Rb5.out)).trans Rb5.out)
   replace Rbp:=Lib.hid ((hb.block _ (row_lt Rbp.out)).trans Rbp.out)
   replace Rbq:=Lib.hid ((hb.block _ (row_lt Rbq.out)).trans Rbq.out)
   have Rbr:=Lib.hid hr
   clear hb hr
   have hbz:Below w3.heap.size w3 w3a:=by rw[←HWabr.out];exact below_new _ _
   refine wpList_store_row rfl 48 (.tmp 17) (.tmp 57) rfl br cr.toArray rfl rfl 48 _ Rbr.out (by rw[List.size_toArray,HLr.out];kernel_rfl) (Eq.symm (show cr.toArray.size=15 from (by rw[List.size_toArray,HLr.out]))) HCr.out ?_
   obtain ⟨w3b,HWbbr⟩:∃ X,Hid (w3a.setRow br cr.toArray=X):=⟨_,Lib.hid rfl⟩
   rw[HWbbr.out]
   have hu:Upd (fun k=>k=br) w3a w3b:=by rw[←HWbbr.out];exact upd_setRow _ _ _
   have hr:w3b.heap[br]? = some (.cells cr.toArray 48 (0,0)):=by rw[←HWbbr.out];exact setRow_heap _ _ _ _ _ _ Rbr.out
   replace HB:=Lib.hid (HB.out.trans (hu.below HB.out.size (fun k _ hk=>by have hk:k=br:=hk;have:=HGEnnn.out;omega)))
   replace Rb1:=Lib.hid ((hu.block _ (row_lt Rb1.out) (fun h=>by have h:b1=br:=h;have:=HGEnnn.out;omega)).trans Rb1.out)
   replace Rb2:=Lib.hid ((hu.block _ (row_lt Rb2.out) (fun h=>by have h:b2=br:=h;have:=HGEnnn.out;omega)).trans Rb2.out)
   replace Rb3:=Lib.hid ((hu.block _ (row_lt Rb3.out) (fun h=>by have h:b3=br:=h;have:=HGEnnn.out;omega)).trans Rb3.out)
   replace Rb4:=Lib.hid ((hu.block _ (row_lt Rb4.out) (fun h=>by have h:b4=br:=h;have:=HGEnnn.out;omega)).trans Rb4.out)
   replace Rb5:=Lib.hid ((hu.block _ (row_lt Rb5.out) (fun h=>by have h:b5=br:=h;have:=HGEnnn.out;omega)).trans Rb5.out)
   replace Rbp:=Lib.hid ((hu.block _ (row_lt Rbp.out) (fun h=>by have h:bp=br:=h;have:=HGEnnn.out;omega)).trans Rbp.out)
   replace Rbq:=Lib.hid ((hu.block _ (row_lt Rbq.out) (fun h=>by have h:bq=br:=h;have:=HGEnnn.out;omega)).trans Rbq.out)
   replace Rbr:=Lib.hid (hr)
   have hbb:Below w3.heap.size w3 w3b:=hbz.trans (hu.below hbz.size (fun k _ hk=>by have hk:k=br:=hk;have:=HNbr.out;omega))
   replace HR1:=Lib.hid (hiCel.upd (Upd.of_new (S:=fun _=>False) hbb) (fun _ _ h=>h) (fun _ h=>h) HR1.out)
   replace HR2:=Lib.hid (hiCel.upd (Upd.of_new (S:=fun _=>False) hbb) (fun _ _ h=>h) (fun _ h=>h) HR2.out)
   replace HR3:=Lib.hid (hiCel.upd (Upd.of_new (S:=fun _=>False) hbb) (fun _ _ h=>h) (fun _ h=>h) HR3.out)
   replace HR4:=Lib.hid (xpCel.upd (Upd.of_new (S:=fun _=>False) hbb) (fun _ _ h=>h) (fun _ h=>h) HR4.out)
   replace HR5:=Lib.hid (xpCel.upd (Upd.of_new (S:=fun _=>False) hbb) (fun _ _ h=>h) (fun _ h=>h) HR5.out)
   replace HRp:=Lib.hid (hiCel.upd (Upd.of_new (S:=fun _=>False) hbb) (fun _ _ h=>h) (fun _ h=>h) HRp.out)
   replace HRq:=Lib.hid (hiCel.upd (Upd.of_new (S:=fun _=>False) hbb) (fun _ _ h=>h) (fun _ h=>h) HRq.out)
   replace HRr:=Lib.hid (hiCel.upd (Upd.of_new (S:=fun _=>False) hbb) (fun _ _ h=>h) (fun _ h=>h) HRr.out)
   clear hu hr hbz hbb
   replace HG:=Lib.hid (hg.out.below HB.out)
   replace HEW:=Lib.hid (HE0.out.below HB.out)
   refine wpList_plain rfl (fun K hK=>?_);go_simp;refine hK _ _ ?_;clear hK K
   obtain ⟨hs,HHs⟩:∃ z,Hid (hs ((a1,(t1,(k1,((ph1,pn1),(nc1,(nb1,(es1,(l1,(f1,((mh1,mn1),(gh1,gn1))))))))))),u1) hr=z):=⟨_,Lib.hid rfl⟩
   obtain ⟨os,HOs⟩:∃ z,Hid (hsOk ((a1,(t1,(k1,((ph1,pn1),(nc1,(nb1,(es1,(l1,(f1,((mh1,mn1),(gh1,gn1))))))))))),u1) hr=z):=⟨_,Lib.hid rfl⟩
   have HXs:Hid (HiB hs):=Lib.hid (by rw[←HHs.out];exact hiB_hs HX1.out HXr.out)
   go_upto_region 8 with fail
   refine wp_region_lit ?_
   refine wpList_load_mid rfl 48 (.tmp 6) rfl b1 0 rfl [.slice lo1 l1.length lc1,.int .u64 (a1:Int),.int .u64 (t1:Int),.int .u64 (k1:Int),.bool ph1,.int .u64 (pn1:Int),.bool mh1,.int .u64 (mn1:Int),.bool gh1,.int .u64 (gn1:Int),.slice nco1 nc1.length ncc1,.slice nbo1 nb1.length nbc1,.slice eo1 es1.length ec1,.int .u32 (f1:Int),strV u1] _ (range_rowf Rb1.out) Tryd.underlying48 rfl (by kernel_rfl) ?_
   refine wpList_load_mid rfl 48 (.tmp 17) rfl br 0 rfl cr _ (range_rowf Rbr.out) Tryd.underlying48 rfl (by rw[HLr.out];kernel_rfl) ?_
   refine wpList_plain rfl (fun K hK=>?_);go_simp
   refine (mh_u ((a1,(t1,(k1,((ph1,pn1),(nc1,(nb1,(es1,(l1,(f1,((mh1,mn1),(gh1,gn1))))))))))),u1) hr [.slice lo1 l1.length lc1,.int .u64 (a1:Int),.int .u64 (t1:Int),.int .u64 (k1:Int),.bool ph1,.int .u64 (pn1:Int),.bool mh1,.int .u64 (mn1:Int),.bool gh1,.int .u64 (gn1:Int),.slice nco1 nc1.length ncc1,.slice nbo1 nb1.length nbc1,.slice eo1 es1.length ec1,.int .u32 (f1:Int),strV u1] cr (fun _=>True) w3b HX1.out HXr.out HR1.out HRr.out).mono ?_
   rintro E w4 ⟨hb,cs,es,rfl,hrel,herr⟩
   rw[HHs.out] at hrel
   rw[HOs.out] at herr
   replace HB:=Lib.hid (below_step HB.out hb)
   replace Rb1:=Lib.hid ((hb.block _ (row_lt Rb1.out)).trans Rb1.out)
   replace Rb2:=Lib.hid ((hb.block _ (row_lt Rb2.out)).trans Rb2.out)
   replace Rb3:=Lib.hid ((hb.block _ (row_lt Rb3.out)).trans Rb3.out)
   replace Rb4:=Lib.hid ((hb.block _ (row_lt Rb4.out)).trans Rb4.out)
   replace Rb5:=Lib.hid ((hb.block _ (row_lt Rb5.out)).trans Rb5.out)
   replace Rbp:=Lib.hid ((hb.block _ (row_lt Rbp.out)).trans Rbp.out)
   replace Rbq:=Lib.hid ((hb.block _ (row_lt Rbq.out)).trans Rbq.out)
   replace Rbr:=Lib.hid ((hb.block _ (row_lt Rbr.out)).trans Rbr.out)
   replace HG:=Lib.hid (hg.out.below HB.out)
   replace HEW:=Lib.hid (HE0.out.below HB.out)
   replace HR1:=Lib.hid (hiCel.upd (Upd.of_new (S:=fun _=>False) hb) (fun _ _ h=>h) (fun _ h=>h) HR1.out)
   replace HR2:=Lib.hid (hiCel.upd (Upd.of_new (S:=fun _=>False) hb) (fun _ _ h=>h) (fun _ h=>h) HR2.out)
   replace HR3:=Lib.hid (hiCel.upd (Upd.of_new (S:=fun _=>False) hb) (fun _ _ h=>h) (fun _ h=>h) HR3.out)
   replace HR4:=Lib.hid (xpCel.upd (Upd.of_new (S:=fun _=>False) hb) (fun _ _ h=>h) (fun _ h=>h) HR4.out)
   replace HR5:=Lib.hid (xpCel.upd (Upd.of_new (S:=fun _=>False) hb) (fun _ _ h=>h) (fun _ h=>h) HR5.out)
   replace HRp:=Lib.hid (hiCel.upd (Upd.of_new (S:=fun _=>False) hb) (fun _ _ h=>h) (fun _ h=>h) HRp.out)
   replace HRq:=Lib.hid (hiCel.upd (Upd.of_new (S:=fun _=>False) hb) (fun _ _ h=>h) (fun _ h=>h) HRq.out)
   replace HRr:=Lib.hid (hiCel.upd (Upd.of_new (S:=fun _=>False) hb) (fun _ _ h=>h) (fun _ h=>h) HRr.out)
   have HRs:=Lib.hid hrel
   have HVs:=Lib.hid herr
   have HLs:=Lib.hid (hi_cells hrel).1
   have HCs:=Lib.hid (hi_cells hrel).2.1
   clear hb hrel herr
   go_simp
   refine hK _ _ ?_;clear hK K
   iterate 3 (refine wpList_plain rfl (fun K hK=>?_);go_simp;refine hK _ _ ?_;clear hK K)
   refine wpList_plain rfl (fun K hK=>?_);go_simp;refine hK _ _ ?_;clear hK K
   obtain ⟨bs,HNbs⟩:∃ x,Hid (w4.heap.size=x):=⟨_,Lib.hid rfl⟩
   obtain ⟨w4a,HWabs⟩:∃ X,Hid (w4.alloc (.cells #[.slice none 0 0,.int .u64 0,.int .u64 0,.int .u64 0,.bool false,.int .u64 0,.bool false,.int .u64 0,.bool false,.int .u64 0,.slice none 0 0,.slice none 0 0,.slice none 0 0,.int .u32 0,.string ⟨#[]⟩] 48)=X):=⟨_,Lib.hid rfl⟩
   rw[HWabs.out,HNbs.out]
   have hb:Below w4.heap.size w4 w4a:=by rw[←HWabs.out];exact below_new _ _
   have hr:w4a.heap[bs]? = some (.cells #[.slice none 0 0,.int .u64 0,.int .u64 0,.int .u64 0,.bool false,.int .u64 0,.bool false,.int .u64 0,.bool false,.int .u64 0,.slice none 0 0,.slice none 0 0,.slice none 0 0,.int .u32 0,.string ⟨#[]⟩] 48 (0,0)):=by rw[←HWabs.out,←HNbs.out];exact heap_alloc_new w4 _
   have HGEnnnn:Hid (((((w.heap.size≤b1∧b1<b2∧b2<b3∧b3<b4∧b4<b5)∧b5<bp)∧bp<bq)∧bq<br)∧br<bs):=Lib.hid ⟨HGEnnn.out,by have h1:=row_lt Rbr.out;have h2:=HNbs.out;omega⟩
   replace HB:=Lib.hid (below_step HB.out hb)
   replace Rb1:=Lib.hid ((hb.block _ (row_lt Rb1.out)).trans Rb1.out)
   replace Rb2:=Lib.hid ((hb.block _ (row_lt Rb2.out)).trans Rb2.out)
   replace Rb3:=Lib.hid ((hb.block _ (row_lt Rb3.out)).trans Rb3.out)
   replace Rb4:=Lib.hid ((hb.block _ (row_lt Rb4.out)).trans Rb4.out)
   replace Rb5:=Lib.hid ((hb.block _ (row_lt Rb5.out)).trans Rb5.out)
   replace Rbp:=Lib.hid ((hb.block _ (row_lt Rbp.out)).trans Rbp.out)
   replace Rbq:=Lib.hid ((hb.block _ (row_lt Rbq.out)).trans Rbq.out)
   replace Rbr:=Lib.hid ((hb.block _ (row_lt Rbr.out)).trans Rbr.out)
   have Rbs:=Lib.hid hr
   clear hb hr
   have hbz:Below w4.heap.size w4 w4a:=by rw[←HWabs.out];exact below_new _ _
   refine wpList_store_row rfl 48 (.tmp 19) (.tmp 63) rfl bs cs.toArray rfl rfl 48 _ Rbs.out (by rw[List.size_toArray,HLs.out];kernel_rfl) (Eq.symm (show cs.toArray.size=15 from (by rw[List.size_toArray,HLs.out]))) HCs.out ?_
   obtain ⟨w4b,HWbbs⟩:∃ X,Hid (w4a.setRow bs cs.toArray=X):=⟨_,Lib.hid rfl⟩
   rw[HWbbs.out]
   have hu:Upd (fun k=>k=bs) w4a w4b:=by rw[←HWbbs.out];exact upd_setRow _ _ _
   have hr:w4b.heap[bs]? = some (.cells cs.toArray 48 (0,0)):=by rw[←HWbbs.out];exact setRow_heap _ _ _ _ _ _ Rbs.out
   replace HB:=Lib.hid (HB.out.trans (hu.below HB.out.size (fun k _ hk=>by have hk:k=bs:=hk;have:=HGEnnnn.out;omega)))
   replace Rb1:=Lib.hid ((hu.block _ (row_lt Rb1.out) (fun h=>by have h:b1=bs:=h;have:=HGEnnnn.out;omega)).trans Rb1.out)
   replace Rb2:=Lib.hid ((hu.block _ (row_lt Rb2.out) (fun h=>by have h:b2=bs:=h;have:=HGEnnnn.out;omega)).trans Rb2.out)
   replace Rb3:=Lib.hid ((hu.block _ (row_lt Rb3.out) (fun h=>by have h:b3=bs:=h;have:=HGEnnnn.out;omega)).trans Rb3.out)
   replace Rb4:=Lib.hid ((hu.block _ (row_lt Rb4.out) (fun h=>by have h:b4=bs:=h;have:=HGEnnnn.out;omega)).trans Rb4.out)
   replace Rb5:=Lib.hid ((hu.block _ (row_lt Rb5.out) (fun h=>by have h:b5=bs:=h;have:=HGEnnnn.out;omega)).trans Rb5.out)
   replace Rbp:=Lib.hid ((hu.block _ (row_lt Rbp.out) (fun h=>by have h:bp=bs:=h;have:=HGEnnnn.out;omega)).trans Rbp.out)
   replace Rbq:=Lib.hid ((hu.block _ (row_lt Rbq.out) (fun h=>by have h:bq=bs:=h;have:=HGEnnnn.out;omega)).trans Rbq.out)
   replace Rbr:=Lib.hid ((hu.block _ (row_lt Rbr.out) (fun h=>by have h:br=bs:=h;have:=HGEnnnn.out;omega)).trans Rbr.out)
   replace Rbs:=Lib.hid (hr)
   have hbb:Below w4.heap.size w4 w4b:=hbz.trans (hu.below hbz.size (fun k _ hk=>by have hk:k=bs:=hk;have:=HNbs.out;omega))
   replace HR1:=Lib.hid (hiCel.upd (Upd.of_new (S:=fun _=>False) hbb) (fun _ _ h=>h) (fun _ h=>h) HR1.out)
   replace HR2:=Lib.hid (hiCel.upd (Upd.of_new (S:=fun _=>False) hbb) (fun _ _ h=>h) (fun _ h=>h) HR2.out)
   replace HR3:=Lib.hid (hiCel.upd (Upd.of_new (S:=fun _=>False) hbb) (fun _ _ h=>h) (fun _ h=>h) HR3.out)
   replace HR4:=Lib.hid (xpCel.upd (Upd.of_new (S:=fun _=>False) hbb) (fun _ _ h=>h) (fun _ h=>h) HR4.out)
   replace HR5:=Lib.hid (xpCel.upd (Upd.of_new (S:=fun _=>False) hbb) (fun _ _ h=>h) (fun _ h=>h) HR5.out)
   replace HRp:=Lib.hid (hiCel.upd (Upd.of_new (S:=fun _=>False) hbb) (fun _ _ h=>h) (fun _ h=>h) HRp.out)
   replace HRq:=Lib.hid (hiCel.upd (Upd.of_new (S:=fun _=>False) hbb) (fun _ _ h=>h) (fun _ h=>h) HRq.out)
   replace HRr:=Lib.hid (hiCel.upd (Upd.of_new (S:=fun _=>False) hbb) (fun _ _ h=>h) (fun _ h=>h) HRr.out)
   replace HRs:=Lib.hid (hiCel.upd (Upd.of_new (S:=fun _=>False) hbb) (fun _ _ h=>h) (fun _ h=>h) HRs.out)
   clear hu hr hbz hbb
   replace HG:=Lib.hid (hg.out.below HB.out)
   replace HEW:=Lib.hid (HE0.out.below HB.out)
   refine wpList_plain rfl (fun K hK=>?_);go_simp;refine hK _ _ ?_;clear hK K
   go_upto_region 9 with fail
   go_cut [110] (fun st wx=>st = .bool false∧Hid (Below w4b.heap.size w4b wx))
   case first =>
    rename_i JJ KK hJ hM
    as_aux_lemma =>
     have hne:Nonempty {w':World // TwoRows bq bs cq.toArray cs.toArray 48 w'}:=⟨⟨_,Rbq.out,Rbs.out⟩⟩
     rcases HVp.out with ⟨he1,rfl⟩|⟨he1,Te1,ye1,rfl⟩
     ·
      rcases HVr.out with ⟨he2,rfl⟩|⟨he2,Te2,ye2,rfl⟩
      ·
       have hor:=hs_order HX1.out HX2.out HX3.out (HOp.out.trans he1) (HOr.out.trans he2)
       rw[HHp.out,HHr.out,HHq.out,HHs.out,HOq.out,HOs.out] at hor
       obtain ⟨ho,hi⟩:=hor
       rcases HVq.out with ⟨he3,rfl⟩|⟨he3,Te3,ye3,rfl⟩
       ·
        rcases HVs.out with ⟨he4,rfl⟩|⟨he4,Te4,ye4,rfl⟩
        ·
         obtain ⟨i1,i2,i3,i4⟩:=hi he3
         clear hi ho
         obtain ⟨-,-,q3,q1,q2,nq,nqc,q10,qn⟩:=hi_cells HRq.out
         obtain ⟨-,-,s3,s1,s2,ns,nsc,s10,sn⟩:=hi_cells HRs.out
         rw[←i2] at s3
         rw[←i3] at s1
         rw[←i4] at s2
         rw[←i1] at s10 sn
         have hql:hq.1.2.2.2.2.1.length≤1000000:=by
          have h:=HXq.out
          obtain ⟨⟨a,⟨t,⟨k,⟨⟨ph,pn⟩,⟨nc,⟨nb,⟨es,⟨l,⟨f,⟨⟨mh,mn⟩,⟨gh,gn⟩⟩⟩⟩⟩⟩⟩⟩⟩⟩⟩,u⟩:=hq
          exact h.2.2.1.2.1
         generalize hq.1.2.2.2.2.1=QC at q10 qn s10 sn hql
         generalize hq.1.2.2.1=QK at q3 s3
         generalize hq.1.1=QS at q1 s1
         generalize hq.1.2.1=QT at q2 s2
         clear i1 i2 i3 i4
         have HQL:=Lib.hid hql
         have HNQ:=Lib.hid qn
         have HNS:=Lib.hid sn
         clear hql qn sn
         have j1:∀ z:{w':World // TwoRows bq bs cq.toArray cs.toArray 48 w'},z.1.cell? ⟨bq,10,none⟩=some (.slice nq QC.length nqc):=fun z=>row_cell z.2.1 q10
         have j2:∀ z:{w':World // TwoRows bq bs cq.toArray cs.toArray 48 w'},z.1.cell? ⟨bs,10,none⟩=some (.slice ns QC.length nsc):=fun z=>row_cell z.2.2 s10
         have j3:∀ z:{w':World // TwoRows bq bs cq.toArray cs.toArray 48 w'},z.1.cell? ⟨bq,3,none⟩=some (.int .u64 (QK:Int)):=fun z=>row_cell z.2.1 q3
         have j4:∀ z:{w':World // TwoRows bq bs cq.toArray cs.toArray 48 w'},z.1.cell? ⟨bs,3,none⟩=some (.int .u64 (QK:Int)):=fun z=>row_cell z.2.2 s3
         have j5:∀ z:{w':World // TwoRows bq bs cq.toArray cs.toArray 48 w'},z.1.cell? ⟨bq,1,none⟩=some (.int .u64 (QS:Int)):=fun z=>row_cell z.2.1 q1
         have j6:∀ z:{w':World // TwoRows bq bs cq.toArray cs.toArray 48 w'},z.1.cell? ⟨bs,1,none⟩=some (.int .u64 (QS:Int)):=fun z=>row_cell z.2.2 s1
         have j7:∀ z:{w':World // TwoRows bq bs cq.toArray cs.toArray 48 w'},z.1.cell? ⟨bq,2,none⟩=some (.int .u64 (QT:Int)):=fun z=>row_cell z.2.1 q2
         have j8:∀ z:{w':World // TwoRows bq bs cq.toArray cs.toArray 48 w'},z.1.cell? ⟨bs,2,none⟩=some (.int .u64 (QT:Int)):=fun z=>row_cell z.2.2 s2
         clear q10 s10 q3 s3 q1 s1 q2 s2 he1 he2 he3 he4
         as_aux_lemma =>
          obtain ⟨D,HD⟩:∃ D,Hid (w4b.drew=D):=⟨_,Lib.hid rfl⟩
          have hb:Below w4b.heap.size w4b D:=by rw[←HD.out];exact (Below.refl _ _).drew
          have HBD:=Lib.hid hb
          have rq:D.heap[bq]? = some (.cells cq.toArray 48 (0,0)):=(hb.block _ (row_lt Rbq.out)).trans Rbq.out
          have rs:D.heap[bs]? = some (.cells cs.toArray 48 (0,0)):=(hb.block _ (row_lt Rbs.out)).trans Rbs.out
          have HS0:=Lib.hid (And.intro rq rs)
          clear rq rs hb
          refine wp_region_seq (S:=TwoRows bq bs cq.toArray cs.toArray 48) [(0,true),(1,true),(2,true),(3,true),(4,true),(5,true),(6,true),(7,true),(8,true),(9,true),(10,true),(11,true),(12,true),(13,true),(14,true),(15,true),(16,true),(17,true),(18,true),(19,true),(20,false),(21,true),(22,true),(23,true),(24,true),(25,true),(26,true),(27,true),(28,true),(29,true),(30,true),(31,true),(32,true),(33,true),(34,true),(35,true),(36,true),(37,true),(38,true),(39,true),(40,true),(41,true),(42,true),(43,true),(44,true),(45,true)] (by kernel_rfl) (by kernel_rfl) (by kernel_rfl) (by kernel_rfl) (by rw[HD.out];exact ⟨HS0.out.1,HS0.out.2⟩) ?_
          rw[HD.out]
          iterate 20 (refine seq_take _ rfl (fun KC hK=>?_);go_simp;(first|refine hK _ ?_|(refine ⟨undef,by rw[if_neg (by simp[undef])],?_⟩;refine hK _ ?_)|refine ⟨_,fun _ _=>rfl,hK _ ?_⟩);clear hK KC)
          refine seq_come _ rfl (fun KC hK=>?_);go_simp
          refine (nums_any nq ns nqc nsc QC QC D (Lib.hid (HNQ.out.below HBD.out)) (Lib.hid (HNS.out.below HBD.out)) (by have:=HQL.out;omega) (Lib.hid (decide_eq_true rfl))).mono ?_
          rintro E D2 ⟨rfl,hb⟩
          have HBE:=Lib.hid (below_step HBD.out hb)
          have r1:=(hb.block _ (row_lt HS0.out.1)).trans HS0.out.1
          have r2:=(hb.block _ (row_lt HS0.out.2)).trans HS0.out.2
          clear hb
          go_simp
          refine hK.out _ _ ⟨r1,r2⟩ ?_;clear hK KC r1 r2
          iterate 25 (refine seq_take _ rfl (fun KC hK=>?_);go_simp;(first|refine hK _ ?_|(refine ⟨undef,by rw[if_neg (by simp[undef])],?_⟩;refine hK _ ?_)|refine ⟨_,fun _ _=>rfl,hK _ ?_⟩);clear hK KC)
          refine seq_done ?_
          refine hM _ _ (Met.intro (hJ _ _ ?_))
          (repeat apply Exists.intro)
          refine ⟨?_,rfl⟩
          exact ⟨rfl,Lib.hid HBE.out⟩
        ·
         exfalso
         rw[he3,he4] at ho
         cases ho
       ·
        rcases HVs.out with ⟨he4,rfl⟩|⟨he4,Te4,ye4,rfl⟩
        ·
         exfalso
         rw[he3,he4] at ho
         cases ho
        ·
         clear hi ho he1 he2 he3 he4
         as_aux_lemma =>
          obtain ⟨D,HD⟩:∃ D,Hid (w4b.drew=D):=⟨_,Lib.hid rfl⟩
          have hb:Below w4b.heap.size w4b D:=by rw[←HD.out];exact (Below.refl _ _).drew
          have HBD:=Lib.hid hb
          have rq:D.heap[bq]? = some (.cells cq.toArray 48 (0,0)):=(hb.block _ (row_lt Rbq.out)).trans Rbq.out
          have rs:D.heap[bs]? = some (.cells cs.toArray 48 (0,0)):=(hb.block _ (row_lt Rbs.out)).trans Rbs.out
          have HS0:=Lib.hid (And.intro rq rs)
          clear rq rs hb
          refine wp_region_seq (S:=TwoRows bq bs cq.toArray cs.toArray 48) [(0,true),(1,true),(2,true),(3,true),(4,true),(5,true),(6,true),(7,true),(8,true),(9,true),(10,true),(11,true),(12,true),(13,true),(14,true),(15,true),(16,true),(17,true),(18,true),(19,true),(20,false),(21,true),(22,true),(23,true),(24,true),(25,true),(26,true),(27,true),(28,true),(29,true),(30,true),(31,true),(32,true),(33,true),(34,true),(35,true),(36,true),(37,true),(38,true),(39,true),(40,true),(41,true),(42,true),(43,true),(44,true),(45,true)] (by kernel_rfl) (by kernel_rfl) (by kernel_rfl) (by kernel_rfl) (by rw[HD.out];exact ⟨HS0.out.1,HS0.out.2⟩) ?_
          rw[HD.out]
          iterate 20 (refine seq_take _ rfl (fun KC hK=>?_);go_simp;(first|refine hK _ ?_|(refine ⟨undef,by rw[if_neg (by simp[undef])],?_⟩;refine hK _ ?_)|refine ⟨_,fun _ _=>rfl,hK _ ?_⟩);clear hK KC)
          refine seq_come _ rfl (fun KC hK=>?_);go_simp
          (first|refine hK.out _ _ ⟨HS0.out.1,HS0.out.2⟩ ?_|(rw[if_neg (by simp[undef])];refine hK.out _ _ ⟨HS0.out.1,HS0.out.2⟩ ?_));clear hK KC
          iterate 25 (refine seq_take _ rfl (fun KC hK=>?_);go_simp;(first|refine hK _ ?_|(refine ⟨undef,by rw[if_neg (by simp[undef])],?_⟩;refine hK _ ?_)|refine ⟨_,fun _ _=>rfl,hK _ ?_⟩);clear hK KC)
          refine seq_done ?_
          refine hM _ _ (Met.intro (hJ _ _ ?_))
          (repeat apply Exists.intro)
          refine ⟨?_,rfl⟩
          exact ⟨rfl,Lib.hid HBD.out⟩
      ·
       clear he1 he2
       as_aux_lemma =>
        obtain ⟨D,HD⟩:∃ D,Hid (w4b.drew=D):=⟨_,Lib.hid rfl⟩
        have hb:Below w4b.heap.size w4b D:=by rw[←HD.out];exact (Below.refl _ _).drew
        have HBD:=Lib.hid hb
        have rq:D.heap[bq]? = some (.cells cq.toArray 48 (0,0)):=(hb.block _ (row_lt Rbq.out)).trans Rbq.out
        have rs:D.heap[bs]? = some (.cells cs.toArray 48 (0,0)):=(hb.block _ (row_lt Rbs.out)).trans Rbs.out
        have HS0:=Lib.hid (And.intro rq rs)
        clear rq rs hb
        refine wp_region_seq (S:=TwoRows bq bs cq.toArray cs.toArray 48) [(0,true),(1,true),(2,true),(3,true),(4,true),(5,true),(6,true),(7,true),(8,true),(9,true),(10,true),(11,true),(12,true),(13,true),(14,true),(15,true),(16,true),(17,true),(18,true),(19,true),(20,false),(21,true),(22,true),(23,true),(24,true),(25,true),(26,true),(27,true),(28,true),(29,true),(30,true),(31,true),(32,true),(33,true),(34,true),(35,true),(36,true),(37,true),(38,true),(39,true),(40,true),(41,true),(42,true),(43,true),(44,true),(45,true)] (by kernel_rfl) (by kernel_rfl) (by kernel_rfl) (by kernel_rfl) (by rw[HD.out];exact ⟨HS0.out.1,HS0.out.2⟩) ?_
        rw[HD.out]
        iterate 20 (refine seq_take _ rfl (fun KC hK=>?_);go_simp;(first|refine hK _ ?_|(refine ⟨undef,by rw[if_neg (by simp[undef])],?_⟩;refine hK _ ?_)|refine ⟨_,fun _ _=>rfl,hK _ ?_⟩);clear hK KC)
        refine seq_come _ rfl (fun KC hK=>?_);go_simp
        (first|refine hK.out _ _ ⟨HS0.out.1,HS0.out.2⟩ ?_|(rw[if_neg (by simp[undef])];refine hK.out _ _ ⟨HS0.out.1,HS0.out.2⟩ ?_));clear hK KC
        iterate 25 (refine seq_take _ rfl (fun KC hK=>?_);go_simp;(first|refine hK _ ?_|(refine ⟨undef,by rw[if_neg (by simp[undef])],?_⟩;refine hK _ ?_)|refine ⟨_,fun _ _=>rfl,hK _ ?_⟩);clear hK KC)
        refine seq_done ?_
        refine hM _ _ (Met.intro (hJ _ _ ?_))
        (repeat apply Exists.intro)
        refine ⟨?_,rfl⟩
        exact ⟨rfl,Lib.hid HBD.out⟩
     ·
      clear he1
      as_aux_lemma =>
       obtain ⟨D,HD⟩:∃ D,Hid (w4b.drew=D):=⟨_,Lib.hid rfl⟩
       have hb:Below w4b.heap.size w4b D:=by rw[←HD.out];exact (Below.refl _ _).drew
       have HBD:=Lib.hid hb
       have rq:D.heap[bq]? = some (.cells cq.toArray 48 (0,0)):=(hb.block _ (row_lt Rbq.out)).trans Rbq.out
       have rs:D.heap[bs]? = some (.cells cs.toArray 48 (0,0)):=(hb.block _ (row_lt Rbs.out)).trans Rbs.out
       have HS0:=Lib.hid (And.intro rq rs)
       clear rq rs hb
       refine wp_region_seq (S:=TwoRows bq bs cq.toArray cs.toArray 48) [(0,true),(1,true),(2,true),(3,true),(4,true),(5,true),(6,true),(7,true),(8,true),(9,true),(10,true),(11,true),(12,true),(13,true),(14,true),(15,true),(16,true),(17,true),(18,true),(19,true),(20,false),(21,true),(22,true),(23,true),(24,true),(25,true),(26,true),(27,true),(28,true),(29,true),(30,true),(31,true),(32,true),(33,true),(34,true),(35,true),(36,true),(37,true),(38,true),(39,true),(40,true),(41,true),(42,true),(43,true),(44,true),(45,true)] (by kernel_rfl) (by kernel_rfl) (by kernel_rfl) (by kernel_rfl) (by rw[HD.out];exact ⟨HS0.out.1,HS0.out.2⟩) ?_
       rw[HD.out]
       iterate 20 (refine seq_take _ rfl (fun KC hK=>?_);go_simp;(first|refine hK _ ?_|(refine ⟨undef,by rw[if_neg (by simp[undef])],?_⟩;refine hK _ ?_)|refine ⟨_,fun _ _=>rfl,hK _ ?_⟩);clear hK KC)
       refine seq_come _ rfl (fun KC hK=>?_);go_simp
       (first|refine hK.out _ _ ⟨HS0.out.1,HS0.out.2⟩ ?_|(rw[if_neg (by simp[undef])];refine hK.out _ _ ⟨HS0.out.1,HS0.out.2⟩ ?_));clear hK KC
       iterate 25 (refine seq_take _ rfl (fun KC hK=>?_);go_simp;(first|refine hK _ ?_|(refine ⟨undef,by rw[if_neg (by simp[undef])],?_⟩;refine hK _ ?_)|refine ⟨_,fun _ _=>rfl,hK _ ?_⟩);clear hK KC)
       refine seq_done ?_
       refine hM _ _ (Met.intro (hJ _ _ ?_))
       (repeat apply Exists.intro)
       refine ⟨?_,rfl⟩
       exact ⟨rfl,Lib.hid HBD.out⟩
   case rest =>
    as_aux_lemma =>
     obtain ⟨rfl,hcw⟩:=hcut
     have hb:=hcw.out
     clear hcw HVp HVq HVr HVs
     replace HB:=Lib.hid (below_step HB.out hb)
     replace Rb1:=Lib.hid ((hb.block _ (row_lt Rb1.out)).trans Rb1.out)
     replace Rb2:=Lib.hid ((hb.block _ (row_lt Rb2.out)).trans Rb2.out)
     replace Rb3:=Lib.hid ((hb.block _ (row_lt Rb3.out)).trans Rb3.out)
     replace Rb4:=Lib.hid ((hb.block _ (row_lt Rb4.out)).trans Rb4.out)
     replace Rb5:=Lib.hid ((hb.block _ (row_lt Rb5.out)).trans Rb5.out)
     replace Rbp:=Lib.hid ((hb.block _ (row_lt Rbp.out)).trans Rbp.out)
     replace Rbq:=Lib.hid ((hb.block _ (row_lt Rbq.out)).trans Rbq.out)
     replace Rbr:=Lib.hid ((hb.block _ (row_lt Rbr.out)).trans Rbr.out)
     replace Rbs:=Lib.hid ((hb.block _ (row_lt Rbs.out)).trans Rbs.out)
     replace HG:=Lib.hid (hg.out.below HB.out)
     replace HEW:=Lib.hid (HE0.out.below HB.out)
     replace HR1:=Lib.hid (hiCel.upd (Upd.of_new (S:=fun _=>False) hb) (fun _ _ h=>h) (fun _ h=>h) HR1.out)
     replace HR2:=Lib.hid (hiCel.upd (Upd.of_new (S:=fun _=>False) hb) (fun _ _ h=>h) (fun _ h=>h) HR2.out)
     replace HR3:=Lib.hid (hiCel.upd (Upd.of_new (S:=fun _=>False) hb) (fun _ _ h=>h) (fun _ h=>h) HR3.out)
     replace HR4:=Lib.hid (xpCel.upd (Upd.of_new (S:=fun _=>False) hb) (fun _ _ h=>h) (fun _ h=>h) HR4.out)
     replace HR5:=Lib.hid (xpCel.upd (Upd.of_new (S:=fun _=>False) hb) (fun _ _ h=>h) (fun _ h=>h) HR5.out)
     replace HRp:=Lib.hid (hiCel.upd (Upd.of_new (S:=fun _=>False) hb) (fun _ _ h=>h) (fun _ h=>h) HRp.out)
     replace HRq:=Lib.hid (hiCel.upd (Upd.of_new (S:=fun _=>False) hb) (fun _ _ h=>h) (fun _ h=>h) HRq.out)
     replace HRr:=Lib.hid (hiCel.upd (Upd.of_new (S:=fun _=>False) hb) (fun _ _ h=>h) (fun _ h=>h) HRr.out)
     replace HRs:=Lib.hid (hiCel.upd (Upd.of_new (S:=fun _=>False) hb) (fun _ _ h=>h) (fun _ h=>h) HRs.out)
     clear hb
     clear HRp HRq HRr HRs HXp HXq HXr HXs
     go_upto_region 11 with fail
     refine wp_region_lit ?_
     refine wpList_load_mid rfl 32 (.tmp 9) rfl b4 0 rfl [.slice lo4 l4.length lc4,.int .u64 (a4:Int),.int .u64 (t4:Int),.int .u64 (k4:Int),.bool bp4,.int .u64 (vp4:Int),.bool bm4,.int .u64 (vm4:Int),.bool bg4,.int .u64 (vg4:Int),.int .i32 sc4,.int .u64 (zc4:Int),.bool gp4,.int .i32 po4,.slice pco4 pc4.length pcc4,strV pu4,.bool gn4,.int .i32 no4,.slice nco4 nc4.length ncc4,strV nu4,.slice eo4 es4.length ec4,.int .u32 (f4:Int),.int .u64 (th4:Int),strV u4] _ (range_rowf Rb4.out) Tryd.underlying32 rfl (by kernel_rfl) ?_
     refine wpList_load_mid rfl 32 (.tmp 10) rfl b5 0 rfl [.slice lo5 l5.length lc5,.int .u64 (a5:Int),.int .u64 (t5:Int),.int .u64 (k5:Int),.bool bp5,.int .u64 (vp5:Int),.bool bm5,.int .u64 (vm5:Int),.bool bg5,.int .u64 (vg5:Int),.int .i32 sc5,.int .u64 (zc5:Int),.bool gp5,.int .i32 po5,.slice pco5 pc5.length pcc5,strV pu5,.bool gn5,.int .i32 no5,.slice nco5 nc5.length ncc5,strV nu5,.slice eo5 es5.length ec5,.int .u32 (f5:Int),.int .u64 (th5:Int),strV u5] _ (range_rowf Rb5.out) Tryd.underlying32 rfl (by kernel_rfl) ?_
     refine wpList_plain rfl (fun K hK=>?_);go_simp;refine hK _ _ ?_;clear hK K
     refine wpList_plain rfl (fun K hK=>?_);go_simp
     refine (mx_u ((l4,(a4,(t4,(k4,((bp4,vp4),(sc4,(zc4,((gp4,⟨po4,pc4⟩,pu4),((gn4,⟨no4,nc4⟩,nu4),(f4,(es4,((bm4,vm4),((bg4,vg4),th4))))))))))))),u4) ((l5,(a5,(t5,(k5,((bp5,vp5),(sc5,(zc5,((gp5,⟨po5,pc5⟩,pu5),((gn5,⟨no5,nc5⟩,nu5),(f5,(es5,((bm5,vm5),((bg5,vg5),th5))))))))))))),u5) [.slice lo4 l4.length lc4,.int .u64 (a4:Int),.int .u64 (t4:Int),.int .u64 (k4:Int),.bool bp4,.int .u64 (vp4:Int),.bool bm4,.int .u64 (vm4:Int),.bool bg4,.int .u64 (vg4:Int),.int .i32 sc4,.int .u64 (zc4:Int),.bool gp4,.int .i32 po4,.slice pco4 pc4.length pcc4,strV pu4,.bool gn4,.int .i32 no4,.slice nco4 nc4.length ncc4,strV nu4,.slice eo4 es4.length ec4,.int .u32 (f4:Int),.int .u64 (th4:Int),strV u4] [.slice lo5 l5.length lc5,.int .u64 (a5:Int),.int .u64 (t5:Int),.int .u64 (k5:Int),.bool bp5,.int .u64 (vp5:Int),.bool bm5,.int .u64 (vm5:Int),.bool bg5,.int .u64 (vg5:Int),.int .i32 sc5,.int .u64 (zc5:Int),.bool gp5,.int .i32 po5,.slice pco5 pc5.length pcc5,strV pu5,.bool gn5,.int .i32 no5,.slice nco5 nc5.length ncc5,strV nu5,.slice eo5 es5.length ec5,.int .u32 (f5:Int),.int .u64 (th5:Int),strV u5] most ew (fun _=>True) wc HX4.out HX5.out HR4.out HR5.out HEW).mono ?_
     rintro E w5 ⟨hb,cu,eu,hu,ou,rfl,hrel,herr,hxr⟩
     replace HB:=Lib.hid (below_step HB.out hb)
     replace Rb1:=Lib.hid ((hb.block _ (row_lt Rb1.out)).trans Rb1.out)
     replace Rb2:=Lib.hid ((hb.block _ (row_lt Rb2.out)).trans Rb2.out)
     replace Rb3:=Lib.hid ((hb.block _ (row_lt Rb3.out)).trans Rb3.out)
     replace Rb4:=Lib.hid ((hb.block _ (row_lt Rb4.out)).trans Rb4.out)
     replace Rb5:=Lib.hid ((hb.block _ (row_lt Rb5.out)).trans Rb5.out)
     replace Rbp:=Lib.hid ((hb.block _ (row_lt Rbp.out)).trans Rbp.out)
     replace Rbq:=Lib.hid ((hb.block _ (row_lt Rbq.out)).trans Rbq.out)
     replace Rbr:=Lib.hid ((hb.block _ (row_lt Rbr.out)).trans Rbr.out)
     replace Rbs:=Lib.hid ((hb.block _ (row_lt Rbs.out)).trans Rbs.out)
     replace HG:=Lib.hid (hg.out.below HB.out)
     replace HEW:=Lib.hid (HE0.out.below HB.out)
     replace HR1:=Lib.hid (hiCel.upd (Upd.of_new (S:=fun _=>False) hb) (fun _ _ h=>h) (fun _ h=>h) HR1.out)
     replace HR2:=Lib.hid (hiCel.upd (Upd.of_new (S:=fun _=>False) hb) (fun _ _ h=>h) (fun _ h=>h) HR2.out)
     replace HR3:=Lib.hid (hiCel.upd (Upd.of_new (S:=fun _=>False) hb) (fun _ _ h=>h) (fun _ h=>h) HR3.out)
     replace HR4:=Lib.hid (xpCel.upd (Upd.of_new (S:=fun _=>False) hb) (fun _ _ h=>h) (fun _ h=>h) HR4.out)
     replace HR5:=Lib.hid (xpCel.upd (Upd.of_new (S:=fun _=>False) hb) (fun _ _ h=>h) (fun _ h=>h) HR5.out)
     have HRu:=Lib.hid hrel
     have HVu:=Lib.hid herr
     have HXRu:=Lib.hid hxr
     have HLu:=Lib.hid (xp_cells hrel).1
     have HCu:=Lib.hid (xp_cells hrel).2.1
     clear hb hrel herr hxr
     go_simp
     refine hK _ _ ?_;clear hK K
     iterate 3 (refine wpList_plain rfl (fun K hK=>?_);go_simp;refine hK _ _ ?_;clear hK K)
     refine wpList_plain rfl (fun K hK=>?_);go_simp;refine hK _ _ ?_;clear hK K
     obtain ⟨bu,HNbu⟩:∃ x,Hid (w5.heap.size=x):=⟨_,Lib.hid rfl⟩
     obtain ⟨w5a,HWabu⟩:∃ X,Hid (w5.alloc (.cells #[.slice none 0 0,.int .u64 0,.int .u64 0,.int .u64 0,.bool false,.int .u64 0,.bool false,.int .u64 0,.bool false,.int .u64 0,.int .i32 0,.int .u64 0,.bool false,.int .i32 0,.slice none 0 0,.string ⟨#[]⟩,.bool false,.int .i32 0,.slice none 0 0,.string ⟨#[]⟩,.slice none 0 0,.int .u32 0,.int .u64 0,.string ⟨#[]⟩] 32)=X):=⟨_,Lib.hid rfl⟩
     rw[HWabu.out,HNbu.out]
     have hb:Below w5.heap.size w5 w5a:=by rw[←HWabu.out];exact below_new _ _
     have hr:w5a.heap[bu]? = some (.cells #[.slice none 0 0,.int .u64 0,.int .u64 0,.int .u64 0,.bool false,.int .u64 0,.bool false,.int .u64 0,.bool false,.int .u64 0,.int .i32 0,.int .u64 0,.bool false,.int .i32 0,.slice none 0 0,.string ⟨#[]⟩,.bool false,.int .i32 0,.slice none 0 0,.string ⟨#[]⟩,.slice none 0 0,.int .u32 0,.int .u64 0,.string ⟨#[]⟩] 32 (0,0)):=by rw[←HWabu.out,←HNbu.out];exact heap_alloc_new w5 _
     have HGEnnnnn:Hid ((((((w.heap.size≤b1∧b1<b2∧b2<b3∧b3<b4∧b4<b5)∧b5<bp)∧bp<bq)∧bq<br)∧br<bs)∧bs<bu):=Lib.hid ⟨HGEnnnn.out,by have h1:=row_lt Rbs.out;have h2:=HNbu.out;omega⟩
     replace HB:=Lib.hid (below_step HB.out hb)
     replace Rb1:=Lib.hid ((hb.block _ (row_lt Rb1.out)).trans Rb1.out)
     replace Rb2:=Lib.hid ((hb.block _ (row_lt Rb2.out)).trans Rb2.out)
     replace Rb3:=Lib.hid ((hb.block _ (row_lt Rb3.out)).trans Rb3.out)
     replace Rb4:=Lib.hid ((hb.block _ (row_lt Rb4.out)).trans Rb4.out)
     replace Rb5:=Lib.hid ((hb.block _ (row_lt Rb5.out)).trans Rb5.out)
     replace Rbp:=Lib.hid ((hb.block _ (row_lt Rbp.out)).trans Rbp.out)
     replace Rbq:=Lib.hid ((hb.block _ (row_lt Rbq.out)).trans Rbq.out)
     replace Rbr:=Lib.hid ((hb.block _ (row_lt Rbr.out)).trans Rbr.out)
     replace Rbs:=Lib.hid ((hb.block _ (row_lt Rbs.out)).trans Rbs.out)
     have Rbu:=Lib.hid hr
     clear hb hr
     have hbz:Below w5.heap.size w5 w5a:=by rw[←HWabu.out];exact below_new _ _
     refine wpList_store_row rfl 32 (.tmp 21) (.tmp 116) rfl bu cu.toArray rfl rfl 32 _ Rbu.out (by rw[List.size_toArray,HLu.out];kernel_rfl) (Eq.symm (show cu.toArray.size=24 from (by rw[List.size_toArray,HLu.out]))) HCu.out ?_
     obtain ⟨w5b,HWbbu⟩:∃ X,Hid (w5a.setRow bu cu.toArray=X):=⟨_,Lib.hid rfl⟩
     rw[HWbbu.out]
     have hu:Upd (fun k=>k=bu) w5a w5b:=by rw[←HWbbu.out];exact upd_setRow _ _ _
     have hr:w5b.heap[bu]? = some (.cells cu.toArray 32 (0,0)):=by rw[←HWbbu.out];exact setRow_heap _ _ _ _ _ _ Rbu.out
     replace HB:=Lib.hid (HB.out.trans (hu.below HB.out.size (fun k _ hk=>by have hk:k=bu:=hk;have:=HGEnnnnn.out;omega)))
     replace Rb1:=Lib.hid ((hu.block _ (row_lt Rb1.out) (fun h=>by have h:b1=bu:=h;have:=HGEnnnnn.out;omega)).trans Rb1.out)
     replace Rb2:=Lib.hid ((hu.block _ (row_lt Rb2.out) (fun h=>by have h:b2=bu:=h;have:=HGEnnnnn.out;omega)).trans Rb2.out)
     replace Rb3:=Lib.hid ((hu.block _ (row_lt Rb3.out) (fun h=>by have h:b3=bu:=h;have:=HGEnnnnn.out;omega)).trans Rb3.out)
     replace Rb4:=Lib.hid ((hu.block _ (row_lt Rb4.out) (fun h=>by have h:b4=bu:=h;have:=HGEnnnnn.out;omega)).trans Rb4.out)
     replace Rb5:=Lib.hid ((hu.block _ (row_lt Rb5.out) (fun h=>by have h:b5=bu:=h;have:=HGEnnnnn.out;omega)).trans Rb5.out)
     replace Rbp:=Lib.hid ((hu.block _ (row_lt Rbp.out) (fun h=>by have h:bp=bu:=h;have:=HGEnnnnn.out;omega)).trans Rbp.out)
     replace Rbq:=Lib.hid ((hu.block _ (row_lt Rbq.out) (fun h=>by have h:bq=bu:=h;have:=HGEnnnnn.out;omega)).trans Rbq.out)
     replace Rbr:=Lib.hid ((hu.block _ (row_lt Rbr.out) (fun h=>by have h:br=bu:=h;have:=HGEnnnnn.out;omega)).trans Rbr.out)
     replace Rbs:=Lib.hid ((hu.block _ (row_lt Rbs.out) (fun h=>by have h:bs=bu:=h;have:=HGEnnnnn.out;omega)).trans Rbs.out)
     replace Rbu:=Lib.hid (hr)
     have hbb:Below w5.heap.size w5 w5b:=hbz.trans (hu.below hbz.size (fun k _ hk=>by have hk:k=bu:=hk;have:=HNbu.out;omega))
     replace HR1:=Lib.hid (hiCel.upd (Upd.of_new (S:=fun _=>False) hbb) (fun _ _ h=>h) (fun _ h=>h) HR1.out)
     replace HR2:=Lib.hid (hiCel.upd (Upd.of_new (S:=fun _=>False) hbb) (fun _ _ h=>h) (fun _ h=>h) HR2.out)
     replace HR3:=Lib.hid (hiCel.upd (Upd.of_new (S:=fun _=>False) hbb) (fun _ _ h=>h) (fun _ h=>h) HR3.out)
     replace HR4:=Lib.hid (xpCel.upd (Upd.of_new (S:=fun _=>False) hbb) (fun _ _ h=>h) (fun _ h=>h) HR4.out)
     replace HR5:=Lib.hid (xpCel.upd (Upd.of_new (S:=fun _=>False) hbb) (fun _ _ h=>h) (fun _ h=>h) HR5.out)
     replace HRu:=Lib.hid (xpCel.upd (Upd.of_new (S:=fun _=>False) hbb) (fun _ _ h=>h) (fun _ h=>h) HRu.out)
     clear hu hr hbz hbb
     replace HG:=Lib.hid (hg.out.below HB.out)
     replace HEW:=Lib.hid (HE0.out.below HB.out)
     refine wpList_plain rfl (fun K hK=>?_);go_simp;refine hK _ _ ?_;clear hK K
     go_upto_region 12 with fail
     refine wp_region_lit ?_
     refine wpList_load_mid rfl 32 (.tmp 10) rfl b5 0 rfl [.slice lo5 l5.length lc5,.int .u64 (a5:Int),.int .u64 (t5:Int),.int .u64 (k5:Int),.bool bp5,.int .u64 (vp5:Int),.bool bm5,.int .u64 (vm5:Int),.bool bg5,.int .u64 (vg5:Int),.int .i32 sc5,.int .u64 (zc5:Int),.bool gp5,.int .i32 po5,.slice pco5 pc5.length pcc5,strV pu5,.bool gn5,.int .i32 no5,.slice nco5 nc5.length ncc5,strV nu5,.slice eo5 es5.length ec5,.int .u32 (f5:Int),.int .u64 (th5:Int),strV u5] _ (range_rowf Rb5.out) Tryd.underlying32 rfl (by kernel_rfl) ?_
     refine wpList_load_mid rfl 32 (.tmp 9) rfl b4 0 rfl [.slice lo4 l4.length lc4,.int .u64 (a4:Int),.int .u64 (t4:Int),.int .u64 (k4:Int),.bool bp4,.int .u64 (vp4:Int),.bool bm4,.int .u64 (vm4:Int),.bool bg4,.int .u64 (vg4:Int),.int .i32 sc4,.int .u64 (zc4:Int),.bool gp4,.int .i32 po4,.slice pco4 pc4.length pcc4,strV pu4,.bool gn4,.int .i32 no4,.slice nco4 nc4.length ncc4,strV nu4,.slice eo4 es4.length ec4,.int .u32 (f4:Int),.int .u64 (th4:Int),strV u4] _ (range_rowf Rb4.out) Tryd.underlying32 rfl (by kernel_rfl) ?_
     refine wpList_plain rfl (fun K hK=>?_);go_simp;refine hK _ _ ?_;clear hK K
     refine wpList_plain rfl (fun K hK=>?_);go_simp
     refine (mx_u ((l5,(a5,(t5,(k5,((bp5,vp5),(sc5,(zc5,((gp5,⟨po5,pc5⟩,pu5),((gn5,⟨no5,nc5⟩,nu5),(f5,(es5,((bm5,vm5),((bg5,vg5),th5))))))))))))),u5) ((l4,(a4,(t4,(k4,((bp4,vp4),(sc4,(zc4,((gp4,⟨po4,pc4⟩,pu4),((gn4,⟨no4,nc4⟩,nu4),(f4,(es4,((bm4,vm4),((bg4,vg4),th4))))))))))))),u4) [.slice lo5 l5.length lc5,.int .u64 (a5:Int),.int .u64 (t5:Int),.int .u64 (k5:Int),.bool bp5,.int .u64 (vp5:Int),.bool bm5,.int .u64 (vm5:Int),.bool bg5,.int .u64 (vg5:Int),.int .i32 sc5,.int .u64 (zc5:Int),.bool gp5,.int .i32 po5,.slice pco5 pc5.length pcc5,strV pu5,.bool gn5,.int .i32 no5,.slice nco5 nc5.length ncc5,strV nu5,.slice eo5 es5.length ec5,.int .u32 (f5:Int),.int .u64 (th5:Int),strV u5] [.slice lo4 l4.length lc4,.int .u64 (a4:Int),.int .u64 (t4:Int),.int .u64 (k4:Int),.bool bp4,.int .u64 (vp4:Int),.bool bm4,.int .u64 (vm4:Int),.bool bg4,.int .u64 (vg4:Int),.int .i32 sc4,.int .u64 (zc4:Int),.bool gp4,.int .i32 po4,.slice pco4 pc4.length pcc4,strV pu4,.bool gn4,.int .i32 no4,.slice nco4 nc4.length ncc4,strV nu4,.slice eo4 es4.length ec4,.int .u32 (f4:Int),.int .u64 (th4:Int),strV u4] most ew (fun _=>True) w5b HX5.out HX4.out HR5.out HR4.out HEW).mono ?_
     rintro E w6 ⟨hb,cv,ev,hv,ov,rfl,hrel,herr,hxr⟩
     replace HB:=Lib.hid (below_step HB.out hb)
     replace Rb1:=Lib.hid ((hb.block _ (row_lt Rb1.out)).trans Rb1.out)
     replace Rb2:=Lib.hid ((hb.block _ (row_lt Rb2.out)).trans Rb2.out)
     replace Rb3:=Lib.hid ((hb.block _ (row_lt Rb3.out)).trans Rb3.out)
     replace Rb4:=Lib.hid ((hb.block _ (row_lt Rb4.out)).trans Rb4.out)
     replace Rb5:=Lib.hid ((hb.block _ (row_lt Rb5.out)).trans Rb5.out)
     replace Rbp:=Lib.hid ((hb.block _ (row_lt Rbp.out)).trans Rbp.out)
     replace Rbq:=Lib.hid ((hb.block _ (row_lt Rbq.out)).trans Rbq.out)
     replace Rbr:=Lib.hid ((hb.block _ (row_lt Rbr.out)).trans Rbr.out)
     replace Rbs:=Lib.hid ((hb.block _ (row_lt Rbs.out)).trans Rbs.out)
     replace Rbu:=Lib.hid ((hb.block _ (row_lt Rbu.out)).trans Rbu.out)
     replace HG:=Lib.hid (hg.out.below HB.out)
     replace HEW:=Lib.hid (HE0.out.below HB.out)
     replace HR1:=Lib.hid (hiCel.upd (Upd.of_new (S:=fun _=>False) hb) (fun _ _ h=>h) (fun _ h=>h) HR1.out)
     replace HR2:=Lib.hid (hiCel.upd (Upd.of_new (S:=fun _=>False) hb) (fun _ _ h=>h) (fun _ h=>h) HR2.out)
     replace HR3:=Lib.hid (hiCel.upd (Upd.of_new (S:=fun _=>False) hb) (fun _ _ h=>h) (fun _ h=>h) HR3.out)
     replace HR4:=Lib.hid (xpCel.upd (Upd.of_new (S:=fun _=>False) hb) (fun _ _ h=>h) (fun _ h=>h) HR4.out)
     replace HR5:=Lib.hid (xpCel.upd (Upd.of_new (S:=fun _=>False) hb) (fun _ _ h=>h) (fun _ h=>h) HR5.out)
     replace HRu:=Lib.hid (xpCel.upd (Upd.of_new (S:=fun _=>False) hb) (fun _ _ h=>h) (fun _ h=>h) HRu.out)
     have HRv:=Lib.hid hrel
     have HVv:=Lib.hid herr
     have HXRv:=Lib.hid hxr
     have HLv:=Lib.hid (xp_cells hrel).1
     have HCv:=Lib.hid (xp_cells hrel).2.1
     clear hb hrel herr hxr
     go_simp
     refine hK _ _ ?_;clear hK K
     iterate 3 (refine wpList_plain rfl (fun K hK=>?_);go_simp;refine hK _ _ ?_;clear hK K)
     refine wpList_plain rfl (fun K hK=>?_);go_simp;refine hK _ _ ?_;clear hK K
     obtain ⟨bv,HNbv⟩:∃ x,Hid (w6.heap.size=x):=⟨_,Lib.hid rfl⟩
     obtain ⟨w6a,HWabv⟩:∃ X,Hid (w6.alloc (.cells #[.slice none 0 0,.int .u64 0,.int .u64 0,.int .u64 0,.bool false,.int .u64 0,.bool false,.int .u64 0,.bool false,.int .u64 0,.int .i32 0,.int .u64 0,.bool false,.int .i32 0,.slice none 0 0,.string ⟨#[]⟩,.bool false,.int .i32 0,.slice none 0 0,.string ⟨#[]⟩,.slice none 0 0,.int .u32 0,.int .u64 0,.string ⟨#[]⟩] 32)=X):=⟨_,Lib.hid rfl⟩
     rw[HWabv.out,HNbv.out]
     have hb:Below w6.heap.size w6 w6a:=by rw[←HWabv.out];exact below_new _ _
     have hr:w6a.heap[bv]? = some (.cells #[.slice none 0 0,.int .u64 0,.int .u64 0,.int .u64 0,.bool false,.int .u64 0,.bool false,.int .u64 0,.bool false,.int .u64 0,.int .i32 0,.int .u64 0,.bool false,.int .i32 0,.slice none 0 0,.string ⟨#[]⟩,.bool false,.int .i32 0,.slice none 0 0,.string ⟨#[]⟩,.slice none 0 0,.int .u32 0,.int .u64 0,.string ⟨#[]⟩] 32 (0,0)):=by rw[←HWabv.out,←HNbv.out];exact heap_alloc_new w6 _
     have HGEnnnnnn:Hid (((((((w.heap.size≤b1∧b1<b2∧b2<b3∧b3<b4∧b4<b5)∧b5<bp)∧bp<bq)∧bq<br)∧br<bs)∧bs<bu)∧bu<bv):=Lib.hid ⟨HGEnnnnn.out,by have h1:=row_lt Rbu.out;have h2:=HNbv.out;omega⟩
     replace HB:=Lib.hid (below_step HB.out hb)
     replace Rb1:=Lib.hid ((hb.block _ (row_lt Rb1.out)).trans Rb1.out)
     replace Rb2:=Lib.hid ((hb.block _ (row_lt Rb2.out)).trans Rb2.out)
     replace Rb3:=Lib.hid ((hb.block _ (row_lt Rb3.out)).trans Rb3.out)
     replace Rb4:=Lib.hid ((hb.block _ (row_lt Rb4.out)).trans Rb4.out)
     replace Rb5:=Lib.hid ((hb.block _ (row_lt Rb5.out)).trans Rb5.out)
     replace Rbp:=Lib.hid ((hb.block _ (row_lt Rbp.out)).trans Rbp.out)
     replace Rbq:=Lib.hid ((hb.block _ (row_lt Rbq.out)).trans Rbq.out)
     replace Rbr:=Lib.hid ((hb.block _ (row_lt Rbr.out)).trans Rbr.out)
     replace Rbs:=Lib.hid ((hb.block _ (row_lt Rbs.out)).trans Rbs.out)
     replace Rbu:=Lib.hid ((hb.block _ (row_lt Rbu.out)).trans Rbu.out)
     have Rbv:=Lib.hid hr
     clear hb hr
     have hbz:Below w6.heap.size w6 w6a:=by rw[←HWabv.out];exact below_new _ _
     refine wpList_store_row rfl 32 (.tmp 23) (.tmp 123) rfl bv cv.toArray rfl rfl 32 _ Rbv.out (by rw[List.size_toArray,HLv.out];kernel_rfl) (Eq.symm (show cv.toArray.size=24 from (by rw[List.size_toArray,HLv.out]))) HCv.out ?_
     obtain ⟨w6b,HWbbv⟩:∃ X,Hid (w6a.setRow bv cv.toArray=X):=⟨_,Lib.hid rfl⟩
     rw[HWbbv.out]
     have hu:Upd (fun k=>k=bv) w6a w6b:=by rw[←HWbbv.out];exact upd_setRow _ _ _
     have hr:w6b.heap[bv]? = some (.cells cv.toArray 32 (0,0)):=by rw[←HWbbv.out];exact setRow_heap _ _ _ _ _ _ Rbv.out
     replace HB:=Lib.hid (HB.out.trans (hu.below HB.out.size (fun k _ hk=>by have hk:k=bv:=hk;have:=HGEnnnnnn.out;omega)))
     replace Rb1:=Lib.hid ((hu.block _ (row_lt Rb1.out) (fun h=>by have h:b1=bv:=h;have:=HGEnnnnnn.out;omega)).trans Rb1.out)
     replace Rb2:=Lib.hid ((hu.block _ (row_lt Rb2.out) (fun h=>by have h:b2=bv:=h;have:=HGEnnnnnn.out;omega)).trans Rb2.out)
     replace Rb3:=Lib.hid ((hu.block _ (row_lt Rb3.out) (fun h=>by have h:b3=bv:=h;have:=HGEnnnnnn.out;omega)).trans Rb3.out)
     replace Rb4:=Lib.hid ((hu.block _ (row_lt Rb4.out) (fun h=>by have h:b4=bv:=h;have:=HGEnnnnnn.out;omega)).trans Rb4.out)
     replace Rb5:=Lib.hid ((hu.block _ (row_lt Rb5.out) (fun h=>by have h:b5=bv:=h;have:=HGEnnnnnn.out;omega)).trans Rb5.out)
     replace Rbp:=Lib.hid ((hu.block _ (row_lt Rbp.out) (fun h=>by have h:bp=bv:=h;have:=HGEnnnnnn.out;omega)).trans Rbp.out)
     replace Rbq:=Lib.hid ((hu.block _ (row_lt Rbq.out) (fun h=>by have h:bq=bv:=h;have:=HGEnnnnnn.out;omega)).trans Rbq.out)
     replace Rbr:=Lib.hid ((hu.block _ (row_lt Rbr.out) (fun h=>by have h:br=bv:=h;have:=HGEnnnnnn.out;omega)).trans Rbr.out)
     replace Rbs:=Lib.hid ((hu.block _ (row_lt Rbs.out) (fun h=>by have h:bs=bv:=h;have:=HGEnnnnnn.out;omega)).trans Rbs.out)
     replace Rbu:=Lib.hid ((hu.block _ (row_lt Rbu.out) (fun h=>by have h:bu=bv:=h;have:=HGEnnnnnn.out;omega)).trans Rbu.out)
     replace Rbv:=Lib.hid (hr)
     have hbb:Below w6.heap.size w6 w6b:=hbz.trans (hu.below hbz.size (fun k _ hk=>by have hk:k=bv:=hk;have:=HNbv.out;omega))
     replace HR1:=Lib.hid (hiCel.upd (Upd.of_new (S:=fun _=>False) hbb) (fun _ _ h=>h) (fun _ h=>h) HR1.out)
     replace HR2:=Lib.hid (hiCel.upd (Upd.of_new (S:=fun _=>False) hbb) (fun _ _ h=>h) (fun _ h=>h) HR2.out)
     replace HR3:=Lib.hid (hiCel.upd (Upd.of_new (S:=fun _=>False) hbb) (fun _ _ h=>h) (fun _ h=>h) HR3.out)
     replace HR4:=Lib.hid (xpCel.upd (Upd.of_new (S:=fun _=>False) hbb) (fun _ _ h=>h) (fun _ h=>h) HR4.out)
     replace HR5:=Lib.hid (xpCel.upd (Upd.of_new (S:=fun _=>False) hbb) (fun _ _ h=>h) (fun _ h=>h) HR5.out)
     replace HRu:=Lib.hid (xpCel.upd (Upd.of_new (S:=fun _=>False) hbb) (fun _ _ h=>h) (fun _ h=>h) HRu.out)
     replace HRv:=Lib.hid (xpCel.upd (Upd.of_new (S:=fun _=>False) hbb) (fun _ _ h=>h) (fun _ h=>h) HRv.out)
     clear hu hr hbz hbb
     replace HG:=Lib.hid (hg.out.below HB.out)
     replace HEW:=Lib.hid (HE0.out.below HB.out)
     refine wpList_plain rfl (fun K hK=>?_);go_simp;refine hK _ _ ?_;clear hK K
     obtain ⟨hij,hlk⟩:=xe_swap HXRu.out HXRv.out
     go_upto_region 13 with fail
     have hne:Nonempty {w':World // TwoRows bu bv cu.toArray cv.toArray 32 w'}:=⟨⟨_,Rbu.out,Rbv.out⟩⟩
     rcases HVu.out with ⟨he1,rfl⟩|⟨he1,Te1,ye1,rfl⟩
     ·
      rcases HVv.out with ⟨he2,rfl⟩|⟨he2,Te2,ye2,rfl⟩
      ·
       obtain ⟨i1,i2,i3,i4,i5,i6⟩:=hlk he1
       clear hlk hij
       obtain ⟨-,-,q3,q10,q11,q13,nu,nuc,mu,muc,q14,qn,q18,qm⟩:=xp_cells HRu.out
       obtain ⟨-,-,s3,s10,s11,s13,nv,nvc,mv,mvc,s14,sn,s18,sm⟩:=xp_cells HRv.out
       rw[←i2] at s3
       rw[←i1] at s10
       rw[←i3] at s11
       rw[←i4] at s13
       rw[←i5] at s14 sn
       rw[←i6] at s18 sm
       have hpl:=xe_len (he1 ▸ HXRu.out)
       generalize (xSd hu).pc=PC at q14 qn s14 sn hpl
       generalize (xSd hu).nc=NC at q18 qm s18 sm hpl
       generalize xK hu=QK at q3 s3
       generalize (xSd hu).sc=QS at q10 s10
       generalize xZ hu=QZ at q11 s11
       generalize (xSd hu).po=QO at q13 s13
       clear i1 i2 i3 i4 i5 i6
       have HPL:=Lib.hid hpl.1
       have HPL2:=Lib.hid hpl.2
       have HNU:=Lib.hid qn
       have HNV:=Lib.hid sn
       have HMU:=Lib.hid qm
       have HMV:=Lib.hid sm
       clear hpl qn sn qm sm
       have j1:∀ z:{w':World // TwoRows bu bv cu.toArray cv.toArray 32 w'},z.1.cell? ⟨bu,3,none⟩=some (.int .u64 (QK:Int)):=fun z=>row_cell z.2.1 q3
       have j2:∀ z:{w':World // TwoRows bu bv cu.toArray cv.toArray 32 w'},z.1.cell? ⟨bv,3,none⟩=some (.int .u64 (QK:Int)):=fun z=>row_cell z.2.2 s3
       have j3:∀ z:{w':World // TwoRows bu bv cu.toArray cv.toArray 32 w'},z.1.cell? ⟨bu,10,none⟩=some (.int .i32 QS):=fun z=>row_cell z.2.1 q10
       have j4:∀ z:{w':World // TwoRows bu bv cu.toArray cv.toArray 32 w'},z.1.cell? ⟨bv,10,none⟩=some (.int .i32 QS):=fun z=>row_cell z.2.2 s10
       have j5:∀ z:{w':World // TwoRows bu bv cu.toArray cv.toArray 32 w'},z.1.cell? ⟨bu,11,none⟩=some (.int .u64 (QZ:Int)):=fun z=>row_cell z.2.1 q11
       have j6:∀ z:{w':World // TwoRows bu bv cu.toArray cv.toArray 32 w'},z.1.cell? ⟨bv,11,none⟩=some (.int .u64 (QZ:Int)):=fun z=>row_cell z.2.2 s11
       have j7:∀ z:{w':World // TwoRows bu bv cu.toArray cv.toArray 32 w'},z.1.cell? ⟨bu,13,none⟩=some (.int .i32 QO):=fun z=>row_cell z.2.1 q13
       have j8:∀ z:{w':World // TwoRows bu bv cu.toArray cv.toArray 32 w'},z.1.cell? ⟨bv,13,none⟩=some (.int .i32 QO):=fun z=>row_cell z.2.2 s13
       have j9:∀ z:{w':World // TwoRows bu bv cu.toArray cv.toArray 32 w'},z.1.cell? ⟨bu,14,none⟩=some (.slice nu PC.length nuc):=fun z=>row_cell z.2.1 q14
       have j10:∀ z:{w':World // TwoRows bu bv cu.toArray cv.toArray 32 w'},z.1.cell? ⟨bv,14,none⟩=some (.slice nv PC.length nvc):=fun z=>row_cell z.2.2 s14
       have j11:∀ z:{w':World // TwoRows bu bv cu.toArray cv.toArray 32 w'},z.1.cell? ⟨bu,18,none⟩=some (.slice mu NC.length muc):=fun z=>row_cell z.2.1 q18
       have j12:∀ z:{w':World // TwoRows bu bv cu.toArray cv.toArray 32 w'},z.1.cell? ⟨bv,18,none⟩=some (.slice mv NC.length mvc):=fun z=>row_cell z.2.2 s18
       clear q3 s3 q10 s10 q11 s11 q13 s13 q14 s14 q18 s18 he1 he2
       have hbx:=Lib.hid (Below.refl w6b.heap.size w6b)
       as_aux_lemma =>
        obtain ⟨D,HD⟩:∃ D,Hid (w6b.drew=D):=⟨_,Lib.hid rfl⟩
        have hb:Below w6b.heap.size w6b D:=by rw[←HD.out];exact (Below.refl _ _).drew
        replace hbx:=Lib.hid (below_step hbx.out hb)
        replace HB:=Lib.hid (below_step HB.out hb)
        replace Rb1:=Lib.hid ((hb.block _ (row_lt Rb1.out)).trans Rb1.out)
        replace Rb2:=Lib.hid ((hb.block _ (row_lt Rb2.out)).trans Rb2.out)
        replace Rb3:=Lib.hid ((hb.block _ (row_lt Rb3.out)).trans Rb3.out)
        replace Rb4:=Lib.hid ((hb.block _ (row_lt Rb4.out)).trans Rb4.out)
        replace Rb5:=Lib.hid ((hb.block _ (row_lt Rb5.out)).trans Rb5.out)
        replace Rbp:=Lib.hid ((hb.block _ (row_lt Rbp.out)).trans Rbp.out)
        replace Rbq:=Lib.hid ((hb.block _ (row_lt Rbq.out)).trans Rbq.out)
        replace Rbr:=Lib.hid ((hb.block _ (row_lt Rbr.out)).trans Rbr.out)
        replace Rbs:=Lib.hid ((hb.block _ (row_lt Rbs.out)).trans Rbs.out)
        replace Rbu:=Lib.hid ((hb.block _ (row_lt Rbu.out)).trans Rbu.out)
        replace Rbv:=Lib.hid ((hb.block _ (row_lt Rbv.out)).trans Rbv.out)
        replace HG:=Lib.hid (hg.out.below HB.out)
        replace HEW:=Lib.hid (HE0.out.below HB.out)
        replace HR1:=Lib.hid (hiCel.upd (Upd.of_new (S:=fun _=>False) hb) (fun _ _ h=>h) (fun _ h=>h) HR1.out)
        replace HR2:=Lib.hid (hiCel.upd (Upd.of_new (S:=fun _=>False) hb) (fun _ _ h=>h) (fun _ h=>h) HR2.out)
        replace HR3:=Lib.hid (hiCel.upd (Upd.of_new (S:=fun _=>False) hb) (fun _ _ h=>h) (fun _ h=>h) HR3.out)
        replace HR4:=Lib.hid (xpCel.upd (Upd.of_new (S:=fun _=>False) hb) (fun _ _ h=>h) (fun _ h=>h) HR4.out)
        replace HR5:=Lib.hid (xpCel.upd (Upd.of_new (S:=fun _=>False) hb) (fun _ _ h=>h) (fun _ h=>h) HR5.out)
        replace HRu:=Lib.hid (xpCel.upd (Upd.of_new (S:=fun _=>False) hb) (fun _ _ h=>h) (fun _ h=>h) HRu.out)
        replace HRv:=Lib.hid (xpCel.upd (Upd.of_new (S:=fun _=>False) hb) (fun _ _ h=>h) (fun _ h=>h) HRv.out)
        clear hb
        refine wp_region_seq (S:=TwoRows bu bv cu.toArray cv.toArray 32) [(0,false),(1,true),(2,true),(3,true),(4,true),(5,true),(6,true),(7,true),(8,true),(9,true),(10,true),(11,true),(12,true),(13,true),(14,true),(15,true),(16,true),(17,true),(18,true),(19,true),(20,true),(21,true),(22,true),(23,true),(24,true),(25,true),(26,true),(27,true),(28,true),(29,true),(30,true),(31,true),(32,true),(33,true),(34,true),(35,true),(36,true),(37,true),(38,true),(39,true),(40,true),(41,true),(42,true),(43,true),(44,true),(45,true),(46,true),(47,false),(48,true),(49,true),(50,true),(51,true),(52,true),(53,true),(54,true),(55,true),(56,false),(57,true),(58,true),(59,true),(60,true)] (by kernel_rfl) (by kernel_rfl) (by kernel_rfl) (by kernel_rfl) (by rw[HD.out];exact ⟨Rbu.out,Rbv.out⟩) ?_
        rw[HD.out]
        refine seq_come _ rfl (fun KC hK=>?_);go_simp
        refine (first25 D HG).mono ?_
        rintro E d1 ⟨rfl,hb⟩
        replace hbx:=Lib.hid (below_step hbx.out hb)
        replace HB:=Lib.hid (below_step HB.out hb)
        replace Rb1:=Lib.hid ((hb.block _ (row_lt Rb1.out)).trans Rb1.out)
        replace Rb2:=Lib.hid ((hb.block _ (row_lt Rb2.out)).trans Rb2.out)
        replace Rb3:=Lib.hid ((hb.block _ (row_lt Rb3.out)).trans Rb3.out)
        replace Rb4:=Lib.hid ((hb.block _ (row_lt Rb4.out)).trans Rb4.out)
        replace Rb5:=Lib.hid ((hb.block _ (row_lt Rb5.out)).trans Rb5.out)
        replace Rbp:=Lib.hid ((hb.block _ (row_lt Rbp.out)).trans Rbp.out)
        replace Rbq:=Lib.hid ((hb.block _ (row_lt Rbq.out)).trans Rbq.out)
        replace Rbr:=Lib.hid ((hb.block _ (row_lt Rbr.out)).trans Rbr.out)
        replace Rbs:=Lib.hid ((hb.block _ (row_lt Rbs.out)).trans Rbs.out)
        replace Rbu:=Lib.hid ((hb.block _ (row_lt Rbu.out)).trans Rbu.out)
        replace Rbv:=Lib.hid ((hb.block _ (row_lt Rbv.out)).trans Rbv.out)
        replace HG:=Lib.hid (hg.out.below HB.out)
        replace HEW:=Lib.hid (HE0.out.below HB.out)
        replace HR1:=Lib.hid (hiCel.upd (Upd.of_new (S:=fun _=>False) hb) (fun _ _ h=>h) (fun _ h=>h) HR1.out)
        replace HR2:=Lib.hid (hiCel.upd (Upd.of_new (S:=fun _=>False) hb) (fun _ _ h=>h) (fun _ h=>h) HR2.out)
        replace HR3:=Lib.hid (hiCel.upd (Upd.of_new (S:=fun _=>False) hb) (fun _ _ h=>h) (fun _ h=>h) HR3.out)
        replace HR4:=Lib.hid (xpCel.upd (Upd.of_new (S:=fun _=>False) hb) (fun _ _ h=>h) (fun _ h=>h) HR4.out)
        replace HR5:=Lib.hid (xpCel.upd (Upd.of_new (S:=fun _=>False) hb) (fun _ _ h=>h) (fun _ h=>h) HR5.out)
        replace HRu:=Lib.hid (xpCel.upd (Upd.of_new (S:=fun _=>False) hb) (fun _ _ h=>h) (fun _ h=>h) HRu.out)
        replace HRv:=Lib.hid (xpCel.upd (Upd.of_new (S:=fun _=>False) hb) (fun _ _ h=>h) (fun _ h=>h) HRv.out)
        clear hb
        go_simp
        refine hK.out _ _ ⟨Rbu.out,Rbv.out⟩ ?_;clear hK KC
        iterate 46 (refine seq_take _ rfl (fun KC hK=>?_);go_simp;(first|refine hK _ ?_|(refine ⟨undef,by rw[if_neg (by simp[undef])],?_⟩;refine hK _ ?_)|refine ⟨_,fun _ _=>rfl,hK _ ?_⟩);clear hK KC)
        refine seq_come _ rfl (fun KC hK=>?_);go_simp
        refine (nums_any nu nv nuc nvc PC PC d1 (Lib.hid (HNU.out.below hbx.out)) (Lib.hid (HNV.out.below hbx.out)) (by have:=HPL.out;omega) (Lib.hid (decide_eq_true rfl))).mono ?_
        rintro E d2 ⟨rfl,hb⟩
        replace hbx:=Lib.hid (below_step hbx.out hb)
        replace HB:=Lib.hid (below_step HB.out hb)
        replace Rb1:=Lib.hid ((hb.block _ (row_lt Rb1.out)).trans Rb1.out)
        replace Rb2:=Lib.hid ((hb.block _ (row_lt Rb2.out)).trans Rb2.out)
        replace Rb3:=Lib.hid ((hb.block _ (row_lt Rb3.out)).trans Rb3.out)
        replace Rb4:=Lib.hid ((hb.block _ (row_lt Rb4.out)).trans Rb4.out)
        replace Rb5:=Lib.hid ((hb.block _ (row_lt Rb5.out)).trans Rb5.out)
        replace Rbp:=Lib.hid ((hb.block _ (row_lt Rbp.out)).trans Rbp.out)
        replace Rbq:=Lib.hid ((hb.block _ (row_lt Rbq.out)).trans Rbq.out)
        replace Rbr:=Lib.hid ((hb.block _ (row_lt Rbr.out)).trans Rbr.out)
        replace Rbs:=Lib.hid ((hb.block _ (row_lt Rbs.out)).trans Rbs.out)
        replace Rbu:=Lib.hid ((hb.block _ (row_lt Rbu.out)).trans Rbu.out)
        replace Rbv:=Lib.hid ((hb.block _ (row_lt Rbv.out)).trans Rbv.out)
        replace HG:=Lib.hid (hg.out.below HB.out)
        replace HEW:=Lib.hid (HE0.out.below HB.out)
        replace HR1:=Lib.hid (hiCel.upd (Upd.of_new (S:=fun _=>False) hb) (fun _ _ h=>h) (fun _ h=>h) HR1.out)
        replace HR2:=Lib.hid (hiCel.upd (Upd.of_new (S:=fun _=>False) hb) (fun _ _ h=>h) (fun _ h=>h) HR2.out)
        replace HR3:=Lib.hid (hiCel.upd (Upd.of_new (S:=fun _=>False) hb) (fun _ _ h=>h) (fun _ h=>h) HR3.out)
        replace HR4:=Lib.hid (xpCel.upd (Upd.of_new (S:=fun _=>False) hb) (fun _ _ h=>h) (fun _ h=>h) HR4.out)
        replace HR5:=Lib.hid (xpCel.upd (Upd.of_new (S:=fun _=>False) hb) (fun _ _ h=>h) (fun _ h=>h) HR5.out)
        replace HRu:=Lib.hid (xpCel.upd (Upd.of_new (S:=fun _=>False) hb) (fun _ _ h=>h) (fun _ h=>h) HRu.out)
        replace HRv:=Lib.hid (xpCel.upd (Upd.of_new (S:=fun _=>False) hb) (fun _ _ h=>h) (fun _ h=>h) HRv.out)
        clear hb
        go_simp
        refine hK.out _ _ ⟨Rbu.out,Rbv.out⟩ ?_;clear hK KC
        iterate 8 (refine seq_take _ rfl (fun KC hK=>?_);go_simp;(first|refine hK _ ?_|(refine ⟨undef,by rw[if_neg (by simp[undef])],?_⟩;refine hK _ ?_)|refine ⟨_,fun _ _=>rfl,hK _ ?_⟩);clear hK KC)
        refine seq_come _ rfl (fun KC hK=>?_);go_simp
        refine (nums_any mu mv muc mvc NC NC d2 (Lib.hid (HMU.out.below hbx.out)) (Lib.hid (HMV.out.below hbx.out)) (by have:=HPL2.out;omega) (Lib.hid (decide_eq_true rfl))).mono ?_
        rintro E d3 ⟨rfl,hb⟩
        replace hbx:=Lib.hid (below_step hbx.out hb)
        replace HB:=Lib.hid (below_step HB.out hb)
        replace Rb1:=Lib.hid ((hb.block _ (row_lt Rb1.out)).trans Rb1.out)
        replace Rb2:=Lib.hid ((hb.block _ (row_lt Rb2.out)).trans Rb2.out)
        replace Rb3:=Lib.hid ((hb.block _ (row_lt Rb3.out)).trans Rb3.out)
        replace Rb4:=Lib.hid ((hb.block _ (row_lt Rb4.out)).trans Rb4.out)
        replace Rb5:=Lib.hid ((hb.block _ (row_lt Rb5.out)).trans Rb5.out)
        replace Rbp:=Lib.hid ((hb.block _ (row_lt Rbp.out)).trans Rbp.out)
        replace Rbq:=Lib.hid ((hb.block _ (row_lt Rbq.out)).trans Rbq.out)
        replace Rbr:=Lib.hid ((hb.block _ (row_lt Rbr.out)).trans Rbr.out)
        replace Rbs:=Lib.hid ((hb.block _ (row_lt Rbs.out)).trans Rbs.out)
        replace Rbu:=Lib.hid ((hb.block _ (row_lt Rbu.out)).trans Rbu.out)
        replace Rbv:=Lib.hid ((hb.block _ (row_lt Rbv.out)).trans Rbv.out)
        replace HG:=Lib.hid (hg.out.below HB.out)
        replace HEW:=Lib.hid (HE0.out.below HB.out)
        replace HR1:=Lib.hid (hiCel.upd (Upd.of_new (S:=fun _=>False) hb) (fun _ _ h=>h) (fun _ h=>h) HR1.out)
        replace HR2:=Lib.hid (hiCel.upd (Upd.of_new (S:=fun _=>False) hb) (fun _ _ h=>h) (fun _ h=>h) HR2.out)
        replace HR3:=Lib.hid (hiCel.upd (Upd.of_new (S:=fun _=>False) hb) (fun _ _ h=>h) (fun _ h=>h) HR3.out)
        replace HR4:=Lib.hid (xpCel.upd (Upd.of_new (S:=fun _=>False) hb) (fun _ _ h=>h) (fun _ h=>h) HR4.out)
        replace HR5:=Lib.hid (xpCel.upd (Upd.of_new (S:=fun _=>False) hb) (fun _ _ h=>h) (fun _ h=>h) HR5.out)
        replace HRu:=Lib.hid (xpCel.upd (Upd.of_new (S:=fun _=>False) hb) (fun _ _ h=>h) (fun _ h=>h) HRu.out)
        replace HRv:=Lib.hid (xpCel.upd (Upd.of_new (S:=fun _=>False) hb) (fun _ _ h=>h) (fun _ h=>h) HRv.out)
        clear hb
        go_simp
        refine hK.out _ _ ⟨Rbu.out,Rbv.out⟩ ?_;clear hK KC
        iterate 4 (refine seq_take _ rfl (fun KC hK=>?_);go_simp;(first|refine hK _ ?_|(refine ⟨undef,by rw[if_neg (by simp[undef])],?_⟩;refine hK _ ?_)|refine ⟨_,fun _ _=>rfl,hK _ ?_⟩);clear hK KC)
        refine seq_done ?_
        clear j1 j2 j3 j4 j5 j6 j7 j8 j9 j10 j11 j12 hne
        go_wp2_with fail
        go_ret
        exact ⟨rfl,HB.out⟩
      ·
       exfalso
       rw[he1,he2] at hij
       cases hij
     ·
      rcases HVv.out with ⟨he2,rfl⟩|⟨he2,Te2,ye2,rfl⟩
      ·
       exfalso
       rw[he1,he2] at hij
       cases hij
      ·
       clear hlk hij he1 he2
       as_aux_lemma =>
        obtain ⟨D,HD⟩:∃ D,Hid (w6b.drew=D):=⟨_,Lib.hid rfl⟩
        have hb:Below w6b.heap.size w6b D:=by rw[←HD.out];exact (Below.refl _ _).drew
        replace HB:=Lib.hid (below_step HB.out hb)
        replace Rb1:=Lib.hid ((hb.block _ (row_lt Rb1.out)).trans Rb1.out)
        replace Rb2:=Lib.hid ((hb.block _ (row_lt Rb2.out)).trans Rb2.out)
        replace Rb3:=Lib.hid ((hb.block _ (row_lt Rb3.out)).trans Rb3.out)
        replace Rb4:=Lib.hid ((hb.block _ (row_lt Rb4.out)).trans Rb4.out)
        replace Rb5:=Lib.hid ((hb.block _ (row_lt Rb5.out)).trans Rb5.out)
        replace Rbp:=Lib.hid ((hb.block _ (row_lt Rbp.out)).trans Rbp.out)
        replace Rbq:=Lib.hid ((hb.block _ (row_lt Rbq.out)).trans Rbq.out)
        replace Rbr:=Lib.hid ((hb.block _ (row_lt Rbr.out)).trans Rbr.out)
        replace Rbs:=Lib.hid ((hb.block _ (row_lt Rbs.out)).trans Rbs.out)
        replace Rbu:=Lib.hid ((hb.block _ (row_lt Rbu.out)).trans Rbu.out)
        replace Rbv:=Lib.hid ((hb.block _ (row_lt Rbv.out)).trans Rbv.out)
        replace HG:=Lib.hid (hg.out.below HB.out)
        replace HEW:=Lib.hid (HE0.out.below HB.out)
        replace HR1:=Lib.hid (hiCel.upd (Upd.of_new (S:=fun _=>False) hb) (fun _ _ h=>h) (fun _ h=>h) HR1.out)
        replace HR2:=Lib.hid (hiCel.upd (Upd.of_new (S:=fun _=>False) hb) (fun _ _ h=>h) (fun _ h=>h) HR2.out)
        replace HR3:=Lib.hid (hiCel.upd (Upd.of_new (S:=fun _=>False) hb) (fun _ _ h=>h) (fun _ h=>h) HR3.out)
        replace HR4:=Lib.hid (xpCel.upd (Upd.of_new (S:=fun _=>False) hb) (fun _ _ h=>h) (fun _ h=>h) HR4.out)
        replace HR5:=Lib.hid (xpCel.upd (Upd.of_new (S:=fun _=>False) hb) (fun _ _ h=>h) (fun _ h=>h) HR5.out)
        replace HRu:=Lib.hid (xpCel.upd (Upd.of_new (S:=fun _=>False) hb) (fun _ _ h=>h) (fun _ h=>h) HRu.out)
        replace HRv:=Lib.hid (xpCel.upd (Upd.of_new (S:=fun _=>False) hb) (fun _ _ h=>h) (fun _ h=>h) HRv.out)
        clear hb
        refine wp_region_seq (S:=TwoRows bu bv cu.toArray cv.toArray 32) [(0,false),(1,true),(2,true),(3,true),(4,true),(5,true),(6,true),(7,true),(8,true),(9,true),(10,true),(11,true),(12,true),(13,true),(14,true),(15,true),(16,true),(17,true),(18,true),(19,true),(20,true),(21,true),(22,true),(23,true),(24,true),(25,true),(26,true),(27,true),(28,true),(29,true),(30,true),(31,true),(32,true),(33,true),(34,true),(35,true),(36,true),(37,true),(38,true),(39,true),(40,true),(41,true),(42,true),(43,true),(44,true),(45,true),(46,true),(47,false),(48,true),(49,true),(50,true),(51,true),(52,true),(53,true),(54,true),(55,true),(56,false),(57,true),(58,true),(59,true),(60,true)] (by kernel_rfl) (by kernel_rfl) (by kernel_rfl) (by kernel_rfl) (by rw[HD.out];exact ⟨Rbu.out,Rbv.out⟩) ?_
        rw[HD.out]
        refine seq_come _ rfl (fun KC hK=>?_);go_simp
        refine (first25 D HG).mono ?_
        rintro E d1 ⟨rfl,hb⟩
        replace HB:=Lib.hid (below_step HB.out hb)
        replace Rb1:=Lib.hid ((hb.block _ (row_lt Rb1.out)).trans Rb1.out)
        replace Rb2:=Lib.hid ((hb.block _ (row_lt Rb2.out)).trans Rb2.out)
        replace Rb3:=Lib.hid ((hb.block _ (row_lt Rb3.out)).trans Rb3.out)
        replace Rb4:=Lib.hid ((hb.block _ (row_lt Rb4.out)).trans Rb4.out)
        replace Rb5:=Lib.hid ((hb.block _ (row_lt Rb5.out)).trans Rb5.out)
        replace Rbp:=Lib.hid ((hb.block _ (row_lt Rbp.out)).trans Rbp.out)
        replace Rbq:=Lib.hid ((hb.block _ (row_lt Rbq.out)).trans Rbq.out)
        replace Rbr:=Lib.hid ((hb.block _ (row_lt Rbr.out)).trans Rbr.out)
        replace Rbs:=Lib.hid ((hb.block _ (row_lt Rbs.out)).trans Rbs.out)
        replace Rbu:=Lib.hid ((hb.block _ (row_lt Rbu.out)).trans Rbu.out)
        replace Rbv:=Lib.hid ((hb.block _ (row_lt Rbv.out)).trans Rbv.out)
        replace HG:=Lib.hid (hg.out.below HB.out)
        replace HEW:=Lib.hid (HE0.out.below HB.out)
        replace HR1:=Lib.hid (hiCel.upd (Upd.of_new (S:=fun _=>False) hb) (fun _ _ h=>h) (fun _ h=>h) HR1.out)
        replace HR2:=Lib.hid (hiCel.upd (Upd.of_new (S:=fun _=>False) hb) (fun _ _ h=>h) (fun _ h=>h) HR2.out)
        replace HR3:=Lib.hid (hiCel.upd (Upd.of_new (S:=fun _=>False) hb) (fun _ _ h=>h) (fun _ h=>h) HR3.out)
        replace HR4:=Lib.hid (xpCel.upd (Upd.of_new (S:=fun _=>False) hb) (fun _ _ h=>h) (fun _ h=>h) HR4.out)
        replace HR5:=Lib.hid (xpCel.upd (Upd.of_new (S:=fun _=>False) hb) (fun _ _ h=>h) (fun _ h=>h) HR5.out)
        replace HRu:=Lib.hid (xpCel.upd (Upd.of_new (S:=fun _=>False) hb) (fun _ _ h=>h) (fun _ h=>h) HRu.out)
        replace HRv:=Lib.hid (xpCel.upd (Upd.of_new (S:=fun _=>False) hb) (fun _ _ h=>h) (fun _ h=>h) HRv.out)
        clear hb
        go_simp
        refine hK.out _ _ ⟨Rbu.out,Rbv.out⟩ ?_;clear hK KC
        iterate 46 (refine seq_take _ rfl (fun KC hK=>?_);go_simp;(first|refine hK _ ?_|(refine ⟨undef,by rw[if_neg (by simp[undef])],?_⟩;refine hK _ ?_)|refine ⟨_,fun _ _=>rfl,hK _ ?_⟩);clear hK KC)
        refine seq_come _ rfl (fun KC hK=>?_);go_simp
        (first|refine hK.out _ _ ⟨Rbu.out,Rbv.out⟩ ?_|(rw[if_neg (by simp[undef])];refine hK.out _ _ ⟨Rbu.out,Rbv.out⟩ ?_));clear hK KC
        iterate 8 (refine seq_take _ rfl (fun KC hK=>?_);go_simp;(first|refine hK _ ?_|(refine ⟨undef,by rw[if_neg (by simp[undef])],?_⟩;refine hK _ ?_)|refine ⟨_,fun _ _=>rfl,hK _ ?_⟩);clear hK KC)
        refine seq_come _ rfl (fun KC hK=>?_);go_simp
        (first|refine hK.out _ _ ⟨Rbu.out,Rbv.out⟩ ?_|(rw[if_neg (by simp[undef])];refine hK.out _ _ ⟨Rbu.out,Rbv.out⟩ ?_));clear hK KC
        iterate 4 (refine seq_take _ rfl (fun KC hK=>?_);go_simp;(first|refine hK _ ?_|(refine ⟨undef,by rw[if_neg (by simp[undef])],?_⟩;refine hK _ ?_)|refine ⟨_,fun _ _=>rfl,hK _ ?_⟩);clear hK KC)
        refine seq_done ?_
        clear hne
        go_wp2_with fail
        go_ret
        exact ⟨rfl,HB.out⟩
end Go.Proofs.YtoggpnfeioaidaaDoor
