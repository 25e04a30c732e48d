/-
  MxLawM, MoExp
-/
import Derived.Test.YtoggpnfeioaidaaDoorMhHist
import Derived.Test.YtoggpnfeioaidaaDoorMxFit
import Derived.Test.YtoggpnfeioaidaaDoorMgSat
import Derived.Test.YtoggpnfeioaidaaDoorMgPlaces
import Derived.Test.YtoggpnfeioaidaaDoorMxExp
set_option maxRecDepth 1000000
set_option maxHeartbeats 16000000
namespace Go.Proofs.YtoggpnfeioaidaaDoor
open Go.RowKit
theorem both_lt {f:Nat→Nat→Nat} {a b:Bool × Nat} (h:f a.2 b.2<18446744073709551616):(bothO f a b).2<18446744073709551616:=by unfold bothO;split;exact h;decide
theorem mhsum_len (x y:List Nat):(mhSum x y).length=x.length:=by unfold mhSum;rw[List.length_map,List.length_range]
theorem mhsum_getD (x y:List Nat) {i:Nat} (hi:i<x.length):(mhSum x y).getD i 0=usum (x.getD i 0) (y.getD i 0):=by
 have h1:i<(mhSum x y).length:=by rw[mhsum_len];exact hi
 rw[List.getD_eq_getElem?_getD,List.getElem?_eq_getElem h1]
 simp[mhSum]
theorem mhOv_no {x y:List Nat} {n:Nat} (h:mhOv x y n=false) {i:Nat} (hi:i<n):x.getD i 0+y.getD i 0<18446744073709551616:=by
 unfold mhOv at h
 rw[List.any_eq_false] at h
 have:=h i (List.mem_range.2 hi)
 simp only[decide_eq_true_eq] at this
 omega
theorem usum_no {a b:Nat} (h:a+b<18446744073709551616):usum a b=a+b:=by unfold usum;omega
theorem mhsum_each {x y:List Nat}:∀ n∈mhSum x y,n<18446744073709551616:=fun n hn=>by
 obtain ⟨i,_,rfl⟩:=List.mem_map.1 hn
 exact usum_lt _ _
def ErrB (b:Bool) (v:Value):Prop:=(b=true∧v = .nilIface)∨(b=false∧∃ T y,v = .iface T y)
def hiIn:Hi→Hi→MhIn
 | ((_,(_,(k1,((_,_),(nc1,(nb1,_)))))),_),((_,(_,(k2,((_,_),(nc2,(nb2,_)))))),_)=>⟨k1,k2,nc1,nc2,nb1,nb2⟩
def hsOk (x y:Hi):Bool:=(hiIn x y).like&&!(hiIn x y).over
def hsSum:Hi→Hi→Hi
 | ((a1,(_,(k1,((ph1,pn1),(nc1,(_,(_,(_,(_,((mh1,mn1),(gh1,gn1))))))))))),_),((_,(t2,(k2,((ph2,pn2),(nc2,(nb2,(es2,(l2,(f2,((mh2,mn2),(gh2,gn2))))))))))),u2)=>((a1,(t2,(usum k1 k2,(bothO Fm.add (ph1,pn1) (ph2,pn2),(mhSum nc1 nc2,(nb2,(es2,(l2,(f2,(bothO minF (mh1,mn1) (mh2,mn2),bothO maxF (gh1,gn1) (gh2,gn2))))))))))),u2)
def hsZ:Hi:=((0,(0,(0,((false,0),([],([],([],([],(0,((false,0),(false,0))))))))))),[])
def hs (x y:Hi):Hi:=if hsOk x y=true then hsSum x y else hsZ
def HiB:Hi→Prop
 | ((_,(_,(k,((_,pn),(nc,(nb,(es,(l,(_,((_,mn),(_,gn))))))))))),_)=>(k<18446744073709551616∧pn<18446744073709551616∧mn<18446744073709551616∧gn<18446744073709551616)∧(∀ n∈nc,n<18446744073709551616)∧(nb.length≤1000000∧nc.length≤1000000∧es.length≤1000000∧ksw l≤1000000)∧∀ x∈es,ksw x.1.2.2≤1000000
theorem hiB_z:HiB hsZ:=⟨by decide,fun n hn=>(by cases hn),⟨by decide,by decide,by decide,(by rw[ksw];omega)⟩,fun x hx=>(by cases hx)⟩
theorem hiB_hs {x y:Hi} (hx:HiB x) (hy:HiB y):HiB (hs x y):=by
 obtain ⟨⟨a1,⟨t1,⟨k1,⟨⟨ph1,pn1⟩,⟨nc1,⟨nb1,⟨es1,⟨l1,⟨f1,⟨⟨mh1,mn1⟩,⟨gh1,gn1⟩⟩⟩⟩⟩⟩⟩⟩⟩⟩⟩,u1⟩:=x
 obtain ⟨⟨a2,⟨t2,⟨k2,⟨⟨ph2,pn2⟩,⟨nc2,⟨nb2,⟨es2,⟨l2,⟨f2,⟨⟨mh2,mn2⟩,⟨gh2,gn2⟩⟩⟩⟩⟩⟩⟩⟩⟩⟩⟩,u2⟩:=y
 unfold hs
 split
 ·obtain ⟨⟨x1,x2,x3,x4⟩,x5,⟨x6,x7,x8,x9⟩,x10⟩:=hx
  obtain ⟨⟨y1,y2,y3,y4⟩,y5,⟨y6,y7,y8,y9⟩,y10⟩:=hy
  refine ⟨⟨usum_lt _ _,both_lt (Fm.add_lt x2 y2),both_lt (min_lt x3 y3),both_lt (max_lt x4 y4)⟩,mhsum_each,⟨y6,?_,y8,y9⟩,y10⟩
  show (mhSum nc1 nc2).length≤_
  rw[mhsum_len];exact x7
 ·exact hiB_z
def HsP (x y:Hi) (w:World) (E:Ending) (w':World):Prop:=Below w.heap.size w w'∧∃ cs v,E = .returned (.tuple #[.agg cs.toArray,v])∧hiCel.R w' (fun _=>True) (hs x y) cs∧ErrB (hsOk x y) v
theorem mh_u (x y:Hi) (cx cy:List Value) (P:Nat→Prop) (w:World) (hx:HiB x) (hy:HiB y) (hRx:hiCel.R w P x cx) (hRy:hiCel.R w P y cy) :
  Calls Tryd.prog 13 #[.agg cx.toArray,.agg cy.toArray] w (HsP x y w):=by
 obtain ⟨⟨a1,⟨t1,⟨k1,⟨⟨ph1,pn1⟩,⟨nc1,⟨nb1,⟨es1,⟨l1,⟨f1,⟨⟨mh1,mn1⟩,⟨gh1,gn1⟩⟩⟩⟩⟩⟩⟩⟩⟩⟩⟩,u1⟩:=x
 obtain ⟨⟨a2,⟨t2,⟨k2,⟨⟨ph2,pn2⟩,⟨nc2,⟨nb2,⟨es2,⟨l2,⟨f2,⟨⟨mh2,mn2⟩,⟨gh2,gn2⟩⟩⟩⟩⟩⟩⟩⟩⟩⟩⟩,u2⟩:=y
 obtain ⟨lo1,lc1,nco1,ncc1,nbo1,nbc1,eo1,ec1,rfl,hk1,hc1,hb1,he1⟩:=hRx
 obtain ⟨lo2,lc2,nco2,ncc2,nbo2,nbc2,eo2,ec2,rfl,hk2,hc2,hb2,he2⟩:=hRy
 obtain ⟨⟨x1,x2,x3,x4⟩,x5,⟨x6,x7,x8,x9⟩,x10⟩:=hx
 obtain ⟨⟨y1,y2,y3,y4⟩,y5,⟨y6,y7,y8,y9⟩,y10⟩:=hy
 refine (mhist_any a1 t1 k1 ph1 pn1 nc1 nb1 es1 l1 f1 mh1 mn1 gh1 gn1 u1 lo1 lc1 nco1 ncc1 nbo1 nbc1 eo1 ec1 a2 t2 k2 ph2 pn2 nc2 nb2 es2 l2 f2 mh2 mn2 gh2 gn2 u2 lo2 lc2 nco2 ncc2 nbo2 nbc2 eo2 ec2 P w (Lib.hid (nats_of_rels hb1)) (Lib.hid (nats_of_rels hc1)) (Lib.hid (nats_of_rels hb2)) (Lib.hid (nats_of_rels hc2)) (Lib.hid hk2) (Lib.hid he2) x6 x7 y6 y7 y8 y9 (Lib.hid y10) (Lib.hid ⟨x1,y1,x2,y2,x3,y3,x4,y4⟩) (Lib.hid ⟨x5,y5⟩)).mono ?_
 rintro E w' ⟨hb,m1,m2,m3⟩
 refine ⟨hb,?_⟩
 have hin:hiIn ((a1,(t1,(k1,((ph1,pn1),(nc1,(nb1,(es1,(l1,(f1,((mh1,mn1),(gh1,gn1))))))))))),u1) ((a2,(t2,(k2,((ph2,pn2),(nc2,(nb2,(es2,(l2,(f2,((mh2,mn2),(gh2,gn2))))))))))),u2)=⟨k1,k2,nc1,nc2,nb1,nb2⟩:=rfl
 cases hlk:MhIn.like ⟨k1,k2,nc1,nc2,nb1,nb2⟩ with
 | false =>
  obtain ⟨T,v,rfl,hv⟩:=m1 hlk
  have ho:hsOk ((a1,(t1,(k1,((ph1,pn1),(nc1,(nb1,(es1,(l1,(f1,((mh1,mn1),(gh1,gn1))))))))))),u1) ((a2,(t2,(k2,((ph2,pn2),(nc2,(nb2,(es2,(l2,(f2,((mh2,mn2),(gh2,gn2))))))))))),u2)=false:=by unfold hsOk;rw[hin,hlk];rfl
  refine ⟨_,_,rfl,?_,.inr ⟨ho,T,v,rfl⟩⟩
  unfold hs;rw[if_neg (by rw[ho];decide)]
  exact hi_zrel _ _
 | true =>
  cases hov:MhIn.over ⟨k1,k2,nc1,nc2,nb1,nb2⟩ with
  | true =>
   obtain ⟨T,v,rfl,hv⟩:=m2 hlk hov
   have ho:hsOk ((a1,(t1,(k1,((ph1,pn1),(nc1,(nb1,(es1,(l1,(f1,((mh1,mn1),(gh1,gn1))))))))))),u1) ((a2,(t2,(k2,((ph2,pn2),(nc2,(nb2,(es2,(l2,(f2,((mh2,mn2),(gh2,gn2))))))))))),u2)=false:=by unfold hsOk;rw[hin,hlk,hov];rfl
   refine ⟨_,_,rfl,?_,.inr ⟨ho,T,v,rfl⟩⟩
   unfold hs;rw[if_neg (by rw[ho];decide)]
   exact hi_zrel _ _
  | false =>
   obtain ⟨lo,lc,nco,ncc,nbo,nbc,eo,ec,rfl,r1,r2,r3,r4⟩:=m3 hlk hov
   have ho:hsOk ((a1,(t1,(k1,((ph1,pn1),(nc1,(nb1,(es1,(l1,(f1,((mh1,mn1),(gh1,gn1))))))))))),u1) ((a2,(t2,(k2,((ph2,pn2),(nc2,(nb2,(es2,(l2,(f2,((mh2,mn2),(gh2,gn2))))))))))),u2)=true:=by unfold hsOk;rw[hin,hlk,hov];rfl
   have hl:nc2.length=(mhSum nc1 nc2).length:=by
    have h:=of_decide_eq_true hlk
    rw[mhsum_len];exact h.2.symm
   refine ⟨_,_,rfl,?_,.inl ⟨ho,rfl⟩⟩
   unfold hs;rw[if_pos ho]
   refine ⟨lo,lc,nco,ncc,nbo,nbc,eo,ec,?_,KRels.upd (Upd.refl (fun _=>False) w') (fun _ _ h=>h) (fun _ _=>trivial) _ _ _ r1,rels_of_nats r2 (fun _ _ _ _=>trivial),CRels.upd (Upd.refl (fun _=>False) w') (fun _ _ h=>h) (fun _ _=>trivial) r3,CRels.upd (Upd.refl (fun _=>False) w') (fun _ _ h=>h) (fun _ _=>trivial) r4⟩
   rw[←hl]
   rfl
open Go.RowKit
theorem ft_uniq {x y:Sd} {most:Int} {j k:Nat} (h:FtAt x y most j) (h':FtAt x y most k):j=k:=by
 obtain ⟨_,b1,w1,p1⟩:=h
 obtain ⟨_,b2,w2,p2⟩:=h'
 rcases Nat.lt_trichotomy j k with h|h|h
 ·have:=(p2 j h).2;rw[w1] at this;cases this
 ·exact h
 ·have:=(p1 k h).2;rw[w2] at this;cases this
theorem ft_no {x y:Sd} {most:Int} {j:Nat} (h:FtAt x y most j) (h':FtNo x y most):False:=by
 obtain ⟨hm,b1,w1,p1⟩:=h
 rcases h' with h'|h'|⟨k,b2,p2⟩
 ·omega
 ·omega
 ·rcases Nat.lt_trichotomy j k with h|h|h
  ·have:=(p2 j h).2;rw[w1] at this;cases this
  ·subst h;rw[b1] at b2;cases b2
  ·have:=(p1 k h).1;rw[b2] at this;cases this
open Go.RowKit
def xSd:Xp→Sd
 | ((_,(_,(_,(_,((_,_),(sc,(_,((gp,pb,_),((gn,nb,_),_))))))))),_)=>⟨sc,gp,pb.off,pb.cs,gn,nb.off,nb.cs⟩
def xK:Xp→Nat
 | ((_,(_,(_,(k,_)))),_)=>k
def xZ:Xp→Nat
 | ((_,(_,(_,(_,((_,_),(_,(zc,_))))))),_)=>zc
def xTh:Xp→Nat
 | ((_,(_,(_,(_,((_,_),(_,(_,((_,_,_),((_,_,_),(_,(_,((_,_),((_,_),th))))))))))))),_)=>th
def xZero:Xp:=(([],0,0,0,(false,0),0,0,(false,⟨0,[]⟩,[]),(false,⟨0,[]⟩,[]),0,[],(false,0),(false,0),0),[])
def XpB:Xp→Prop
 | ((l,(_,(_,(k,((_,vp),(sc,(zc,((_,pb,_),((_,nb,_),(_,(es,((_,vm),((_,vg),_))))))))))))),_)=>(ksw l≤1000000∧es.length≤1000000∧∀ x∈es,ksw x.1.2.2≤1000000)∧(-2147483648≤sc∧sc≤2147483647)∧(k<18446744073709551616∧vp<18446744073709551616∧vm<18446744073709551616∧vg<18446744073709551616∧zc<18446744073709551616)∧(BkOk pb∧pb.cs.length≤1000000)∧(BkOk nb∧nb.cs.length≤1000000)
def XeRel (x y:Xp) (most:Int) (ok:Bool) (z:Xp):Prop :=
 (ok=true∧xTh x=xTh y∧∃ (j:Nat) (o1:Int) (C1:List Nat) (o2:Int) (C2:List Nat),FtAt (xSd x) (xSd y) most j∧aans (pAt (xSd x) (xSd y) j)=some (o1,C1)∧aans (nAt (xSd x) (xSd y) j)=some (o2,C2)∧xK x+xK y<18446744073709551616∧xZ x+xZ y<18446744073709551616∧z=XeSum x y j o1 C1 o2 C2) ∨
 (ok=false∧(xTh x≠xTh y∨XeNo (xSd x) (xSd y) (xK x) (xK y) (xZ x) (xZ y) most))
def XsP (x y:Xp) (most:Int) (w:World) (E:Ending) (w':World):Prop:=Below w.heap.size w w'∧∃ cs v z ok,E = .returned (.tuple #[.agg cs.toArray,v])∧xpCel.R w' (fun _=>True) z cs∧ErrB ok v∧XeRel x y most ok z
theorem xsd_ok {x:Xp} (h:XpB x) {s:Nat} (hs:s≤31):(∀ p∈(xSd x).pos s,p.Ok)∧∀ p∈(xSd x).neg s,p.Ok:=by
 obtain ⟨⟨l1,⟨a1,⟨t1,⟨k1,⟨⟨bp1,vp1⟩,⟨sc1,⟨zc1,⟨⟨gp1,⟨po1,pc1⟩,pu1⟩,⟨⟨gn1,⟨no1,nc1⟩,nu1⟩,⟨f1,⟨es1,⟨⟨bm1,vm1⟩,⟨⟨bg1,vg1⟩,th1⟩⟩⟩⟩⟩⟩⟩⟩⟩⟩⟩⟩⟩,u1⟩:=x
 obtain ⟨_,_,_,⟨h1,h2⟩,h3,h4⟩:=h
 refine ⟨fun p hp=>?_,fun p hp=>?_⟩
 ·have hp:p∈(if gp1=true then [(⟨po1,pc1,s⟩:Pt)] else []):=hp
  split at hp
  ·obtain rfl:=List.mem_singleton.1 hp
   exact ⟨h1.lo,h1.hi,h2,hs,h1.each⟩
  ·cases hp
 ·have hp:p∈(if gn1=true then [(⟨no1,nc1,s⟩:Pt)] else []):=hp
  split at hp
  ·obtain rfl:=List.mem_singleton.1 hp
   exact ⟨h3.lo,h3.hi,h4,hs,h3.each⟩
  ·cases hp
theorem mx_u (x y:Xp) (cx cy:List Value) (most:Int) (ew:Addr) (P:Nat→Prop) (w:World) (hx:XpB x) (hy:XpB y) (hRx:xpCel.R w P x cx) (hRy:xpCel.R w P y cy) (HEW:Hid (WideAt ew w)) :
  Calls Tryd.prog 11 #[.agg cx.toArray,.agg cy.toArray,.int .i64 most] w (XsP x y most w):=by
 have hok:Hid (∀ sa sb,sa≤31→sb≤31→(∀ p∈Sd.pos (xSd x) sa++Sd.pos (xSd y) sb,p.Ok)∧(∀ p∈Sd.neg (xSd x) sa++Sd.neg (xSd y) sb,p.Ok)):=Lib.hid (fun sa sb ha hb=>⟨fun p hp=>by
   rcases List.mem_append.1 hp with h|h
   ·exact (xsd_ok hx ha).1 p h
   ·exact (xsd_ok hy hb).1 p h,fun p hp=>by
   rcases List.mem_append.1 hp with h|h
   ·exact (xsd_ok hx ha).2 p h
   ·exact (xsd_ok hy hb).2 p h⟩)
 obtain ⟨⟨l1,⟨a1,⟨t1,⟨k1,⟨⟨bp1,vp1⟩,⟨sc1,⟨zc1,⟨⟨gp1,⟨po1,pc1⟩,pu1⟩,⟨⟨gn1,⟨no1,nc1⟩,nu1⟩,⟨f1,⟨es1,⟨⟨bm1,vm1⟩,⟨⟨bg1,vg1⟩,th1⟩⟩⟩⟩⟩⟩⟩⟩⟩⟩⟩⟩⟩,u1⟩:=x
 obtain ⟨⟨l2,⟨a2,⟨t2,⟨k2,⟨⟨bp2,vp2⟩,⟨sc2,⟨zc2,⟨⟨gp2,⟨po2,pc2⟩,pu2⟩,⟨⟨gn2,⟨no2,nc2⟩,nu2⟩,⟨f2,⟨es2,⟨⟨bm2,vm2⟩,⟨⟨bg2,vg2⟩,th2⟩⟩⟩⟩⟩⟩⟩⟩⟩⟩⟩⟩⟩,u2⟩:=y
 obtain ⟨lo1,lc1,pco1,pcc1,nco1,ncc1,eo1,ec1,rfl,hk1,hp1,hn1,he1⟩:=hRx
 obtain ⟨lo2,lc2,pco2,pcc2,nco2,ncc2,eo2,ec2,rfl,hk2,hp2,hn2,he2⟩:=hRy
 obtain ⟨_,x1,⟨x2,x3,x4,x5,x6⟩,_,_⟩:=hx
 obtain ⟨⟨y7,y8,y9⟩,y1,⟨y2,y3,y4,y5,y6⟩,_,_⟩:=hy
 refine (mexp_any l1 a1 t1 k1 bp1 vp1 bm1 vm1 bg1 vg1 sc1 zc1 gp1 po1 pc1 ⟨pu1.toArray⟩ gn1 no1 nc1 ⟨nu1.toArray⟩ es1 f1 th1 u1 lo1 lc1 pco1 pcc1 nco1 ncc1 eo1 ec1 l2 a2 t2 k2 bp2 vp2 bm2 vm2 bg2 vg2 sc2 zc2 gp2 po2 pc2 ⟨pu2.toArray⟩ gn2 no2 nc2 ⟨nu2.toArray⟩ es2 f2 th2 u2 lo2 lc2 pco2 pcc2 nco2 ncc2 eo2 ec2 most ew P w y7 y8 (Lib.hid y9) (Lib.hid hk2) (Lib.hid hp1) (Lib.hid hn1) (Lib.hid hp2) (Lib.hid hn2) (Lib.hid he2) HEW x1 y1 (Lib.hid ⟨x2,y2,x3,y3,x4,y4,x5,y5,x6,y6⟩) hok).mono ?_
 rintro E w' ⟨hb,cs,v,rfl,hcase⟩
 refine ⟨hb,?_⟩
 rcases hcase with ⟨hth,-,⟨T,v,rfl⟩,rfl⟩|⟨hth,hno,-,⟨T,v,rfl⟩,rfl⟩|⟨hth,rfl,j,o1,C1,o2,C2,hat,ha1,ha2,hkk,hzz,hxr⟩
 ·exact ⟨_,_,xZero,false,rfl,xp_zrel _ _,.inr ⟨rfl,T,v,rfl⟩,.inr ⟨rfl,.inl (of_decide_eq_true hth)⟩⟩
 ·exact ⟨_,_,xZero,false,rfl,xp_zrel _ _,.inr ⟨rfl,T,v,rfl⟩,.inr ⟨rfl,.inr hno⟩⟩
 ·exact ⟨_,_,_,true,rfl,xpCel.upd (Upd.refl (fun _=>False) w') (fun _ _ h=>h) (fun _ _=>trivial) hxr,.inl ⟨rfl,rfl⟩,.inl ⟨rfl,Classical.byContradiction fun h=>(of_decide_eq_false hth) h,j,o1,C1,o2,C2,hat,ha1,ha2,hkk,hzz,rfl⟩⟩
theorem allP_swap (a b:List Pt) (q:Int × Nat):q∈allP (a++b)↔q∈allP (b++a):=by
 unfold allP
 rw[List.flatMap_append,List.flatMap_append,List.mem_append,List.mem_append]
 exact Or.comm
theorem width_swap (a b:List Pt):width (a++b)=width (b++a):=by
 have hm:=allP_swap a b
 unfold width
 by_cases h1:allP (a++b)=[]
 ·have h2:allP (b++a)=[]:=by
   refine List.eq_nil_iff_forall_not_mem.2 fun q hq=>?_
   have:=(hm q).2 hq
   rw[h1] at this;cases this
  rw[h1,h2]
 ·have h2:allP (b++a)≠[]:=fun h=>h1 (List.eq_nil_iff_forall_not_mem.2 fun q hq=>by
   have:=(hm q).1 hq
   rw[h] at this;cases this)
  obtain ⟨-,⟨p1,m1,e1⟩,q1,n1,g1⟩:=efold_some h1
  obtain ⟨-,⟨p2,m2,e2⟩,q2,n2,g2⟩:=efold_some h2
  have i1:=(efold_in (allP (a++b)) (0,0) (Int.le_refl _)).2.2
  have i2:=(efold_in (allP (b++a)) (0,0) (Int.le_refl _)).2.2
  have c1:=i2 p1 ((hm _).1 m1)
  have c2:=i2 q1 ((hm _).1 n1)
  have c3:=i1 p2 ((hm _).2 m2)
  have c4:=i1 q2 ((hm _).2 n2)
  omega
theorem aans_swap (a b:List Pt):aans (a++b)=aans (b++a):=aans_same fun p=>by
 unfold allP
 rw[List.flatMap_append,List.flatMap_append,sat_app,sat_app,Nat.add_comm]
theorem dA_swap (x y:Sd):dA y x=dB x y:=by unfold dA dB;rw[Int.min_comm]
theorem dB_swap (x y:Sd):dB y x=dA x y:=by unfold dA dB;rw[Int.min_comm]
theorem bAt_swap (x y:Sd) (j:Nat):bAt y x j=bAt x y j:=by
 unfold bAt fBad
 rw[dA_swap x y,dB_swap x y,Int.min_comm y.sc,Nat.max_comm (dB x y+j),Nat.min_comm (dB x y+j)]
theorem pAt_swap (x y:Sd) (j:Nat):pAt y x j=y.pos (dB x y+j)++x.pos (dA x y+j):=by unfold pAt;rw[dA_swap x y,dB_swap x y]
theorem nAt_swap (x y:Sd) (j:Nat):nAt y x j=y.neg (dB x y+j)++x.neg (dA x y+j):=by unfold nAt;rw[dA_swap x y,dB_swap x y]
theorem wAt_swap (x y:Sd) (most:Int) (j:Nat):wAt y x most j=wAt x y most j:=by
 unfold wAt wide
 rw[pAt_swap,nAt_swap,width_swap,width_swap (y.neg _)]
 rfl
theorem FtAt.swap {x y:Sd} {most:Int} {j:Nat} (h:FtAt x y most j):FtAt y x most j:=by
 obtain ⟨h1,h2,h3,h4⟩:=h
 refine ⟨h1,?_,?_,fun i hi=>?_⟩
 ·rw[bAt_swap];exact h2
 ·rw[wAt_swap];exact h3
 ·rw[bAt_swap,wAt_swap];exact h4 i hi
theorem FtNo.swap {x y:Sd} {most:Int} (h:FtNo x y most):FtNo y x most:=by
 rcases h with h|h|⟨j,h1,h2⟩
 ·exact .inl h
 ·exact .inr (.inl h)
 ·refine .inr (.inr ⟨j,?_,fun i hi=>?_⟩)
  ·rw[bAt_swap];exact h1
  ·rw[bAt_swap,wAt_swap];exact h2 i hi
theorem pans_swap (x y:Sd) (j:Nat):aans (pAt y x j)=aans (pAt x y j):=by rw[pAt_swap];exact aans_swap _ _
theorem nans_swap (x y:Sd) (j:Nat):aans (nAt y x j)=aans (nAt x y j):=by rw[nAt_swap];exact aans_swap _ _
theorem XeNo.swap {x y:Sd} {k1 k2 z1 z2:Nat} {most:Int} (h:XeNo x y k1 k2 z1 z2 most):XeNo y x k2 k1 z2 z1 most:=by
 rcases h with h|⟨j,h1,h2⟩
 ·exact .inl h.swap
 ·refine .inr ⟨j,h1.swap,?_⟩
  rw[pans_swap,nans_swap]
  rcases h2 with h|h|h|h
  ·exact .inl (by omega)
  ·exact .inr (.inl (by omega))
  ·exact .inr (.inr (.inl h))
  ·exact .inr (.inr (.inr h))
theorem xe_no {x y z:Xp} {most:Int} (h:XeRel x y most true z) (h2:xTh x≠xTh y∨XeNo (xSd x) (xSd y) (xK x) (xK y) (xZ x) (xZ y) most):False:=by
 rcases h with ⟨-,hth,j,o1,C1,o2,C2,hat,ha1,ha2,hk,hz,-⟩|⟨h,-⟩
 ·rcases h2 with h2|h2|⟨i,h2,h3⟩
  ·exact h2 hth
  ·exact ft_no hat h2
  ·obtain rfl:=ft_uniq hat h2
   rw[ha1,ha2] at h3
   simp only[reduceCtorEq,or_false] at h3
   omega
 ·cases h
theorem ftx_len {x y:Sd} {most:Int} {j:Nat} {o1 o2:Int} {C1 C2:List Nat} (h:FtAt x y most j) (h1:aans (pAt x y j)=some (o1,C1)) (h2:aans (nAt x y j)=some (o2,C2)):(C1.length:Int)≤most∧(C2.length:Int)≤most:=by
 obtain ⟨hm,hb,hw,_⟩:=h
 unfold wAt wide at hw
 simp only[Bool.or_eq_false_iff,decide_eq_false_iff_not] at hw
 have l1:=aans_len h1
 have l2:=aans_len h2
 omega
theorem xe_len {x y z:Xp} {most:Int} (h:XeRel x y most true z):(xSd z).pc.length≤320∧(xSd z).nc.length≤320:=by
 rcases h with ⟨-,-,j,o1,C1,o2,C2,hat,ha1,ha2,-,-,rfl⟩|⟨h,-⟩
 ·have hl:=ftx_len hat ha1 ha2
  have hm:=hat.1
  obtain ⟨⟨l1,⟨a1,⟨t1,⟨k1,⟨⟨bp1,vp1⟩,⟨sc1,⟨zc1,⟨⟨gp1,⟨po1,pc1⟩,pu1⟩,⟨⟨gn1,⟨no1,nc1⟩,nu1⟩,⟨f1,⟨es1,⟨⟨bm1,vm1⟩,⟨⟨bg1,vg1⟩,th1⟩⟩⟩⟩⟩⟩⟩⟩⟩⟩⟩⟩⟩,u1⟩:=x
  obtain ⟨⟨l2,⟨a2,⟨t2,⟨k2,⟨⟨bp2,vp2⟩,⟨sc2,⟨zc2,⟨⟨gp2,⟨po2,pc2⟩,pu2⟩,⟨⟨gn2,⟨no2,nc2⟩,nu2⟩,⟨f2,⟨es2,⟨⟨bm2,vm2⟩,⟨⟨bg2,vg2⟩,th2⟩⟩⟩⟩⟩⟩⟩⟩⟩⟩⟩⟩⟩,u2⟩:=y
  show C1.length≤320∧C2.length≤320
  omega
 ·cases h
structure XeLike (u v:Xp):Prop where
 sc:(xSd u).sc=(xSd v).sc
 k:xK u=xK v
 z:xZ u=xZ v
 po:(xSd u).po=(xSd v).po
 pc:(xSd u).pc=(xSd v).pc
 nc:(xSd u).nc=(xSd v).nc
theorem xe_swap {x y u v:Xp} {most:Int} {i j:Bool} (hu:XeRel x y most i u) (hv:XeRel y x most j v):i=j∧(i=true→XeLike u v):=by
 cases i with
 | true =>
  cases j with
  | true =>
   refine ⟨rfl,fun _=>?_⟩
   rcases hu with ⟨-,-,j,o1,C1,o2,C2,hat,ha1,ha2,-,-,rfl⟩|⟨h,-⟩
   ·rcases hv with ⟨-,-,j',o1',C1',o2',C2',hat',ha1',ha2',-,-,rfl⟩|⟨h,-⟩
    ·obtain rfl:=ft_uniq hat hat'.swap
     rw[pans_swap,ha1] at ha1'
     rw[nans_swap,ha2] at ha2'
     simp only[Option.some.injEq,Prod.mk.injEq] at ha1' ha2'
     obtain ⟨rfl,rfl⟩:=ha1'
     obtain ⟨rfl,rfl⟩:=ha2'
     obtain ⟨⟨l1,⟨a1,⟨t1,⟨k1,⟨⟨bp1,vp1⟩,⟨sc1,⟨zc1,⟨⟨gp1,⟨po1,pc1⟩,pu1⟩,⟨⟨gn1,⟨no1,nc1⟩,nu1⟩,⟨f1,⟨es1,⟨⟨bm1,vm1⟩,⟨⟨bg1,vg1⟩,th1⟩⟩⟩⟩⟩⟩⟩⟩⟩⟩⟩⟩⟩,u1⟩:=x
     obtain ⟨⟨l2,⟨a2,⟨t2,⟨k2,⟨⟨bp2,vp2⟩,⟨sc2,⟨zc2,⟨⟨gp2,⟨po2,pc2⟩,pu2⟩,⟨⟨gn2,⟨no2,nc2⟩,nu2⟩,⟨f2,⟨es2,⟨⟨bm2,vm2⟩,⟨⟨bg2,vg2⟩,th2⟩⟩⟩⟩⟩⟩⟩⟩⟩⟩⟩⟩⟩,u2⟩:=y
     refine ⟨?_,?_,?_,rfl,rfl,rfl⟩
     ·show min sc1 sc2 - (j:Int)=min sc2 sc1 - (j:Int)
      rw[Int.min_comm]
     ·show k1+k2=k2+k1
      omega
     ·show zc1+zc2=zc2+zc1
      omega
    ·cases h
   ·cases h
  | false =>
   exfalso
   rcases hv with ⟨h,-⟩|⟨-,h⟩
   ·cases h
   ·refine xe_no hu ?_
    rcases h with h|h
    ·exact .inl fun e=>h e.symm
    ·exact .inr h.swap
 | false =>
  cases j with
  | true =>
   exfalso
   rcases hu with ⟨h,-⟩|⟨-,h⟩
   ·cases h
   ·refine xe_no hv ?_
    rcases h with h|h
    ·exact .inl fun e=>h e.symm
    ·exact .inr h.swap
  | false=>exact ⟨rfl,fun h=>by cases h⟩
theorem hs_order {x y c:Hi} (hx:HiB x) (hy:HiB y) (hc:HiB c) (h1:hsOk x y=true) (h2:hsOk y c=true):hsOk (hs x y) c=hsOk x (hs y c)∧(hsOk (hs x y) c=true→(hs (hs x y) c).1.2.2.2.2.1=(hs x (hs y c)).1.2.2.2.2.1∧(hs (hs x y) c).1.2.2.1=(hs x (hs y c)).1.2.2.1∧(hs (hs x y) c).1.1=(hs x (hs y c)).1.1∧(hs (hs x y) c).1.2.1=(hs x (hs y c)).1.2.1):=by
 have e1:hs x y=hsSum x y:=by unfold hs;rw[if_pos h1]
 have e2:hs y c=hsSum y c:=by unfold hs;rw[if_pos h2]
 rw[e1,e2]
 obtain ⟨⟨a1,⟨t1,⟨k1,⟨⟨ph1,pn1⟩,⟨nc1,⟨nb1,⟨es1,⟨l1,⟨f1,⟨⟨mh1,mn1⟩,⟨gh1,gn1⟩⟩⟩⟩⟩⟩⟩⟩⟩⟩⟩,u1⟩:=x
 obtain ⟨⟨a2,⟨t2,⟨k2,⟨⟨ph2,pn2⟩,⟨nc2,⟨nb2,⟨es2,⟨l2,⟨f2,⟨⟨mh2,mn2⟩,⟨gh2,gn2⟩⟩⟩⟩⟩⟩⟩⟩⟩⟩⟩,u2⟩:=y
 obtain ⟨⟨a3,⟨t3,⟨k3,⟨⟨ph3,pn3⟩,⟨nc3,⟨nb3,⟨es3,⟨l3,⟨f3,⟨⟨mh3,mn3⟩,⟨gh3,gn3⟩⟩⟩⟩⟩⟩⟩⟩⟩⟩⟩,u3⟩:=c
 unfold hsOk at h1 h2
 rw[Bool.and_eq_true,Bool.not_eq_true'] at h1 h2
 obtain ⟨q1,v1⟩:=h1
 obtain ⟨q2,v2⟩:=h2
 have q1:nb1=nb2∧nc1.length=nc2.length:=of_decide_eq_true q1
 have q2:nb2=nb3∧nc2.length=nc3.length:=of_decide_eq_true q2
 have v1:(decide (18446744073709551616≤k1+k2)||mhOv nc1 nc2 nc1.length)=false:=v1
 have v2:(decide (18446744073709551616≤k2+k3)||mhOv nc2 nc3 nc2.length)=false:=v2
 rw[Bool.or_eq_false_iff,decide_eq_false_iff_not] at v1 v2
 have w1:usum k1 k2=k1+k2:=usum_no (by omega)
 have w2:usum k2 k3=k2+k3:=usum_no (by omega)
 have g1:∀ i,i<nc1.length→(mhSum nc1 nc2).getD i 0=nc1.getD i 0+nc2.getD i 0:=fun i hi=>by
  rw[mhsum_getD _ _ hi,usum_no (mhOv_no v1.2 hi)]
 have g2:∀ i,i<nc1.length→(mhSum nc2 nc3).getD i 0=nc2.getD i 0+nc3.getD i 0:=fun i hi=>by
  rw[mhsum_getD _ _ (by omega),usum_no (mhOv_no v2.2 (by omega))]
 have hl:(mhSum nc1 nc2).length=nc1.length:=mhsum_len _ _
 have hl2:(mhSum nc2 nc3).length=nc2.length:=mhsum_len _ _
 have hov:mhOv (mhSum nc1 nc2) nc3 (mhSum nc1 nc2).length=mhOv nc1 (mhSum nc2 nc3) nc1.length:=by
  rw[hl]
  unfold mhOv
  rw[Bool.eq_iff_iff,List.any_eq_true,List.any_eq_true]
  constructor
  ·rintro ⟨i,hi,h⟩
   have hi':=List.mem_range.1 hi
   refine ⟨i,hi,?_⟩
   rw[decide_eq_true_eq] at h ⊢
   rw[g1 i hi'] at h
   rw[g2 i hi']
   omega
  ·rintro ⟨i,hi,h⟩
   have hi':=List.mem_range.1 hi
   refine ⟨i,hi,?_⟩
   rw[decide_eq_true_eq] at h ⊢
   rw[g2 i hi'] at h
   rw[g1 i hi']
   omega
 have hlike:MhIn.like ⟨usum k1 k2,k3,mhSum nc1 nc2,nc3,nb2,nb3⟩=true:=decide_eq_true ⟨q2.1,by show (mhSum nc1 nc2).length=nc3.length;omega⟩
 have hlike2:MhIn.like ⟨k1,usum k2 k3,nc1,mhSum nc2 nc3,nb1,nb3⟩=true:=decide_eq_true ⟨q1.1.trans q2.1,by show nc1.length=(mhSum nc2 nc3).length;omega⟩
 have hover:MhIn.over ⟨usum k1 k2,k3,mhSum nc1 nc2,nc3,nb2,nb3⟩=MhIn.over ⟨k1,usum k2 k3,nc1,mhSum nc2 nc3,nb1,nb3⟩:=by
  show (decide (18446744073709551616≤usum k1 k2+k3)||mhOv (mhSum nc1 nc2) nc3 (mhSum nc1 nc2).length)=(decide (18446744073709551616≤k1+usum k2 k3)||mhOv nc1 (mhSum nc2 nc3) nc1.length)
  rw[hov,w1,w2,Nat.add_assoc]
 have o1:hsOk (hsSum ((a1,(t1,(k1,((ph1,pn1),(nc1,(nb1,(es1,(l1,(f1,((mh1,mn1),(gh1,gn1))))))))))),u1) ((a2,(t2,(k2,((ph2,pn2),(nc2,(nb2,(es2,(l2,(f2,((mh2,mn2),(gh2,gn2))))))))))),u2)) ((a3,(t3,(k3,((ph3,pn3),(nc3,(nb3,(es3,(l3,(f3,((mh3,mn3),(gh3,gn3))))))))))),u3)=!(MhIn.over ⟨k1,usum k2 k3,nc1,mhSum nc2 nc3,nb1,nb3⟩):=by
  show (MhIn.like ⟨usum k1 k2,k3,mhSum nc1 nc2,nc3,nb2,nb3⟩&&!(MhIn.over ⟨usum k1 k2,k3,mhSum nc1 nc2,nc3,nb2,nb3⟩))=_
  rw[hlike,hover,Bool.true_and]
 have o2:hsOk ((a1,(t1,(k1,((ph1,pn1),(nc1,(nb1,(es1,(l1,(f1,((mh1,mn1),(gh1,gn1))))))))))),u1) (hsSum ((a2,(t2,(k2,((ph2,pn2),(nc2,(nb2,(es2,(l2,(f2,((mh2,mn2),(gh2,gn2))))))))))),u2) ((a3,(t3,(k3,((ph3,pn3),(nc3,(nb3,(es3,(l3,(f3,((mh3,mn3),(gh3,gn3))))))))))),u3))=!(MhIn.over ⟨k1,usum k2 k3,nc1,mhSum nc2 nc3,nb1,nb3⟩):=by
  show (MhIn.like ⟨k1,usum k2 k3,nc1,mhSum nc2 nc3,nb1,nb3⟩&&!(MhIn.over ⟨k1,usum k2 k3,nc1,mhSum nc2 nc3,nb1,nb3⟩))=_
  rw[hlike2,Bool.true_and]
 refine ⟨o1.trans o2.symm,fun ho=>?_⟩
 have ho2:=(o2.trans o1.symm).trans ho
 have hv:=o2.symm.trans ho2
 rw[Bool.not_eq_true'] at hv
 have hv:(decide (18446744073709551616≤k1+usum k2 k3)||mhOv nc1 (mhSum nc2 nc3) nc1.length)=false:=hv
 rw[Bool.or_eq_false_iff,decide_eq_false_iff_not] at hv
 have s1:hs (hsSum ((a1,(t1,(k1,((ph1,pn1),(nc1,(nb1,(es1,(l1,(f1,((mh1,mn1),(gh1,gn1))))))))))),u1) ((a2,(t2,(k2,((ph2,pn2),(nc2,(nb2,(es2,(l2,(f2,((mh2,mn2),(gh2,gn2))))))))))),u2)) ((a3,(t3,(k3,((ph3,pn3),(nc3,(nb3,(es3,(l3,(f3,((mh3,mn3),(gh3,gn3))))))))))),u3)=hsSum (hsSum ((a1,(t1,(k1,((ph1,pn1),(nc1,(nb1,(es1,(l1,(f1,((mh1,mn1),(gh1,gn1))))))))))),u1) ((a2,(t2,(k2,((ph2,pn2),(nc2,(nb2,(es2,(l2,(f2,((mh2,mn2),(gh2,gn2))))))))))),u2)) ((a3,(t3,(k3,((ph3,pn3),(nc3,(nb3,(es3,(l3,(f3,((mh3,mn3),(gh3,gn3))))))))))),u3):=by unfold hs;rw[if_pos ho]
 have s2:hs ((a1,(t1,(k1,((ph1,pn1),(nc1,(nb1,(es1,(l1,(f1,((mh1,mn1),(gh1,gn1))))))))))),u1) (hsSum ((a2,(t2,(k2,((ph2,pn2),(nc2,(nb2,(es2,(l2,(f2,((mh2,mn2),(gh2,gn2))))))))))),u2) ((a3,(t3,(k3,((ph3,pn3),(nc3,(nb3,(es3,(l3,(f3,((mh3,mn3),(gh3,gn3))))))))))),u3))=hsSum ((a1,(t1,(k1,((ph1,pn1),(nc1,(nb1,(es1,(l1,(f1,((mh1,mn1),(gh1,gn1))))))))))),u1) (hsSum ((a2,(t2,(k2,((ph2,pn2),(nc2,(nb2,(es2,(l2,(f2,((mh2,mn2),(gh2,gn2))))))))))),u2) ((a3,(t3,(k3,((ph3,pn3),(nc3,(nb3,(es3,(l3,(f3,((mh3,mn3),(gh3,gn3))))))))))),u3)):=by unfold hs;rw[if_pos ho2]
 rw[s1,s2]
 refine ⟨?_,?_,rfl,rfl⟩
 ·show mhSum (mhSum nc1 nc2) nc3=mhSum nc1 (mhSum nc2 nc3)
  refine List.ext_getElem (by rw[mhsum_len,mhsum_len,mhsum_len]) fun i p q=>?_
  have hi:i<nc1.length:=by rw[mhsum_len,mhsum_len] at p;exact p
  have r1:=mhsum_getD (mhSum nc1 nc2) nc3 (i:=i) (by omega)
  have r2:=mhsum_getD nc1 (mhSum nc2 nc3) hi
  rw[g1 i hi] at r1
  rw[g2 i hi] at r2
  rw[List.getD_eq_getElem?_getD,List.getElem?_eq_getElem p,Option.getD_some] at r1
  rw[List.getD_eq_getElem?_getD,List.getElem?_eq_getElem q,Option.getD_some] at r2
  rw[r1,r2]
  unfold usum
  rw[Nat.add_assoc]
 ·show usum (usum k1 k2) k3=usum k1 (usum k2 k3)
  rw[w1,w2]
  unfold usum
  rw[Nat.add_assoc]
end Go.Proofs.YtoggpnfeioaidaaDoor
