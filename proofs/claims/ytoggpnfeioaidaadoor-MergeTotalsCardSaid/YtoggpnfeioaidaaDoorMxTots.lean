/-
  hyglaw25.MergeTotals.
-/
import Derived.Test.YtoggpnfeioaidaaDoorMxLawM
import Derived.Test.YtoggpnfeioaidaaDoorMxExp
import Derived.Test.YtoggpnfeioaidaaDoorFrV
import Derived.Test.YtoggpnfeioaidaaDoorMgFirst
import Derived.Test.YtoggpnfeioaidaaDoorXpBack
import Derived.Deep.DeepCutAuto
set_option maxRecDepth 1000000
set_option maxHeartbeats 16000000
namespace Go.Proofs.YtoggpnfeioaidaaDoor
open Go.RowKit
theorem crels_twox {α:Type} {C:Cel α} {w:World} {g:Nat} {T:TypeId} {fr:Nat × Nat} {x y:α} {cx cy:List Value} (hr:w.heap[g]? = some (.cells (cx++cy).toArray T fr)) (hx:C.R w (fun _=>True) x cx) (hy:C.R w (fun _=>True) y cy):CRels C w (fun _=>True) [x,y] (some ⟨g,0,none⟩):=fun j hj=>by
 have hc:∀ i (h:i<(cx++cy).length),w.cell? ⟨g,i,none⟩=some (cx++cy)[i]:=fun i h=>row_cell hr (j:=i) (by simp[List.getElem?_eq_getElem h])
 have hl:=C.len hx
 have hl2:=C.len hy
 match j,hj with
 | 0,_ =>
  refine ⟨g,0,cx,rfl,trivial,row_lt hr,fun i hi=>?_,hx⟩
  have:=hc i (by rw[List.length_append];omega)
  rw[show 0+C.size * 0+i=i by omega,this,List.getElem_append_left hi]
 | 1,_ =>
  refine ⟨g,0,cy,rfl,trivial,row_lt hr,fun i hi=>?_,hy⟩
  have:=hc (C.size+i) (by rw[List.length_append];omega)
  rw[show 0+C.size * 1+i=C.size+i by omega,this,List.getElem_append_right (by omega)]
  simp[hl]
theorem lwt_ksx:∀ (es:List Ex) (n:Nat),lwt exSb es≤n→∀ x∈es,ksw x.1.2.2≤n
 | [],_,_,x,h=>by cases h
 | y::es,n,h,x,hx=>by
  have hc:lwt exSb (y::es)=exSb.wt y+lwt exSb es:=by unfold lwt;rfl
  rw[hc] at h
  rcases List.mem_cons.1 hx with rfl|hx
  ·obtain ⟨⟨t,⟨⟨⟨k,m⟩,⟨a,b⟩⟩,l⟩⟩,u⟩:=x
   have h2:exSb.wt ((t,(((k,m),(a,b)),l)),u)=60+(a.length+b.length+ksw l+u.length):=rfl
   rw[h2] at h
   show ksw l≤n
   omega
  ·exact lwt_ksx es n (by omega) x hx
theorem aans_each {ps:List Pt} {o:Int} {C:List Nat} (h:aans ps=some (o,C)):∀ n∈C,n<18446744073709551616:=fun n hn=>by
 obtain ⟨hI,ho,hp⟩:=(aans_sum ps).1 o C h
 obtain ⟨i,hi,rfl⟩:=List.mem_iff_getElem.1 hn
 have hg:=hI.at' i hi
 rw[List.getD_eq_getElem?_getD,List.getElem?_eq_getElem hi] at hg
 simp at hg
 rw[hg]
 exact hp _
theorem ft_len {x y:Sd} {most:Int} {j:Nat} {o1 o2:Int} {C1 C2:List Nat} (h:FtAt x y most j) (h1:aans (pAt x y j)=some (o1,C1)) (h2:aans (nAt x y j)=some (o2,C2)):(C1.length:Int)≤most∧(C2.length:Int)≤most:=by
 obtain ⟨hm,hb,hw,_⟩:=h
 unfold wAt wide at hw
 simp only[Bool.or_eq_false_iff,decide_eq_false_iff_not] at hw
 have l1:=aans_len h1
 have l2:=aans_len h2
 omega
theorem ans1_fact {x:Pt} {o:Int} {C:List Nat} (h:ans1 x=(o,C,0)):aans [x]=some (o,C):=by
 unfold ans1 at h
 split at h
 ·simp at h
 ·rename_i o' C' he
  simp only[Prod.mk.injEq,and_true] at h
  obtain ⟨rfl,rfl⟩:=h
  exact he
theorem rdn_ok {o:Int} {cs:List Nat} {k:Int} {o':Int} {C:List Nat} (h:rdn o cs k=(o',C,0)):k.toNat≤31:=by
 unfold rdn at h
 split at h
 ·omega
 ·simp at h
theorem rdn_fact {o:Int} {cs:List Nat} {k:Int} {o':Int} {C:List Nat} (h:rdn o cs k=(o',C,0)):aans [⟨o,cs,k.toNat⟩]=some (o',C):=by
 unfold rdn at h
 split at h
 ·exact ans1_fact h
 ·simp at h
theorem side_fact {x:Pt} {o:Int} {C:List Nat} (h:aans [x]=some (o,C)) (hok:x.Ok):C.sum=x.cs.sum∧Tight o C∧C.length≤x.cs.length∧∀ n∈C,n<18446744073709551616 :=
 ⟨tot_one h,aans_tight h,(aans_ok hok h).2.2.1,(aans_ok hok h).2.2.2⟩
theorem totals_any (l1:List KV) (a1 t1 k1:Nat) (bp1:Bool) (vp1:Nat) (bm1:Bool) (vm1:Nat) (bg1:Bool) (vg1:Nat) (sc1:Int) (zc1:Nat) (gp1:Bool) (po1:Int) (pc1:List Nat) (pu1:List UInt8) (gn1:Bool) (no1:Int) (nc1:List Nat) (nu1:List UInt8) (es1:List Ex) (f1 th1:Nat) (u1:List UInt8) (lo1:Option Addr) (lc1:Nat) (pco1:Option Addr) (pcc1:Nat) (nco1:Option Addr) (ncc1:Nat) (eo1:Option Addr) (ec1:Nat) (l2:List KV) (a2 t2 k2:Nat) (bp2:Bool) (vp2:Nat) (bm2:Bool) (vm2:Nat) (bg2:Bool) (vg2:Nat) (sc2:Int) (zc2:Nat) (gp2:Bool) (po2:Int) (pc2:List Nat) (pu2:List UInt8) (gn2:Bool) (no2:Int) (nc2:List Nat) (nu2:List UInt8) (es2:List Ex) (f2 th2:Nat) (u2:List UInt8) (lo2:Option Addr) (lc2:Nat) (pco2:Option Addr) (pcc2:Nat) (nco2:Option Addr) (ncc2:Nat) (eo2:Option Addr) (ec2:Nat) (most by1:Int) (ew:Addr) (P1 P2:Nat→Prop) (w:World) (hg:Hid (Glob w)) (HE0:Hid (WideAt ew w)) (hmo : -9223372036854775808≤most∧most≤9223372036854775807) (hA1:Hid (xp_arg ((l1,(a1,(t1,(k1,((bp1,vp1),(sc1,(zc1,((gp1,⟨po1,pc1⟩,pu1),((gn1,⟨no1,nc1⟩,nu1),(f1,(es1,((bm1,vm1),((bg1,vg1),th1))))))))))))),u1))) (hA2:Hid (xp_arg ((l2,(a2,(t2,(k2,((bp2,vp2),(sc2,(zc2,((gp2,⟨po2,pc2⟩,pu2),((gn2,⟨no2,nc2⟩,nu2),(f2,(es2,((bm2,vm2),((bg2,vg2),th2))))))))))))),u2))) (hR1:Hid (xpCel.R w P1 ((l1,(a1,(t1,(k1,((bp1,vp1),(sc1,(zc1,((gp1,⟨po1,pc1⟩,pu1),((gn1,⟨no1,nc1⟩,nu1),(f1,(es1,((bm1,vm1),((bg1,vg1),th1))))))))))))),u1) [.slice lo1 l1.length lc1,.int .u64 (a1:Int),.int .u64 (t1:Int),.int .u64 (k1:Int),.bool bp1,.int .u64 (vp1:Int),.bool bm1,.int .u64 (vm1:Int),.bool bg1,.int .u64 (vg1:Int),.int .i32 sc1,.int .u64 (zc1:Int),.bool gp1,.int .i32 po1,.slice pco1 pc1.length pcc1,strV pu1,.bool gn1,.int .i32 no1,.slice nco1 nc1.length ncc1,strV nu1,.slice eo1 es1.length ec1,.int .u32 (f1:Int),.int .u64 (th1:Int),strV u1])) (hR2:Hid (xpCel.R w P2 ((l2,(a2,(t2,(k2,((bp2,vp2),(sc2,(zc2,((gp2,⟨po2,pc2⟩,pu2),((gn2,⟨no2,nc2⟩,nu2),(f2,(es2,((bm2,vm2),((bg2,vg2),th2))))))))))))),u2) [.slice lo2 l2.length lc2,.int .u64 (a2:Int),.int .u64 (t2:Int),.int .u64 (k2:Int),.bool bp2,.int .u64 (vp2:Int),.bool bm2,.int .u64 (vm2:Int),.bool bg2,.int .u64 (vg2:Int),.int .i32 sc2,.int .u64 (zc2:Int),.bool gp2,.int .i32 po2,.slice pco2 pc2.length pcc2,strV pu2,.bool gn2,.int .i32 no2,.slice nco2 nc2.length ncc2,strV nu2,.slice eo2 es2.length ec2,.int .u32 (f2:Int),.int .u64 (th2:Int),strV u2])) :
  Calls Tryd.prog 3 #[.agg #[.slice lo1 l1.length lc1,.int .u64 (a1:Int),.int .u64 (t1:Int),.int .u64 (k1:Int),.bool bp1,.int .u64 (vp1:Int),.bool bm1,.int .u64 (vm1:Int),.bool bg1,.int .u64 (vg1:Int),.int .i32 sc1,.int .u64 (zc1:Int),.bool gp1,.int .i32 po1,.slice pco1 pc1.length pcc1,strV pu1,.bool gn1,.int .i32 no1,.slice nco1 nc1.length ncc1,strV nu1,.slice eo1 es1.length ec1,.int .u32 (f1:Int),.int .u64 (th1:Int),strV u1],.agg #[.slice lo2 l2.length lc2,.int .u64 (a2:Int),.int .u64 (t2:Int),.int .u64 (k2:Int),.bool bp2,.int .u64 (vp2:Int),.bool bm2,.int .u64 (vm2:Int),.bool bg2,.int .u64 (vg2:Int),.int .i32 sc2,.int .u64 (zc2:Int),.bool gp2,.int .i32 po2,.slice pco2 pc2.length pcc2,strV pu2,.bool gn2,.int .i32 no2,.slice nco2 nc2.length ncc2,strV nu2,.slice eo2 es2.length ec2,.int .u32 (f2:Int),.int .u64 (th2:Int),strV u2],.int .i64 most,.int .i64 by1] w fun E w'=>E = .returned (.bool true)∧Below w.heap.size w w':=by
 obtain ⟨b1,HN1⟩:∃ x,Hid (w.heap.size=x):=⟨_,Lib.hid rfl⟩
 obtain ⟨b2,HN2⟩:∃ x,Hid (w.heap.size+1=x):=⟨_,Lib.hid rfl⟩
 obtain ⟨wa,HWa⟩:∃ X,Hid (w.alloc (.cells #[.slice lo1 l1.length lc1,.int .u64 (a1:Int),.int .u64 (t1:Int),.int .u64 (k1:Int),.bool bp1,.int .u64 (vp1:Int),.bool bm1,.int .u64 (vm1:Int),.bool bg1,.int .u64 (vg1:Int),.int .i32 sc1,.int .u64 (zc1:Int),.bool gp1,.int .i32 po1,.slice pco1 pc1.length pcc1,strV pu1,.bool gn1,.int .i32 no1,.slice nco1 nc1.length ncc1,strV nu1,.slice eo1 es1.length ec1,.int .u32 (f1:Int),.int .u64 (th1:Int),strV u1] 32)=X):=⟨_,Lib.hid rfl⟩
 obtain ⟨W,HW⟩:∃ X,Hid (wa.alloc (.cells #[.slice lo2 l2.length lc2,.int .u64 (a2:Int),.int .u64 (t2:Int),.int .u64 (k2:Int),.bool bp2,.int .u64 (vp2:Int),.bool bm2,.int .u64 (vm2:Int),.bool bg2,.int .u64 (vg2:Int),.int .i32 sc2,.int .u64 (zc2:Int),.bool gp2,.int .i32 po2,.slice pco2 pc2.length pcc2,strV pu2,.bool gn2,.int .i32 no2,.slice nco2 nc2.length ncc2,strV nu2,.slice eo2 es2.length ec2,.int .u32 (f2:Int),.int .u64 (th2:Int),strV u2] 32)=X):=⟨_,Lib.hid rfl⟩
 have za:wa.heap.size=w.heap.size+1:=by rw[←HWa.out,World.size_alloc]
 have ba:Below w.heap.size w wa:=by rw[←HWa.out];exact below_new _ _
 have bb:Below wa.heap.size wa W:=by rw[←HW.out];exact below_new _ _
 have r1:wa.heap[b1]? = some (.cells #[.slice lo1 l1.length lc1,.int .u64 (a1:Int),.int .u64 (t1:Int),.int .u64 (k1:Int),.bool bp1,.int .u64 (vp1:Int),.bool bm1,.int .u64 (vm1:Int),.bool bg1,.int .u64 (vg1:Int),.int .i32 sc1,.int .u64 (zc1:Int),.bool gp1,.int .i32 po1,.slice pco1 pc1.length pcc1,strV pu1,.bool gn1,.int .i32 no1,.slice nco1 nc1.length ncc1,strV nu1,.slice eo1 es1.length ec1,.int .u32 (f1:Int),.int .u64 (th1:Int),strV u1] 32 (0,0)):=by rw[←HWa.out,←HN1.out];exact heap_alloc_new w _
 have HB:Hid (Below w.heap.size w W):=Lib.hid (below_step ba bb)
 have Rb1:=Lib.hid ((bb.block _ (row_lt r1)).trans r1)
 have Rb2:Hid (W.heap[b2]? = some (.cells #[.slice lo2 l2.length lc2,.int .u64 (a2:Int),.int .u64 (t2:Int),.int .u64 (k2:Int),.bool bp2,.int .u64 (vp2:Int),.bool bm2,.int .u64 (vm2:Int),.bool bg2,.int .u64 (vg2:Int),.int .i32 sc2,.int .u64 (zc2:Int),.bool gp2,.int .i32 po2,.slice pco2 pc2.length pcc2,strV pu2,.bool gn2,.int .i32 no2,.slice nco2 nc2.length ncc2,strV nu2,.slice eo2 es2.length ec2,.int .u32 (f2:Int),.int .u64 (th2:Int),strV u2] 32 (0,0))):=Lib.hid (by rw[←HW.out,←HN2.out,←za];exact heap_alloc_new wa _)
 have HGE:Hid (w.heap.size≤b1∧b1<b2):=Lib.hid (by have:=HN1.out;have:=HN2.out;omega)
 have HG:=Lib.hid (hg.out.below HB.out)
 have HEW:=Lib.hid (HE0.out.below HB.out)
 clear za ba bb r1
 go_enter Tryd.func3,Tryd.ntmps3
 go_upto_region 1 with fail
 rw[HWa.out,HW.out,HN2.out,HN1.out]
 go_wp2_with fail
 refine (first25 W HG).mono ?_
 rintro E v1 ⟨rfl,hb⟩
 replace HB:=Lib.hid (below_step HB.out hb)
 replace Rb1:=Lib.hid ((hb.block _ (row_lt Rb1.out)).trans Rb1.out)
 replace Rb2:=Lib.hid ((hb.block _ (row_lt Rb2.out)).trans Rb2.out)
 replace HG:=Lib.hid (hg.out.below HB.out)
 replace HEW:=Lib.hid (HE0.out.below HB.out)
 clear hb
 go_upto_region 3 with fail
 refine wp_region_lit ?_
 refine wpList_load_mid rfl 32 (.tmp 4) rfl b1 0 rfl [.slice lo1 l1.length lc1,.int .u64 (a1:Int),.int .u64 (t1:Int),.int .u64 (k1:Int),.bool bp1,.int .u64 (vp1:Int),.bool bm1,.int .u64 (vm1:Int),.bool bg1,.int .u64 (vg1:Int),.int .i32 sc1,.int .u64 (zc1:Int),.bool gp1,.int .i32 po1,.slice pco1 pc1.length pcc1,strV pu1,.bool gn1,.int .i32 no1,.slice nco1 nc1.length ncc1,strV nu1,.slice eo1 es1.length ec1,.int .u32 (f1:Int),.int .u64 (th1:Int),strV u1] _ (range_rowf Rb1.out) Tryd.underlying32 rfl (by kernel_rfl) ?_
 refine wpList_load_mid rfl 32 (.tmp 5) rfl b2 0 rfl [.slice lo2 l2.length lc2,.int .u64 (a2:Int),.int .u64 (t2:Int),.int .u64 (k2:Int),.bool bp2,.int .u64 (vp2:Int),.bool bm2,.int .u64 (vm2:Int),.bool bg2,.int .u64 (vg2:Int),.int .i32 sc2,.int .u64 (zc2:Int),.bool gp2,.int .i32 po2,.slice pco2 pc2.length pcc2,strV pu2,.bool gn2,.int .i32 no2,.slice nco2 nc2.length ncc2,strV nu2,.slice eo2 es2.length ec2,.int .u32 (f2:Int),.int .u64 (th2:Int),strV u2] _ (range_rowf Rb2.out) Tryd.underlying32 rfl (by kernel_rfl) ?_
 refine wpList_plain rfl (fun K hK=>?_);go_simp;refine hK _ _ ?_;clear hK K
 obtain ⟨b3,HN3⟩:∃ x,Hid (v1.heap.size=x):=⟨_,Lib.hid rfl⟩
 obtain ⟨v2,HW2⟩:∃ X,Hid (v1.alloc (.cells #[.slice lo1 l1.length lc1,.int .u64 (a1:Int),.int .u64 (t1:Int),.int .u64 (k1:Int),.bool bp1,.int .u64 (vp1:Int),.bool bm1,.int .u64 (vm1:Int),.bool bg1,.int .u64 (vg1:Int),.int .i32 sc1,.int .u64 (zc1:Int),.bool gp1,.int .i32 po1,.slice pco1 pc1.length pcc1,strV pu1,.bool gn1,.int .i32 no1,.slice nco1 nc1.length ncc1,strV nu1,.slice eo1 es1.length ec1,.int .u32 (f1:Int),.int .u64 (th1:Int),strV u1,.slice lo2 l2.length lc2,.int .u64 (a2:Int),.int .u64 (t2:Int),.int .u64 (k2:Int),.bool bp2,.int .u64 (vp2:Int),.bool bm2,.int .u64 (vm2:Int),.bool bg2,.int .u64 (vg2:Int),.int .i32 sc2,.int .u64 (zc2:Int),.bool gp2,.int .i32 po2,.slice pco2 pc2.length pcc2,strV pu2,.bool gn2,.int .i32 no2,.slice nco2 nc2.length ncc2,strV nu2,.slice eo2 es2.length ec2,.int .u32 (f2:Int),.int .u64 (th2:Int),strV u2] 32)=X):=⟨_,Lib.hid rfl⟩
 rw[HW2.out,HN3.out]
 have hb:Below v1.heap.size v1 v2:=by rw[←HW2.out];exact below_new _ _
 have hr:v2.heap[b3]? = some (.cells #[.slice lo1 l1.length lc1,.int .u64 (a1:Int),.int .u64 (t1:Int),.int .u64 (k1:Int),.bool bp1,.int .u64 (vp1:Int),.bool bm1,.int .u64 (vm1:Int),.bool bg1,.int .u64 (vg1:Int),.int .i32 sc1,.int .u64 (zc1:Int),.bool gp1,.int .i32 po1,.slice pco1 pc1.length pcc1,strV pu1,.bool gn1,.int .i32 no1,.slice nco1 nc1.length ncc1,strV nu1,.slice eo1 es1.length ec1,.int .u32 (f1:Int),.int .u64 (th1:Int),strV u1,.slice lo2 l2.length lc2,.int .u64 (a2:Int),.int .u64 (t2:Int),.int .u64 (k2:Int),.bool bp2,.int .u64 (vp2:Int),.bool bm2,.int .u64 (vm2:Int),.bool bg2,.int .u64 (vg2:Int),.int .i32 sc2,.int .u64 (zc2:Int),.bool gp2,.int .i32 po2,.slice pco2 pc2.length pcc2,strV pu2,.bool gn2,.int .i32 no2,.slice nco2 nc2.length ncc2,strV nu2,.slice eo2 es2.length ec2,.int .u32 (f2:Int),.int .u64 (th2:Int),strV u2] 32 (0,0)):=by rw[←HW2.out,←HN3.out];exact heap_alloc_new v1 _
 replace HB:=Lib.hid (below_step HB.out hb)
 replace Rb1:=Lib.hid ((hb.block _ (row_lt Rb1.out)).trans Rb1.out)
 replace Rb2:=Lib.hid ((hb.block _ (row_lt Rb2.out)).trans Rb2.out)
 replace HG:=Lib.hid (hg.out.below HB.out)
 replace HEW:=Lib.hid (HE0.out.below HB.out)
 have HR3:=Lib.hid hr
 clear hb hr
 have HCR:Hid (CRels xpCel v2 (fun _=>True) [((l1,(a1,(t1,(k1,((bp1,vp1),(sc1,(zc1,((gp1,⟨po1,pc1⟩,pu1),((gn1,⟨no1,nc1⟩,nu1),(f1,(es1,((bm1,vm1),((bg1,vg1),th1))))))))))))),u1),((l2,(a2,(t2,(k2,((bp2,vp2),(sc2,(zc2,((gp2,⟨po2,pc2⟩,pu2),((gn2,⟨no2,nc2⟩,nu2),(f2,(es2,((bm2,vm2),((bg2,vg2),th2))))))))))))),u2)] (some ⟨b3,0,none⟩)):=Lib.hid (crels_twox (cx:=[.slice lo1 l1.length lc1,.int .u64 (a1:Int),.int .u64 (t1:Int),.int .u64 (k1:Int),.bool bp1,.int .u64 (vp1:Int),.bool bm1,.int .u64 (vm1:Int),.bool bg1,.int .u64 (vg1:Int),.int .i32 sc1,.int .u64 (zc1:Int),.bool gp1,.int .i32 po1,.slice pco1 pc1.length pcc1,strV pu1,.bool gn1,.int .i32 no1,.slice nco1 nc1.length ncc1,strV nu1,.slice eo1 es1.length ec1,.int .u32 (f1:Int),.int .u64 (th1:Int),strV u1]) (cy:=[.slice lo2 l2.length lc2,.int .u64 (a2:Int),.int .u64 (t2:Int),.int .u64 (k2:Int),.bool bp2,.int .u64 (vp2:Int),.bool bm2,.int .u64 (vm2:Int),.bool bg2,.int .u64 (vg2:Int),.int .i32 sc2,.int .u64 (zc2:Int),.bool gp2,.int .i32 po2,.slice pco2 pc2.length pcc2,strV pu2,.bool gn2,.int .i32 no2,.slice nco2 nc2.length ncc2,strV nu2,.slice eo2 es2.length ec2,.int .u32 (f2:Int),.int .u64 (th2:Int),strV u2]) HR3.out (xpCel.upd (Upd.of_new (S:=fun _=>False) HB.out) (fun _ _ h=>h) (fun _ _=>trivial) hR1.out) (xpCel.upd (Upd.of_new (S:=fun _=>False) HB.out) (fun _ _ h=>h) (fun _ _=>trivial) hR2.out))
 refine wpList_plain rfl (fun K hK=>?_);go_simp
 refine (few_any [((l1,(a1,(t1,(k1,((bp1,vp1),(sc1,(zc1,((gp1,⟨po1,pc1⟩,pu1),((gn1,⟨no1,nc1⟩,nu1),(f1,(es1,((bm1,vm1),((bg1,vg1),th1))))))))))))),u1),((l2,(a2,(t2,(k2,((bp2,vp2),(sc2,(zc2,((gp2,⟨po2,pc2⟩,pu2),((gn2,⟨no2,nc2⟩,nu2),(f2,(es2,((bm2,vm2),((bg2,vg2),th2))))))))))))),u2)] (some ⟨b3,0,none⟩) 2 (fun _=>True) v2 (by simp) HCR (Lib.hid (fun x hx=>by simp at hx;rcases hx with rfl|rfl;exact hA1.out;exact hA2.out))).mono ?_
 rintro E v3 ⟨hb,r,rfl,hfew⟩
 replace HB:=Lib.hid (below_step HB.out hb)
 replace Rb1:=Lib.hid ((hb.block _ (row_lt Rb1.out)).trans Rb1.out)
 replace Rb2:=Lib.hid ((hb.block _ (row_lt Rb2.out)).trans Rb2.out)
 replace HG:=Lib.hid (hg.out.below HB.out)
 replace HEW:=Lib.hid (HE0.out.below HB.out)
 clear hb HR3 HCR
 go_simp
 refine hK _ _ ?_;clear hK K
 have x12:v3.cell? ⟨b1,12,none⟩=some (.bool gp1):=row_cell Rb1.out (j:=12) rfl
 have x16:v3.cell? ⟨b1,16,none⟩=some (.bool gn1):=row_cell Rb1.out (j:=16) rfl
 have y12:v3.cell? ⟨b2,12,none⟩=some (.bool gp2):=row_cell Rb2.out (j:=12) rfl
 have y16:v3.cell? ⟨b2,16,none⟩=some (.bool gn2):=row_cell Rb2.out (j:=16) rfl
 cases r with
 | false =>
  iterate 21 (refine wpList_step fun K hK=>?_;go_simp;refine hK _ _ ?_;clear hK K)
  clear x12 x16 y12 y16
  go_wp2_with fail
  refine (first25 v3 HG).mono ?_
  rintro E v4 ⟨rfl,hb⟩
  replace HB:=Lib.hid (below_step HB.out hb)
  replace Rb1:=Lib.hid ((hb.block _ (row_lt Rb1.out)).trans Rb1.out)
  replace Rb2:=Lib.hid ((hb.block _ (row_lt Rb2.out)).trans Rb2.out)
  replace HG:=Lib.hid (hg.out.below HB.out)
  replace HEW:=Lib.hid (HE0.out.below HB.out)
  clear hb
  go_wp2_with fail
  go_ret
  exact ⟨rfl,HB.out⟩
 | true =>
  have HF1:=Lib.hid (xp_wt_rw (hfew rfl ((l1,(a1,(t1,(k1,((bp1,vp1),(sc1,(zc1,((gp1,⟨po1,pc1⟩,pu1),((gn1,⟨no1,nc1⟩,nu1),(f1,(es1,((bm1,vm1),((bg1,vg1),th1))))))))))))),u1) (by simp)))
  have HF2:=Lib.hid (xp_wt_rw (hfew rfl ((l2,(a2,(t2,(k2,((bp2,vp2),(sc2,(zc2,((gp2,⟨po2,pc2⟩,pu2),((gn2,⟨no2,nc2⟩,nu2),(f2,(es2,((bm2,vm2),((bg2,vg2),th2))))))))))))),u2) (by simp)))
  clear hfew
  cases gp1 with
  | false =>
   iterate 21 (refine wpList_step fun K hK=>?_;go_simp;refine hK _ _ ?_;clear hK K)
   clear x12 x16 y12 y16
   go_wp2_with fail
   refine (first25 v3 HG).mono ?_
   rintro E v4 ⟨rfl,hb⟩
   replace HB:=Lib.hid (below_step HB.out hb)
   replace Rb1:=Lib.hid ((hb.block _ (row_lt Rb1.out)).trans Rb1.out)
   replace Rb2:=Lib.hid ((hb.block _ (row_lt Rb2.out)).trans Rb2.out)
   replace HG:=Lib.hid (hg.out.below HB.out)
   replace HEW:=Lib.hid (HE0.out.below HB.out)
   clear hb
   go_wp2_with fail
   go_ret
   exact ⟨rfl,HB.out⟩
  | true =>
   cases gp2 with
   | false =>
    iterate 21 (refine wpList_step fun K hK=>?_;go_simp;refine hK _ _ ?_;clear hK K)
    clear x12 x16 y12 y16
    go_wp2_with fail
    refine (first25 v3 HG).mono ?_
    rintro E v4 ⟨rfl,hb⟩
    replace HB:=Lib.hid (below_step HB.out hb)
    replace Rb1:=Lib.hid ((hb.block _ (row_lt Rb1.out)).trans Rb1.out)
    replace Rb2:=Lib.hid ((hb.block _ (row_lt Rb2.out)).trans Rb2.out)
    replace HG:=Lib.hid (hg.out.below HB.out)
    replace HEW:=Lib.hid (HE0.out.below HB.out)
    clear hb
    go_wp2_with fail
    go_ret
    exact ⟨rfl,HB.out⟩
   | true =>
    cases gn1 with
    | false =>
     iterate 21 (refine wpList_step fun K hK=>?_;go_simp;refine hK _ _ ?_;clear hK K)
     clear x12 x16 y12 y16
     go_wp2_with fail
     refine (first25 v3 HG).mono ?_
     rintro E v4 ⟨rfl,hb⟩
     replace HB:=Lib.hid (below_step HB.out hb)
     replace Rb1:=Lib.hid ((hb.block _ (row_lt Rb1.out)).trans Rb1.out)
     replace Rb2:=Lib.hid ((hb.block _ (row_lt Rb2.out)).trans Rb2.out)
     replace HG:=Lib.hid (hg.out.below HB.out)
     replace HEW:=Lib.hid (HE0.out.below HB.out)
     clear hb
     go_wp2_with fail
     go_ret
     exact ⟨rfl,HB.out⟩
    | true =>
     cases gn2 with
     | false =>
      iterate 21 (refine wpList_step fun K hK=>?_;go_simp;refine hK _ _ ?_;clear hK K)
      clear x12 x16 y12 y16
      go_wp2_with fail
      refine (first25 v3 HG).mono ?_
      rintro E v4 ⟨rfl,hb⟩
      replace HB:=Lib.hid (below_step HB.out hb)
      replace Rb1:=Lib.hid ((hb.block _ (row_lt Rb1.out)).trans Rb1.out)
      replace Rb2:=Lib.hid ((hb.block _ (row_lt Rb2.out)).trans Rb2.out)
      replace HG:=Lib.hid (hg.out.below HB.out)
      replace HEW:=Lib.hid (HE0.out.below HB.out)
      clear hb
      go_wp2_with fail
      go_ret
      exact ⟨rfl,HB.out⟩
     | true =>
      iterate 21 (refine wpList_step fun K hK=>?_;go_simp;refine hK _ _ ?_;clear hK K)
      clear x12 x16 y12 y16
      have HWT:Hid (ksw l2≤16000∧pc1.length≤1600∧nc1.length≤1600∧pc2.length≤1600∧nc2.length≤1600∧lwt exSb es2≤16000):=Lib.hid (by
       have h:100+(ksw l1+10 * pc1.length+pu1.length+10 * nc1.length+nu1.length+lwt exSb es1+u1.length)≤16000:=HF1.out
       have h2:100+(ksw l2+10 * pc2.length+pu2.length+10 * nc2.length+nu2.length+lwt exSb es2+u2.length)≤16000:=HF2.out
       omega)
      obtain ⟨qfl1,qll1,qzl1,qa1,qt1,qk1,qvp1,qsc1,qzc1,qpb1,qpl1,qpu1,qnb1,qnl1,qnu1,qf1,qes1,qel1,qvm1,qvg1,qth1,qu1⟩:=hA1.out
      obtain ⟨lo9,lc9,pco9,pcc9,nco9,ncc9,eo9,ec9,hq,hk1,hp1,hn1,he1⟩:=hR1.out
      simp only[List.cons.injEq,Value.slice.injEq,and_true,true_and] at hq
      obtain ⟨⟨rfl,rfl⟩,⟨rfl,rfl⟩,⟨rfl,rfl⟩,rfl,rfl⟩:=hq
      obtain ⟨qfl2,qll2,qzl2,qa2,qt2,qk2,qvp2,qsc2,qzc2,qpb2,qpl2,qpu2,qnb2,qnl2,qnu2,qf2,qes2,qel2,qvm2,qvg2,qth2,qu2⟩:=hA2.out
      obtain ⟨lo9,lc9,pco9,pcc9,nco9,ncc9,eo9,ec9,hq,hk2,hp2,hn2,he2⟩:=hR2.out
      simp only[List.cons.injEq,Value.slice.injEq,and_true,true_and] at hq
      obtain ⟨⟨rfl,rfl⟩,⟨rfl,rfl⟩,⟨rfl,rfl⟩,rfl,rfl⟩:=hq
      have HK:=Lib.hid hk2
      have HP1:=Lib.hid hp1
      have HQ1:=Lib.hid hn1
      have HP2:=Lib.hid hp2
      have HQ2:=Lib.hid hn2
      have HEX:=Lib.hid he2
      clear hk1 hp1 hn1 he1 hk2 hp2 hn2 he2
      have x14:v3.cell? ⟨b1,14,none⟩=some (.slice pco1 pc1.length pcc1):=row_cell Rb1.out (j:=14) rfl
      go_wp2_with fail
      refine (total_any pc1 pco1 pcc1 v3 (by have:=HWT.out;omega) (Lib.hid qpb1.each) (Lib.hid (nats_of_rels (CRels.upd (S:=fun _=>False) (Upd.of_new HB.out) (fun _ _ h=>h) (fun _ h=>h) HP1.out)))).mono ?_
      rintro E v4 ⟨hb,n1,ok1,rfl,hy1,hz1⟩
      clear x14
      replace HB:=Lib.hid (below_step HB.out hb)
      replace Rb1:=Lib.hid ((hb.block _ (row_lt Rb1.out)).trans Rb1.out)
      replace Rb2:=Lib.hid ((hb.block _ (row_lt Rb2.out)).trans Rb2.out)
      replace HG:=Lib.hid (hg.out.below HB.out)
      replace HEW:=Lib.hid (HE0.out.below HB.out)
      clear hb
      have HY1:=Lib.hid hy1
      have HZ1:=Lib.hid hz1
      clear hy1 hz1
      have x14:v4.cell? ⟨b2,14,none⟩=some (.slice pco2 pc2.length pcc2):=row_cell Rb2.out (j:=14) rfl
      go_wp2_with fail
      refine (total_any pc2 pco2 pcc2 v4 (by have:=HWT.out;omega) (Lib.hid qpb2.each) (Lib.hid (nats_of_rels (CRels.upd (S:=fun _=>False) (Upd.of_new HB.out) (fun _ _ h=>h) (fun _ h=>h) HP2.out)))).mono ?_
      rintro E v5 ⟨hb,n2,ok2,rfl,hy2,hz2⟩
      clear x14
      replace HB:=Lib.hid (below_step HB.out hb)
      replace Rb1:=Lib.hid ((hb.block _ (row_lt Rb1.out)).trans Rb1.out)
      replace Rb2:=Lib.hid ((hb.block _ (row_lt Rb2.out)).trans Rb2.out)
      replace HG:=Lib.hid (hg.out.below HB.out)
      replace HEW:=Lib.hid (HE0.out.below HB.out)
      clear hb
      have HY2:=Lib.hid hy2
      have HZ2:=Lib.hid hz2
      clear hy2 hz2
      have x13:v5.cell? ⟨b1,13,none⟩=some (.int .i32 po1):=row_cell Rb1.out (j:=13) rfl
      have x14:v5.cell? ⟨b1,14,none⟩=some (.slice pco1 pc1.length pcc1):=row_cell Rb1.out (j:=14) rfl
      have x15:v5.cell? ⟨b1,15,none⟩=some (strV pu1):=row_cell Rb1.out (j:=15) rfl
      go_upto_region 7 with fail
      obtain ⟨⟨oD,CD,kD⟩,HRD⟩:∃ r,Hid (rdn po1 pc1 by1=r):=⟨_,Lib.hid rfl⟩
      refine wp_region_lit ?_
      refine wpList_plain rfl (fun K hK=>?_);go_simp;refine hK _ _ ?_;clear hK K
      refine wpList_plain rfl (fun K hK=>?_);go_simp;refine hK _ _ ?_;clear hK K
      refine wpList_plain rfl (fun K hK=>?_);go_simp;refine hK _ _ ?_;clear hK K
      refine wpList_plain rfl (fun K hK=>?_);go_simp
      clear x13 x14 x15
      refine (down_u po1 pc1 by1 pco1 pcc1 ⟨pu1.toArray⟩ v5 ⟨qpb1.lo,qpb1.hi⟩ (by have:=HWT.out;omega) qpb1.each (Lib.hid (nats_of_rels (CRels.upd (S:=fun _=>False) (Upd.of_new HB.out) (fun _ _ h=>h) (fun _ h=>h) HP1.out)))).mono ?_
      rw[HRD.out]
      rintro E v6 ⟨hb,qD,dD,eD,rfl,hnD,hcD⟩
      replace HB:=Lib.hid (below_step HB.out hb)
      replace Rb1:=Lib.hid ((hb.block _ (row_lt Rb1.out)).trans Rb1.out)
      replace Rb2:=Lib.hid ((hb.block _ (row_lt Rb2.out)).trans Rb2.out)
      replace HG:=Lib.hid (hg.out.below HB.out)
      replace HEW:=Lib.hid (HE0.out.below HB.out)
      have hbk:=hb
      clear hb
      have HED:Hid ((eD = .nilIface∧kD=0)∨∃ T y,eD = .iface T y):=Lib.hid (hcD.imp (fun h=>⟨h.2,h.1⟩) EC.iface)
      have HND:=Lib.hid hnD
      clear hnD hcD
      go_simp
      refine hK _ _ ?_;clear hK K
      iterate 3 (refine wpList_plain rfl (fun K hK=>?_);go_simp;refine hK _ _ ?_;clear hK K)
      refine wpList_plain rfl (fun K hK=>?_);go_simp;refine hK _ _ ?_;clear hK K
      obtain ⟨b4,HNb4⟩:∃ x,Hid (v6.heap.size=x):=⟨_,Lib.hid rfl⟩
      obtain ⟨v7,HWab4⟩:∃ X,Hid (v6.alloc (.cells #[.int .i32 0,.slice none 0 0,.string ⟨#[]⟩] 28)=X):=⟨_,Lib.hid rfl⟩
      rw[HWab4.out,HNb4.out]
      have hb:Below v6.heap.size v6 v7:=by rw[←HWab4.out];exact below_new _ _
      have hr:v7.heap[b4]? = some (.cells #[.int .i32 0,.slice none 0 0,.string ⟨#[]⟩] 28 (0,0)):=by rw[←HWab4.out,←HNb4.out];exact heap_alloc_new v6 _
      have HGEn:Hid ((w.heap.size≤b1∧b1<b2)∧b2<b4):=Lib.hid ⟨HGE.out,by have h1:=row_lt Rb2.out;have h2:=HNb4.out;omega⟩
      replace HB:=Lib.hid (below_step HB.out hb)
      replace Rb1:=Lib.hid ((hb.block _ (row_lt Rb1.out)).trans Rb1.out)
      replace Rb2:=Lib.hid ((hb.block _ (row_lt Rb2.out)).trans Rb2.out)
      have Rb4:=Lib.hid hr
      clear hb hr
      have hbz:Below v6.heap.size v6 v7:=by rw[←HWab4.out];exact below_new _ _
      refine wpList_store_row rfl 28 (.tmp 13) (.tmp 72) rfl b4 #[.int .i32 oD,.slice qD CD.length dD,.string ⟨#[]⟩] rfl rfl 28 _ Rb4.out (by kernel_rfl) rfl (by simp[Value.oneCell']) ?_
      obtain ⟨v8,HWbb4⟩:∃ X,Hid (v7.setRow b4 #[.int .i32 oD,.slice qD CD.length dD,.string ⟨#[]⟩]=X):=⟨_,Lib.hid rfl⟩
      rw[HWbb4.out]
      have hu:Upd (fun k=>k=b4) v7 v8:=by rw[←HWbb4.out];exact upd_setRow _ _ _
      have hr:v8.heap[b4]? = some (.cells #[.int .i32 oD,.slice qD CD.length dD,.string ⟨#[]⟩] 28 (0,0)):=by rw[←HWbb4.out];exact setRow_heap _ _ _ _ _ _ Rb4.out
      replace HB:=Lib.hid (HB.out.trans (hu.below HB.out.size (fun k _ hk=>by have hk:k=b4:=hk;have:=HGEn.out;omega)))
      replace Rb1:=Lib.hid ((hu.block _ (row_lt Rb1.out) (fun h=>by have h:b1=b4:=h;have:=HGEn.out;omega)).trans Rb1.out)
      replace Rb2:=Lib.hid ((hu.block _ (row_lt Rb2.out) (fun h=>by have h:b2=b4:=h;have:=HGEn.out;omega)).trans Rb2.out)
      replace Rb4:=Lib.hid (hr)
      have hbb:Below v6.heap.size v6 v8:=hbz.trans (hu.below hbz.size (fun k _ hk=>by have hk:k=b4:=hk;have:=HNb4.out;omega))
      replace HND:=Lib.hid (HND.out.below hbb)
      have HBD:=Lib.hid (hbk.trans (hbb.mono (by have:=hbk.size;omega)))
      clear hu hr hbz hbb hbk
      replace HG:=Lib.hid (hg.out.below HB.out)
      replace HEW:=Lib.hid (HE0.out.below HB.out)
      refine wpList_plain rfl (fun K hK=>?_);go_simp;refine hK _ _ ?_;clear hK K
      have x13:v8.cell? ⟨b1,13,none⟩=some (.int .i32 po1):=row_cell Rb1.out (j:=13) rfl
      have x14:v8.cell? ⟨b1,14,none⟩=some (.slice pco1 pc1.length pcc1):=row_cell Rb1.out (j:=14) rfl
      have x15:v8.cell? ⟨b1,15,none⟩=some (strV pu1):=row_cell Rb1.out (j:=15) rfl
      go_upto_region 8 with fail
      obtain ⟨⟨oT,CT,kT⟩,HRT⟩:∃ r,Hid (ans1 ⟨po1,pc1,0⟩=r):=⟨_,Lib.hid rfl⟩
      refine wp_region_lit ?_
      refine wpList_plain rfl (fun K hK=>?_);go_simp;refine hK _ _ ?_;clear hK K
      refine wpList_plain rfl (fun K hK=>?_);go_simp;refine hK _ _ ?_;clear hK K
      refine wpList_plain rfl (fun K hK=>?_);go_simp
      clear x13 x14 x15
      refine (trim_u po1 pc1 pco1 pcc1 ⟨pu1.toArray⟩ v8 ⟨qpb1.lo,qpb1.hi⟩ (by have:=HWT.out;omega) qpb1.each (Lib.hid (nats_of_rels (CRels.upd (S:=fun _=>False) (Upd.of_new HB.out) (fun _ _ h=>h) (fun _ h=>h) HP1.out)))).mono ?_
      rw[HRT.out]
      rintro E v9 ⟨hb,qT,dT,eT,rfl,hnT,hcT⟩
      replace HB:=Lib.hid (below_step HB.out hb)
      replace Rb1:=Lib.hid ((hb.block _ (row_lt Rb1.out)).trans Rb1.out)
      replace Rb2:=Lib.hid ((hb.block _ (row_lt Rb2.out)).trans Rb2.out)
      replace Rb4:=Lib.hid ((hb.block _ (row_lt Rb4.out)).trans Rb4.out)
      replace HG:=Lib.hid (hg.out.below HB.out)
      replace HEW:=Lib.hid (HE0.out.below HB.out)
      have hbk:=hb
      clear hb
      have HET:Hid ((eT = .nilIface∧kT=0)∨∃ T y,eT = .iface T y):=Lib.hid (hcT.imp (fun h=>⟨h.2,h.1⟩) EC.iface)
      have HNT:=Lib.hid hnT
      clear hnT hcT
      go_simp
      refine hK _ _ ?_;clear hK K
      iterate 3 (refine wpList_plain rfl (fun K hK=>?_);go_simp;refine hK _ _ ?_;clear hK K)
      refine wpList_plain rfl (fun K hK=>?_);go_simp;refine hK _ _ ?_;clear hK K
      obtain ⟨b5,HNb5⟩:∃ x,Hid (v9.heap.size=x):=⟨_,Lib.hid rfl⟩
      obtain ⟨v10,HWab5⟩:∃ X,Hid (v9.alloc (.cells #[.int .i32 0,.slice none 0 0,.string ⟨#[]⟩] 28)=X):=⟨_,Lib.hid rfl⟩
      rw[HWab5.out,HNb5.out]
      have hb:Below v9.heap.size v9 v10:=by rw[←HWab5.out];exact below_new _ _
      have hr:v10.heap[b5]? = some (.cells #[.int .i32 0,.slice none 0 0,.string ⟨#[]⟩] 28 (0,0)):=by rw[←HWab5.out,←HNb5.out];exact heap_alloc_new v9 _
      have HGEnn:Hid (((w.heap.size≤b1∧b1<b2)∧b2<b4)∧b4<b5):=Lib.hid ⟨HGEn.out,by have h1:=row_lt Rb4.out;have h2:=HNb5.out;omega⟩
      replace HB:=Lib.hid (below_step HB.out hb)
      replace Rb1:=Lib.hid ((hb.block _ (row_lt Rb1.out)).trans Rb1.out)
      replace Rb2:=Lib.hid ((hb.block _ (row_lt Rb2.out)).trans Rb2.out)
      replace Rb4:=Lib.hid ((hb.block _ (row_lt Rb4.out)).trans Rb4.out)
      have Rb5:=Lib.hid hr
      clear hb hr
      have hbz:Below v9.heap.size v9 v10:=by rw[←HWab5.out];exact below_new _ _
      refine wpList_store_row rfl 28 (.tmp 15) (.tmp 78) rfl b5 #[.int .i32 oT,.slice qT CT.length dT,.string ⟨#[]⟩] rfl rfl 28 _ Rb5.out (by kernel_rfl) rfl (by simp[Value.oneCell']) ?_
      obtain ⟨v11,HWbb5⟩:∃ X,Hid (v10.setRow b5 #[.int .i32 oT,.slice qT CT.length dT,.string ⟨#[]⟩]=X):=⟨_,Lib.hid rfl⟩
      rw[HWbb5.out]
      have hu:Upd (fun k=>k=b5) v10 v11:=by rw[←HWbb5.out];exact upd_setRow _ _ _
      have hr:v11.heap[b5]? = some (.cells #[.int .i32 oT,.slice qT CT.length dT,.string ⟨#[]⟩] 28 (0,0)):=by rw[←HWbb5.out];exact setRow_heap _ _ _ _ _ _ Rb5.out
      replace HB:=Lib.hid (HB.out.trans (hu.below HB.out.size (fun k _ hk=>by have hk:k=b5:=hk;have:=HGEnn.out;omega)))
      replace Rb1:=Lib.hid ((hu.block _ (row_lt Rb1.out) (fun h=>by have h:b1=b5:=h;have:=HGEnn.out;omega)).trans Rb1.out)
      replace Rb2:=Lib.hid ((hu.block _ (row_lt Rb2.out) (fun h=>by have h:b2=b5:=h;have:=HGEnn.out;omega)).trans Rb2.out)
      replace Rb4:=Lib.hid ((hu.block _ (row_lt Rb4.out) (fun h=>by have h:b4=b5:=h;have:=HGEnn.out;omega)).trans Rb4.out)
      replace Rb5:=Lib.hid (hr)
      have hbb:Below v9.heap.size v9 v11:=hbz.trans (hu.below hbz.size (fun k _ hk=>by have hk:k=b5:=hk;have:=HNb5.out;omega))
      replace HNT:=Lib.hid (HNT.out.below hbb)
      have HBT:=Lib.hid (hbk.trans (hbb.mono (by have:=hbk.size;omega)))
      clear hu hr hbz hbb hbk
      replace HG:=Lib.hid (hg.out.below HB.out)
      replace HEW:=Lib.hid (HE0.out.below HB.out)
      refine wpList_plain rfl (fun K hK=>?_);go_simp;refine hK _ _ ?_;clear hK K
      replace HND:=Lib.hid (HND.out.below HBT.out)
      go_upto_region 9 with fail
      obtain ⟨cq,HCQ⟩:∃ c:Bool,Hid ((eD = .nilIface∧c=true)∨((∃ T y,eD = .iface T y)∧c=false)):=by
       rcases HED.out with ⟨h,-⟩|h
       ·exact ⟨true,Lib.hid (.inl ⟨h,rfl⟩)⟩
       ·exact ⟨false,Lib.hid (.inr ⟨h,rfl⟩)⟩
      refine wp_region_lit ?_
      refine wpList_plain rfl (fun K hK=>?_);go_simp;refine hK _ _ ?_;clear hK K
      refine wpList_val (v := .bool cq) (by go_simp) (fun K hK=>by rcases HCQ.out with ⟨h1,h2⟩|⟨⟨T,y,h1⟩,h2⟩<;>(subst h1;subst h2;go_simp;exact hK)) ?_
      refine wpList_plain rfl (fun K hK=>?_);go_simp;refine hK _ _ ?_;clear hK K
      refine wpList_ite (b:=cq) (v := .bool ok1) (by go_simp) (fun hb K hK=>by subst hb;go_simp;exact hK) ?_
      refine wpList_val (v := .bool (cq&&ok1)) (by go_simp) (fun K hK=>by cases cq<;>(try simp only[iteV_true,iteV_false])<;>go_simp<;>exact hK) ?_
      obtain ⟨tq,HTQ⟩:∃ c,Hid ((cq&&ok1)=c):=⟨_,Lib.hid rfl⟩
      rw[HTQ.out]
      go_simp
      go_upto_if 84 with fail
      go_cut [] (fun wx=>Hid (Below v11.heap.size v11 wx))
      case first =>
       as_aux_lemma =>
        cases tq with
        | false=>go_wp2_with fail;go_meet;exact Lib.hid (Below.refl _ _)
        | true =>
         have hen:cq=true∧ok1=true:=by have h:=HTQ.out;simpa using h
         obtain ⟨rfl,rfl⟩:=hen
         have h0:kD=0:=by
          rcases HCQ.out with ⟨h1,-⟩|⟨-,h2⟩
          ·rcases HED.out with ⟨-,h⟩|⟨T,y,h⟩
           ·exact h
           ·rw[h1] at h;cases h
          ·cases h2
         obtain ⟨hsum,htight,hlen,heach⟩:=side_fact (rdn_fact (h0 ▸ HRD.out)) (⟨qpb1.lo,qpb1.hi,by have:=HWT.out;show pc1.length≤_;omega,rdn_ok (h0 ▸ HRD.out),qpb1.each⟩)
         have HSUM:Hid (CD.sum=n1∧CD.sum<18446744073709551616):=Lib.hid (by have h:=HY1.out rfl;have h2:CD.sum=pc1.sum:=hsum;omega)
         have HTI:=Lib.hid htight
         have HLE:Hid (CD.length≤1600):=Lib.hid (by have h:CD.length≤pc1.length:=hlen;have:=HWT.out;omega)
         have HEA:=Lib.hid heach
         clear hsum htight hlen heach h0
         have y1:v11.cell? ⟨b4,1,none⟩=some (.slice qD CD.length dD):=row_cell Rb4.out (j:=1) rfl
         go_wp2_with fail
         refine (total_any CD qD dD v11 (by have:=HLE.out;omega) HEA HND).mono ?_
         rintro E ta ⟨hb,kk,good,rfl,hy,hz⟩
         clear y1
         have HBa:=Lib.hid hb
         have HNa:=Lib.hid (HND.out.below hb)
         replace HB:=Lib.hid (below_step HB.out hb)
         replace Rb1:=Lib.hid ((hb.block _ (row_lt Rb1.out)).trans Rb1.out)
         replace Rb2:=Lib.hid ((hb.block _ (row_lt Rb2.out)).trans Rb2.out)
         replace Rb4:=Lib.hid ((hb.block _ (row_lt Rb4.out)).trans Rb4.out)
         replace Rb5:=Lib.hid ((hb.block _ (row_lt Rb5.out)).trans Rb5.out)
         clear hb
         cases good with
         | false =>
          exfalso
          have h1:=hz rfl
          have h2:=HSUM.out
          omega
         | true =>
          have hkk:kk=n1:=by have h1:=hy rfl;have h2:=HSUM.out;omega
          clear hy hz
          subst hkk
          have dk1:((kk:Int) != (kk:Int))=false:=by rw[bne_eq_false_iff_eq]
          have dk2:(kk != kk)=false:=by rw[bne_eq_false_iff_eq]
          have y0:ta.cell? ⟨b4,0,none⟩=some (.int .i32 oD):=row_cell Rb4.out (j:=0) rfl
          have y1:ta.cell? ⟨b4,1,none⟩=some (.slice qD CD.length dD):=row_cell Rb4.out (j:=1) rfl
          have y2:ta.cell? ⟨b4,2,none⟩=some (.string ⟨#[]⟩):=row_cell Rb4.out (j:=2) rfl
          go_wp2_with fail
          refine (tight_any oD CD qD dD ⟨#[]⟩ ta HTI.out (by have:=HLE.out;omega) HNa).mono ?_
          rintro E tb ⟨rfl,hb⟩
          go_wp2_with fail
          go_meet
          exact Lib.hid (below_step HBa.out hb)
      case rest =>
       as_aux_lemma =>
        have hb:=hcut.out
        clear hcut HCQ HTQ HED
        replace HB:=Lib.hid (below_step HB.out hb)
        replace Rb1:=Lib.hid ((hb.block _ (row_lt Rb1.out)).trans Rb1.out)
        replace Rb2:=Lib.hid ((hb.block _ (row_lt Rb2.out)).trans Rb2.out)
        replace Rb4:=Lib.hid ((hb.block _ (row_lt Rb4.out)).trans Rb4.out)
        replace Rb5:=Lib.hid ((hb.block _ (row_lt Rb5.out)).trans Rb5.out)
        replace HG:=Lib.hid (hg.out.below HB.out)
        replace HEW:=Lib.hid (HE0.out.below HB.out)
        replace HNT:=Lib.hid (HNT.out.below hb)
        clear hb
        go_upto_region 13 with fail
        obtain ⟨cq,HCQ⟩:∃ c:Bool,Hid ((eT = .nilIface∧c=true)∨((∃ T y,eT = .iface T y)∧c=false)):=by
         rcases HET.out with ⟨h,-⟩|h
         ·exact ⟨true,Lib.hid (.inl ⟨h,rfl⟩)⟩
         ·exact ⟨false,Lib.hid (.inr ⟨h,rfl⟩)⟩
        refine wp_region_lit ?_
        refine wpList_plain rfl (fun K hK=>?_);go_simp;refine hK _ _ ?_;clear hK K
        refine wpList_val (v := .bool cq) (by go_simp) (fun K hK=>by rcases HCQ.out with ⟨h1,h2⟩|⟨⟨T,y,h1⟩,h2⟩<;>(subst h1;subst h2;go_simp;exact hK)) ?_
        refine wpList_plain rfl (fun K hK=>?_);go_simp;refine hK _ _ ?_;clear hK K
        refine wpList_ite (b:=cq) (v := .bool ok1) (by go_simp) (fun hb K hK=>by subst hb;go_simp;exact hK) ?_
        refine wpList_val (v := .bool (cq&&ok1)) (by go_simp) (fun K hK=>by cases cq<;>(try simp only[iteV_true,iteV_false])<;>go_simp<;>exact hK) ?_
        obtain ⟨tq,HTQ⟩:∃ c,Hid ((cq&&ok1)=c):=⟨_,Lib.hid rfl⟩
        rw[HTQ.out]
        go_simp
        go_upto_if 107 with fail
        go_cut [] (fun wx=>Hid (Below wc.heap.size wc wx))
        case first =>
         as_aux_lemma =>
          cases tq with
          | false=>go_wp2_with fail;go_meet;exact Lib.hid (Below.refl _ _)
          | true =>
           have hen:cq=true∧ok1=true:=by have h:=HTQ.out;simpa using h
           obtain ⟨rfl,rfl⟩:=hen
           have h0:kT=0:=by
            rcases HCQ.out with ⟨h1,-⟩|⟨-,h2⟩
            ·rcases HET.out with ⟨-,h⟩|⟨T,y,h⟩
             ·exact h
             ·rw[h1] at h;cases h
            ·cases h2
           obtain ⟨hsum,htight,hlen,heach⟩:=side_fact (ans1_fact (h0 ▸ HRT.out)) (⟨qpb1.lo,qpb1.hi,by have:=HWT.out;show pc1.length≤_;omega,by show 0≤31;omega,qpb1.each⟩)
           have HSUM:Hid (CT.sum=n1∧CT.sum<18446744073709551616):=Lib.hid (by have h:=HY1.out rfl;have h2:CT.sum=pc1.sum:=hsum;omega)
           have HTI:=Lib.hid htight
           have HLE:Hid (CT.length≤1600):=Lib.hid (by have h:CT.length≤pc1.length:=hlen;have:=HWT.out;omega)
           have HEA:=Lib.hid heach
           clear hsum htight hlen heach h0
           have y1:wc.cell? ⟨b5,1,none⟩=some (.slice qT CT.length dT):=row_cell Rb5.out (j:=1) rfl
           go_wp2_with fail
           refine (total_any CT qT dT wc (by have:=HLE.out;omega) HEA HNT).mono ?_
           rintro E ta ⟨hb,kk,good,rfl,hy,hz⟩
           clear y1
           have HBa:=Lib.hid hb
           have HNa:=Lib.hid (HNT.out.below hb)
           replace HB:=Lib.hid (below_step HB.out hb)
           replace Rb1:=Lib.hid ((hb.block _ (row_lt Rb1.out)).trans Rb1.out)
           replace Rb2:=Lib.hid ((hb.block _ (row_lt Rb2.out)).trans Rb2.out)
           replace Rb4:=Lib.hid ((hb.block _ (row_lt Rb4.out)).trans Rb4.out)
           replace Rb5:=Lib.hid ((hb.block _ (row_lt Rb5.out)).trans Rb5.out)
           clear hb
           cases good with
           | false =>
            exfalso
            have h1:=hz rfl
            have h2:=HSUM.out
            omega
           | true =>
            have hkk:kk=n1:=by have h1:=hy rfl;have h2:=HSUM.out;omega
            clear hy hz
            subst hkk
            have dk1:((kk:Int) != (kk:Int))=false:=by rw[bne_eq_false_iff_eq]
            have dk2:(kk != kk)=false:=by rw[bne_eq_false_iff_eq]
            have y0:ta.cell? ⟨b5,0,none⟩=some (.int .i32 oT):=row_cell Rb5.out (j:=0) rfl
            have y1:ta.cell? ⟨b5,1,none⟩=some (.slice qT CT.length dT):=row_cell Rb5.out (j:=1) rfl
            have y2:ta.cell? ⟨b5,2,none⟩=some (.string ⟨#[]⟩):=row_cell Rb5.out (j:=2) rfl
            go_wp2_with fail
            refine (tight_any oT CT qT dT ⟨#[]⟩ ta HTI.out (by have:=HLE.out;omega) HNa).mono ?_
            rintro E tb ⟨rfl,hb⟩
            go_wp2_with fail
            go_meet
            exact Lib.hid (below_step HBa.out hb)
        case rest =>
         as_aux_lemma =>
          have hb:=hcut.out
          clear hcut HCQ HTQ HET
          replace HB:=Lib.hid (below_step HB.out hb)
          replace Rb1:=Lib.hid ((hb.block _ (row_lt Rb1.out)).trans Rb1.out)
          replace Rb2:=Lib.hid ((hb.block _ (row_lt Rb2.out)).trans Rb2.out)
          replace Rb4:=Lib.hid ((hb.block _ (row_lt Rb4.out)).trans Rb4.out)
          replace Rb5:=Lib.hid ((hb.block _ (row_lt Rb5.out)).trans Rb5.out)
          replace HG:=Lib.hid (hg.out.below HB.out)
          replace HEW:=Lib.hid (HE0.out.below HB.out)
          clear hb
          clear HND HNT HRD HRT
          have hRx1:xpCel.R w (fun _=>True) ((l1,(a1,(t1,(k1,((bp1,vp1),(sc1,(zc1,((true,⟨po1,pc1⟩,pu1),((true,⟨no1,nc1⟩,nu1),(f1,(es1,((bm1,vm1),((bg1,vg1),th1))))))))))))),u1) [.slice lo1 l1.length lc1,.int .u64 (a1:Int),.int .u64 (t1:Int),.int .u64 (k1:Int),.bool bp1,.int .u64 (vp1:Int),.bool bm1,.int .u64 (vm1:Int),.bool bg1,.int .u64 (vg1:Int),.int .i32 sc1,.int .u64 (zc1:Int),.bool true,.int .i32 po1,.slice pco1 pc1.length pcc1,strV pu1,.bool true,.int .i32 no1,.slice nco1 nc1.length ncc1,strV nu1,.slice eo1 es1.length ec1,.int .u32 (f1:Int),.int .u64 (th1:Int),strV u1]:=xpCel.upd (Upd.refl (fun _=>False) w) (fun _ _ h=>h) (fun _ _=>trivial) hR1.out
          have hRx2:xpCel.R w (fun _=>True) ((l2,(a2,(t2,(k2,((bp2,vp2),(sc2,(zc2,((true,⟨po2,pc2⟩,pu2),((true,⟨no2,nc2⟩,nu2),(f2,(es2,((bm2,vm2),((bg2,vg2),th2))))))))))))),u2) [.slice lo2 l2.length lc2,.int .u64 (a2:Int),.int .u64 (t2:Int),.int .u64 (k2:Int),.bool bp2,.int .u64 (vp2:Int),.bool bm2,.int .u64 (vm2:Int),.bool bg2,.int .u64 (vg2:Int),.int .i32 sc2,.int .u64 (zc2:Int),.bool true,.int .i32 po2,.slice pco2 pc2.length pcc2,strV pu2,.bool true,.int .i32 no2,.slice nco2 nc2.length ncc2,strV nu2,.slice eo2 es2.length ec2,.int .u32 (f2:Int),.int .u64 (th2:Int),strV u2]:=xpCel.upd (Upd.refl (fun _=>False) w) (fun _ _ h=>h) (fun _ _=>trivial) hR2.out
          obtain ⟨lo9,lc9,pco9,pcc9,nco9,ncc9,eo9,ec9,hq,hk1,hp1,hn1,he1⟩:=hRx1
          simp only[List.cons.injEq,Value.slice.injEq,and_true,true_and] at hq
          obtain ⟨⟨rfl,rfl⟩,⟨rfl,rfl⟩,⟨rfl,rfl⟩,rfl,rfl⟩:=hq
          obtain ⟨lo9,lc9,pco9,pcc9,nco9,ncc9,eo9,ec9,hq,hk2,hp2,hn2,he2⟩:=hRx2
          simp only[List.cons.injEq,Value.slice.injEq,and_true,true_and] at hq
          obtain ⟨⟨rfl,rfl⟩,⟨rfl,rfl⟩,⟨rfl,rfl⟩,rfl,rfl⟩:=hq
          clear HK HP1 HQ1 HP2 HQ2 HEX
          have HK:=Lib.hid hk2
          have HP1:=Lib.hid hp1
          have HQ1:=Lib.hid hn1
          have HP2:=Lib.hid hp2
          have HQ2:=Lib.hid hn2
          have HEX:=Lib.hid he2
          clear hk1 hp1 hn1 he1 hk2 hp2 hn2 he2
          have HES:Hid (∀ x∈es2,ksw x.1.2.2≤1000000):=Lib.hid (lwt_ksx es2 1000000 (by have:=HWT.out;omega))
          have HLS:Hid (es2.length≤1000000):=Lib.hid (by
           have h3:=lwt_len (S:=exSb) (k:=1) (fun x=>by obtain ⟨⟨t,⟨⟨⟨k,m⟩,⟨a,b⟩⟩,l⟩⟩,u⟩:=x;show 1≤60+_;omega) es2
           have:=HWT.out
           omega)
          have HOK:Hid (∀ sa sb,sa≤31→sb≤31→(∀ p∈Sd.pos ⟨sc1,true,po1,pc1,true,no1,nc1⟩ sa++Sd.pos ⟨sc2,true,po2,pc2,true,no2,nc2⟩ sb,p.Ok)∧(∀ p∈Sd.neg ⟨sc1,true,po1,pc1,true,no1,nc1⟩ sa++Sd.neg ⟨sc2,true,po2,pc2,true,no2,nc2⟩ sb,p.Ok)):=Lib.hid (fun sa sb ha hb=>by
           have e1:Sd.pos ⟨sc1,true,po1,pc1,true,no1,nc1⟩ sa++Sd.pos ⟨sc2,true,po2,pc2,true,no2,nc2⟩ sb=[⟨po1,pc1,sa⟩,⟨po2,pc2,sb⟩]:=rfl
           have e2:Sd.neg ⟨sc1,true,po1,pc1,true,no1,nc1⟩ sa++Sd.neg ⟨sc2,true,po2,pc2,true,no2,nc2⟩ sb=[⟨no1,nc1,sa⟩,⟨no2,nc2,sb⟩]:=rfl
           rw[e1,e2]
           have hw:=HWT.out
           refine ⟨fun p hp=>?_,fun p hp=>?_⟩
           ·rcases List.mem_cons.1 hp with rfl|hp
            ·exact ⟨qpb1.lo,qpb1.hi,(by show pc1.length≤_;omega),ha,qpb1.each⟩
            ·obtain rfl:=List.mem_singleton.1 hp
             exact ⟨qpb2.lo,qpb2.hi,(by show pc2.length≤_;omega),hb,qpb2.each⟩
           ·rcases List.mem_cons.1 hp with rfl|hp
            ·exact ⟨qnb1.lo,qnb1.hi,(by show nc1.length≤_;omega),ha,qnb1.each⟩
            ·obtain rfl:=List.mem_singleton.1 hp
             exact ⟨qnb2.lo,qnb2.hi,(by show nc2.length≤_;omega),hb,qnb2.each⟩)
          have HU64:Hid (k1<2^64∧k2<2^64∧vp1<2^64∧vp2<2^64∧vm1<2^64∧vm2<2^64∧vg1<2^64∧vg2<2^64∧zc1<2^64∧zc2<2^64):=Lib.hid ⟨qk1,qk2,qvp1,qvp2,qvm1,qvm2,qvg1,qvg2,qzc1,qzc2⟩
          go_upto_region 17 with fail
          refine wp_region_lit ?_
          refine wpList_load_mid rfl 32 (.tmp 4) rfl b1 0 rfl [.slice lo1 l1.length lc1,.int .u64 (a1:Int),.int .u64 (t1:Int),.int .u64 (k1:Int),.bool bp1,.int .u64 (vp1:Int),.bool bm1,.int .u64 (vm1:Int),.bool bg1,.int .u64 (vg1:Int),.int .i32 sc1,.int .u64 (zc1:Int),.bool true,.int .i32 po1,.slice pco1 pc1.length pcc1,strV pu1,.bool true,.int .i32 no1,.slice nco1 nc1.length ncc1,strV nu1,.slice eo1 es1.length ec1,.int .u32 (f1:Int),.int .u64 (th1:Int),strV u1] _ (range_rowf Rb1.out) Tryd.underlying32 rfl (by kernel_rfl) ?_
          refine wpList_load_mid rfl 32 (.tmp 5) rfl b2 0 rfl [.slice lo2 l2.length lc2,.int .u64 (a2:Int),.int .u64 (t2:Int),.int .u64 (k2:Int),.bool bp2,.int .u64 (vp2:Int),.bool bm2,.int .u64 (vm2:Int),.bool bg2,.int .u64 (vg2:Int),.int .i32 sc2,.int .u64 (zc2:Int),.bool true,.int .i32 po2,.slice pco2 pc2.length pcc2,strV pu2,.bool true,.int .i32 no2,.slice nco2 nc2.length ncc2,strV nu2,.slice eo2 es2.length ec2,.int .u32 (f2:Int),.int .u64 (th2:Int),strV u2] _ (range_rowf Rb2.out) Tryd.underlying32 rfl (by kernel_rfl) ?_
          refine wpList_plain rfl (fun K hK=>?_);go_simp;refine hK _ _ ?_;clear hK K
          refine wpList_plain rfl (fun K hK=>?_);go_simp
          refine (mexp_any l1 a1 t1 k1 bp1 vp1 bm1 vm1 bg1 vg1 sc1 zc1 true po1 pc1 ⟨pu1.toArray⟩ true no1 nc1 ⟨nu1.toArray⟩ es1 f1 th1 u1 lo1 lc1 pco1 pcc1 nco1 ncc1 eo1 ec1 l2 a2 t2 k2 bp2 vp2 bm2 vm2 bg2 vg2 sc2 zc2 true po2 pc2 ⟨pu2.toArray⟩ true no2 nc2 ⟨nu2.toArray⟩ es2 f2 th2 u2 lo2 lc2 pco2 pcc2 nco2 ncc2 eo2 ec2 most ew (fun _=>True) wc (by have:=HWT.out;omega) HLS.out HES (Lib.hid (HK.out.below HB.out)) (Lib.hid (CRels.upd (S:=fun _=>False) (Upd.of_new HB.out) (fun _ _ h=>h) (fun _ h=>h) HP1.out)) (Lib.hid (CRels.upd (S:=fun _=>False) (Upd.of_new HB.out) (fun _ _ h=>h) (fun _ h=>h) HQ1.out)) (Lib.hid (CRels.upd (S:=fun _=>False) (Upd.of_new HB.out) (fun _ _ h=>h) (fun _ h=>h) HP2.out)) (Lib.hid (CRels.upd (S:=fun _=>False) (Upd.of_new HB.out) (fun _ _ h=>h) (fun _ h=>h) HQ2.out)) (Lib.hid (CRels.upd (S:=fun _=>False) (Upd.of_new HB.out) (fun _ _ h=>h) (fun _ h=>h) HEX.out)) HEW qsc1 qsc2 HU64 HOK).mono ?_
          rintro E v17 ⟨hb,cs,v,rfl,hcase⟩
          replace HB:=Lib.hid (below_step HB.out hb)
          replace Rb1:=Lib.hid ((hb.block _ (row_lt Rb1.out)).trans Rb1.out)
          replace Rb2:=Lib.hid ((hb.block _ (row_lt Rb2.out)).trans Rb2.out)
          replace Rb4:=Lib.hid ((hb.block _ (row_lt Rb4.out)).trans Rb4.out)
          replace Rb5:=Lib.hid ((hb.block _ (row_lt Rb5.out)).trans Rb5.out)
          replace HG:=Lib.hid (hg.out.below HB.out)
          replace HEW:=Lib.hid (HE0.out.below HB.out)
          rcases hcase with ⟨-,-,⟨T,y,rfl⟩,rfl⟩|⟨-,-,-,⟨T,y,rfl⟩,rfl⟩|⟨-,rfl,j,o1,C1,o2,C2,hat,ha1,ha2,hkk,hzz,hxr⟩
          ·
           as_aux_lemma =>
            clear hb
            go_simp
            refine hK _ _ ?_;clear hK K
            iterate 3 (refine wpList_plain rfl (fun K hK=>?_);go_simp;refine hK _ _ ?_;clear hK K)
            refine wpList_plain rfl (fun K hK=>?_);go_simp;refine hK _ _ ?_;clear hK K
            obtain ⟨b6,HNb6⟩:∃ x,Hid (v17.heap.size=x):=⟨_,Lib.hid rfl⟩
            obtain ⟨v18,HWab6⟩:∃ X,Hid (v17.alloc (.cells #[.slice none 0 0,.int .u64 0,.int .u64 0,.int .u64 0,.bool false,.int .u64 0,.bool false,.int .u64 0,.bool false,.int .u64 0,.int .i32 0,.int .u64 0,.bool false,.int .i32 0,.slice none 0 0,.string ⟨#[]⟩,.bool false,.int .i32 0,.slice none 0 0,.string ⟨#[]⟩,.slice none 0 0,.int .u32 0,.int .u64 0,.string ⟨#[]⟩] 32)=X):=⟨_,Lib.hid rfl⟩
            rw[HWab6.out,HNb6.out]
            have hb:Below v17.heap.size v17 v18:=by rw[←HWab6.out];exact below_new _ _
            have hr:v18.heap[b6]? = some (.cells #[.slice none 0 0,.int .u64 0,.int .u64 0,.int .u64 0,.bool false,.int .u64 0,.bool false,.int .u64 0,.bool false,.int .u64 0,.int .i32 0,.int .u64 0,.bool false,.int .i32 0,.slice none 0 0,.string ⟨#[]⟩,.bool false,.int .i32 0,.slice none 0 0,.string ⟨#[]⟩,.slice none 0 0,.int .u32 0,.int .u64 0,.string ⟨#[]⟩] 32 (0,0)):=by rw[←HWab6.out,←HNb6.out];exact heap_alloc_new v17 _
            have HGEnnn:Hid ((((w.heap.size≤b1∧b1<b2)∧b2<b4)∧b4<b5)∧b5<b6):=Lib.hid ⟨HGEnn.out,by have h1:=row_lt Rb5.out;have h2:=HNb6.out;omega⟩
            replace HB:=Lib.hid (below_step HB.out hb)
            replace Rb1:=Lib.hid ((hb.block _ (row_lt Rb1.out)).trans Rb1.out)
            replace Rb2:=Lib.hid ((hb.block _ (row_lt Rb2.out)).trans Rb2.out)
            replace Rb4:=Lib.hid ((hb.block _ (row_lt Rb4.out)).trans Rb4.out)
            replace Rb5:=Lib.hid ((hb.block _ (row_lt Rb5.out)).trans Rb5.out)
            have Rb6:=Lib.hid hr
            clear hb hr
            have hbz:Below v17.heap.size v17 v18:=by rw[←HWab6.out];exact below_new _ _
            refine wpList_store_row rfl 32 (.tmp 21) (.tmp 131) rfl b6 #[.slice none 0 0,.int .u64 0,.int .u64 0,.int .u64 0,.bool false,.int .u64 0,.bool false,.int .u64 0,.bool false,.int .u64 0,.int .i32 0,.int .u64 0,.bool false,.int .i32 0,.slice none 0 0,.string ⟨#[]⟩,.bool false,.int .i32 0,.slice none 0 0,.string ⟨#[]⟩,.slice none 0 0,.int .u32 0,.int .u64 0,.string ⟨#[]⟩] rfl rfl 32 _ Rb6.out (by kernel_rfl) rfl (by simp[Value.oneCell']) ?_
            obtain ⟨v19,HWbb6⟩:∃ X,Hid (v18.setRow b6 #[.slice none 0 0,.int .u64 0,.int .u64 0,.int .u64 0,.bool false,.int .u64 0,.bool false,.int .u64 0,.bool false,.int .u64 0,.int .i32 0,.int .u64 0,.bool false,.int .i32 0,.slice none 0 0,.string ⟨#[]⟩,.bool false,.int .i32 0,.slice none 0 0,.string ⟨#[]⟩,.slice none 0 0,.int .u32 0,.int .u64 0,.string ⟨#[]⟩]=X):=⟨_,Lib.hid rfl⟩
            rw[HWbb6.out]
            have hu:Upd (fun k=>k=b6) v18 v19:=by rw[←HWbb6.out];exact upd_setRow _ _ _
            have hr:v19.heap[b6]? = some (.cells #[.slice none 0 0,.int .u64 0,.int .u64 0,.int .u64 0,.bool false,.int .u64 0,.bool false,.int .u64 0,.bool false,.int .u64 0,.int .i32 0,.int .u64 0,.bool false,.int .i32 0,.slice none 0 0,.string ⟨#[]⟩,.bool false,.int .i32 0,.slice none 0 0,.string ⟨#[]⟩,.slice none 0 0,.int .u32 0,.int .u64 0,.string ⟨#[]⟩] 32 (0,0)):=by rw[←HWbb6.out];exact setRow_heap _ _ _ _ _ _ Rb6.out
            replace HB:=Lib.hid (HB.out.trans (hu.below HB.out.size (fun k _ hk=>by have hk:k=b6:=hk;have:=HGEnnn.out;omega)))
            replace Rb1:=Lib.hid ((hu.block _ (row_lt Rb1.out) (fun h=>by have h:b1=b6:=h;have:=HGEnnn.out;omega)).trans Rb1.out)
            replace Rb2:=Lib.hid ((hu.block _ (row_lt Rb2.out) (fun h=>by have h:b2=b6:=h;have:=HGEnnn.out;omega)).trans Rb2.out)
            replace Rb4:=Lib.hid ((hu.block _ (row_lt Rb4.out) (fun h=>by have h:b4=b6:=h;have:=HGEnnn.out;omega)).trans Rb4.out)
            replace Rb5:=Lib.hid ((hu.block _ (row_lt Rb5.out) (fun h=>by have h:b5=b6:=h;have:=HGEnnn.out;omega)).trans Rb5.out)
            replace Rb6:=Lib.hid (hr)
            have hbb:Below v17.heap.size v17 v19:=hbz.trans (hu.below hbz.size (fun k _ hk=>by have hk:k=b6:=hk;have:=HNb6.out;omega))
            clear hu hr hbz hbb
            replace HG:=Lib.hid (hg.out.below HB.out)
            replace HEW:=Lib.hid (HE0.out.below HB.out)
            refine wpList_plain rfl (fun K hK=>?_);go_simp;refine hK _ _ ?_;clear hK K
            go_wp2_with fail
            refine (first25 v19 HG).mono ?_
            rintro E v20 ⟨rfl,hb⟩
            replace HB:=Lib.hid (below_step HB.out hb)
            replace Rb1:=Lib.hid ((hb.block _ (row_lt Rb1.out)).trans Rb1.out)
            replace Rb2:=Lib.hid ((hb.block _ (row_lt Rb2.out)).trans Rb2.out)
            replace Rb4:=Lib.hid ((hb.block _ (row_lt Rb4.out)).trans Rb4.out)
            replace Rb5:=Lib.hid ((hb.block _ (row_lt Rb5.out)).trans Rb5.out)
            replace Rb6:=Lib.hid ((hb.block _ (row_lt Rb6.out)).trans Rb6.out)
            replace HG:=Lib.hid (hg.out.below HB.out)
            replace HEW:=Lib.hid (HE0.out.below HB.out)
            clear hb
            go_wp2_with fail
            go_ret
            exact ⟨rfl,HB.out⟩
          ·
           as_aux_lemma =>
            clear hb
            go_simp
            refine hK _ _ ?_;clear hK K
            iterate 3 (refine wpList_plain rfl (fun K hK=>?_);go_simp;refine hK _ _ ?_;clear hK K)
            refine wpList_plain rfl (fun K hK=>?_);go_simp;refine hK _ _ ?_;clear hK K
            obtain ⟨b6,HNb6⟩:∃ x,Hid (v17.heap.size=x):=⟨_,Lib.hid rfl⟩
            obtain ⟨v18,HWab6⟩:∃ X,Hid (v17.alloc (.cells #[.slice none 0 0,.int .u64 0,.int .u64 0,.int .u64 0,.bool false,.int .u64 0,.bool false,.int .u64 0,.bool false,.int .u64 0,.int .i32 0,.int .u64 0,.bool false,.int .i32 0,.slice none 0 0,.string ⟨#[]⟩,.bool false,.int .i32 0,.slice none 0 0,.string ⟨#[]⟩,.slice none 0 0,.int .u32 0,.int .u64 0,.string ⟨#[]⟩] 32)=X):=⟨_,Lib.hid rfl⟩
            rw[HWab6.out,HNb6.out]
            have hb:Below v17.heap.size v17 v18:=by rw[←HWab6.out];exact below_new _ _
            have hr:v18.heap[b6]? = some (.cells #[.slice none 0 0,.int .u64 0,.int .u64 0,.int .u64 0,.bool false,.int .u64 0,.bool false,.int .u64 0,.bool false,.int .u64 0,.int .i32 0,.int .u64 0,.bool false,.int .i32 0,.slice none 0 0,.string ⟨#[]⟩,.bool false,.int .i32 0,.slice none 0 0,.string ⟨#[]⟩,.slice none 0 0,.int .u32 0,.int .u64 0,.string ⟨#[]⟩] 32 (0,0)):=by rw[←HWab6.out,←HNb6.out];exact heap_alloc_new v17 _
            have HGEnnn:Hid ((((w.heap.size≤b1∧b1<b2)∧b2<b4)∧b4<b5)∧b5<b6):=Lib.hid ⟨HGEnn.out,by have h1:=row_lt Rb5.out;have h2:=HNb6.out;omega⟩
            replace HB:=Lib.hid (below_step HB.out hb)
            replace Rb1:=Lib.hid ((hb.block _ (row_lt Rb1.out)).trans Rb1.out)
            replace Rb2:=Lib.hid ((hb.block _ (row_lt Rb2.out)).trans Rb2.out)
            replace Rb4:=Lib.hid ((hb.block _ (row_lt Rb4.out)).trans Rb4.out)
            replace Rb5:=Lib.hid ((hb.block _ (row_lt Rb5.out)).trans Rb5.out)
            have Rb6:=Lib.hid hr
            clear hb hr
            have hbz:Below v17.heap.size v17 v18:=by rw[←HWab6.out];exact below_new _ _
            refine wpList_store_row rfl 32 (.tmp 21) (.tmp 131) rfl b6 #[.slice none 0 0,.int .u64 0,.int .u64 0,.int .u64 0,.bool false,.int .u64 0,.bool false,.int .u64 0,.bool false,.int .u64 0,.int .i32 0,.int .u64 0,.bool false,.int .i32 0,.slice none 0 0,.string ⟨#[]⟩,.bool false,.int .i32 0,.slice none 0 0,.string ⟨#[]⟩,.slice none 0 0,.int .u32 0,.int .u64 0,.string ⟨#[]⟩] rfl rfl 32 _ Rb6.out (by kernel_rfl) rfl (by simp[Value.oneCell']) ?_
            obtain ⟨v19,HWbb6⟩:∃ X,Hid (v18.setRow b6 #[.slice none 0 0,.int .u64 0,.int .u64 0,.int .u64 0,.bool false,.int .u64 0,.bool false,.int .u64 0,.bool false,.int .u64 0,.int .i32 0,.int .u64 0,.bool false,.int .i32 0,.slice none 0 0,.string ⟨#[]⟩,.bool false,.int .i32 0,.slice none 0 0,.string ⟨#[]⟩,.slice none 0 0,.int .u32 0,.int .u64 0,.string ⟨#[]⟩]=X):=⟨_,Lib.hid rfl⟩
            rw[HWbb6.out]
            have hu:Upd (fun k=>k=b6) v18 v19:=by rw[←HWbb6.out];exact upd_setRow _ _ _
            have hr:v19.heap[b6]? = some (.cells #[.slice none 0 0,.int .u64 0,.int .u64 0,.int .u64 0,.bool false,.int .u64 0,.bool false,.int .u64 0,.bool false,.int .u64 0,.int .i32 0,.int .u64 0,.bool false,.int .i32 0,.slice none 0 0,.string ⟨#[]⟩,.bool false,.int .i32 0,.slice none 0 0,.string ⟨#[]⟩,.slice none 0 0,.int .u32 0,.int .u64 0,.string ⟨#[]⟩] 32 (0,0)):=by rw[←HWbb6.out];exact setRow_heap _ _ _ _ _ _ Rb6.out
            replace HB:=Lib.hid (HB.out.trans (hu.below HB.out.size (fun k _ hk=>by have hk:k=b6:=hk;have:=HGEnnn.out;omega)))
            replace Rb1:=Lib.hid ((hu.block _ (row_lt Rb1.out) (fun h=>by have h:b1=b6:=h;have:=HGEnnn.out;omega)).trans Rb1.out)
            replace Rb2:=Lib.hid ((hu.block _ (row_lt Rb2.out) (fun h=>by have h:b2=b6:=h;have:=HGEnnn.out;omega)).trans Rb2.out)
            replace Rb4:=Lib.hid ((hu.block _ (row_lt Rb4.out) (fun h=>by have h:b4=b6:=h;have:=HGEnnn.out;omega)).trans Rb4.out)
            replace Rb5:=Lib.hid ((hu.block _ (row_lt Rb5.out) (fun h=>by have h:b5=b6:=h;have:=HGEnnn.out;omega)).trans Rb5.out)
            replace Rb6:=Lib.hid (hr)
            have hbb:Below v17.heap.size v17 v19:=hbz.trans (hu.below hbz.size (fun k _ hk=>by have hk:k=b6:=hk;have:=HNb6.out;omega))
            clear hu hr hbz hbb
            replace HG:=Lib.hid (hg.out.below HB.out)
            replace HEW:=Lib.hid (HE0.out.below HB.out)
            refine wpList_plain rfl (fun K hK=>?_);go_simp;refine hK _ _ ?_;clear hK K
            go_wp2_with fail
            refine (first25 v19 HG).mono ?_
            rintro E v20 ⟨rfl,hb⟩
            replace HB:=Lib.hid (below_step HB.out hb)
            replace Rb1:=Lib.hid ((hb.block _ (row_lt Rb1.out)).trans Rb1.out)
            replace Rb2:=Lib.hid ((hb.block _ (row_lt Rb2.out)).trans Rb2.out)
            replace Rb4:=Lib.hid ((hb.block _ (row_lt Rb4.out)).trans Rb4.out)
            replace Rb5:=Lib.hid ((hb.block _ (row_lt Rb5.out)).trans Rb5.out)
            replace Rb6:=Lib.hid ((hb.block _ (row_lt Rb6.out)).trans Rb6.out)
            replace HG:=Lib.hid (hg.out.below HB.out)
            replace HEW:=Lib.hid (HE0.out.below HB.out)
            clear hb
            go_wp2_with fail
            go_ret
            exact ⟨rfl,HB.out⟩
          ·
           as_aux_lemma =>
            clear hb
            obtain ⟨⟨sb,sv⟩,HSB⟩:∃ S,Hid (bothO Fm.add (bp1,vp1) (bp2,vp2)=S):=⟨_,Lib.hid rfl⟩
            obtain ⟨⟨mb,mv⟩,HMB⟩:∃ S,Hid (bothO minF (bm1,vm1) (bm2,vm2)=S):=⟨_,Lib.hid rfl⟩
            obtain ⟨⟨gb,gv⟩,HGB⟩:∃ S,Hid (bothO maxF (bg1,vg1) (bg2,vg2)=S):=⟨_,Lib.hid rfl⟩
            obtain ⟨KS,HKS⟩:∃ S,Hid (k1+k2=S):=⟨_,Lib.hid rfl⟩
            obtain ⟨ZS,HZS⟩:∃ S,Hid (zc1+zc2=S):=⟨_,Lib.hid rfl⟩
            obtain ⟨SC,HSC⟩:∃ S,Hid (min sc1 sc2 - (j:Int)=S):=⟨_,Lib.hid rfl⟩
            have hx2:xpCel.R v17 (fun _=>True) ((l2,(a1,(t2,(KS,((sb,sv),(SC,(ZS,((true,⟨o1,C1⟩,[]),((true,⟨o2,C2⟩,[]),(f2,(es2,((mb,mv),((gb,gv),th2))))))))))))),u2) cs:=by
             rw[←HSB.out,←HMB.out,←HGB.out,←HKS.out,←HZS.out,←HSC.out]
             exact xpCel.upd (Upd.refl (fun _=>False) v17) (fun _ _ h=>h) (fun _ _=>trivial) hxr
            clear hxr
            obtain ⟨lo5,lc5,po5,pc5,no5,nc5,eo5,ec5,rfl,-⟩:=id hx2
            have HY:Hid (xpCel.R v17 (fun _=>True) ((l2,(a1,(t2,(KS,((sb,sv),(SC,(ZS,((true,⟨o1,C1⟩,[]),((true,⟨o2,C2⟩,[]),(f2,(es2,((mb,mv),((gb,gv),th2))))))))))))),u2) [.slice lo5 l2.length lc5,.int .u64 (a1:Int),.int .u64 (t2:Int),.int .u64 (KS:Int),.bool sb,.int .u64 (sv:Int),.bool mb,.int .u64 (mv:Int),.bool gb,.int .u64 (gv:Int),.int .i32 SC,.int .u64 (ZS:Int),.bool true,.int .i32 o1,.slice po5 C1.length pc5,strV [],.bool true,.int .i32 o2,.slice no5 C2.length nc5,strV [],.slice eo5 es2.length ec5,.int .u32 (f2:Int),.int .u64 (th2:Int),strV u2]):=Lib.hid hx2
            clear hx2
            have HTG:=Lib.hid (And.intro (aans_tight ha1) (aans_tight ha2))
            have HCL:Hid ((C1.length:Int)≤most∧(C2.length:Int)≤most∧most≤320):=Lib.hid ⟨(ft_len hat ha1 ha2).1,(ft_len hat ha1 ha2).2,hat.1.2⟩
            have HEA:=Lib.hid (aans_each ha1)
            have HSU:Hid (C1.sum=pc1.sum+pc2.sum):=Lib.hid (tot_two ha1)
            have HKL:Hid (KS<18446744073709551616):=Lib.hid (by have:=HKS.out;omega)
            clear hat ha1 ha2 hkk hzz
            go_simp
            refine hK _ _ ?_;clear hK K
            iterate 3 (refine wpList_plain rfl (fun K hK=>?_);go_simp;refine hK _ _ ?_;clear hK K)
            refine wpList_plain rfl (fun K hK=>?_);go_simp;refine hK _ _ ?_;clear hK K
            obtain ⟨b6,HNb6⟩:∃ x,Hid (v17.heap.size=x):=⟨_,Lib.hid rfl⟩
            obtain ⟨v18,HWab6⟩:∃ X,Hid (v17.alloc (.cells #[.slice none 0 0,.int .u64 0,.int .u64 0,.int .u64 0,.bool false,.int .u64 0,.bool false,.int .u64 0,.bool false,.int .u64 0,.int .i32 0,.int .u64 0,.bool false,.int .i32 0,.slice none 0 0,.string ⟨#[]⟩,.bool false,.int .i32 0,.slice none 0 0,.string ⟨#[]⟩,.slice none 0 0,.int .u32 0,.int .u64 0,.string ⟨#[]⟩] 32)=X):=⟨_,Lib.hid rfl⟩
            rw[HWab6.out,HNb6.out]
            have hb:Below v17.heap.size v17 v18:=by rw[←HWab6.out];exact below_new _ _
            have hr:v18.heap[b6]? = some (.cells #[.slice none 0 0,.int .u64 0,.int .u64 0,.int .u64 0,.bool false,.int .u64 0,.bool false,.int .u64 0,.bool false,.int .u64 0,.int .i32 0,.int .u64 0,.bool false,.int .i32 0,.slice none 0 0,.string ⟨#[]⟩,.bool false,.int .i32 0,.slice none 0 0,.string ⟨#[]⟩,.slice none 0 0,.int .u32 0,.int .u64 0,.string ⟨#[]⟩] 32 (0,0)):=by rw[←HWab6.out,←HNb6.out];exact heap_alloc_new v17 _
            have HGEnnn:Hid ((((w.heap.size≤b1∧b1<b2)∧b2<b4)∧b4<b5)∧b5<b6):=Lib.hid ⟨HGEnn.out,by have h1:=row_lt Rb5.out;have h2:=HNb6.out;omega⟩
            replace HB:=Lib.hid (below_step HB.out hb)
            replace Rb1:=Lib.hid ((hb.block _ (row_lt Rb1.out)).trans Rb1.out)
            replace Rb2:=Lib.hid ((hb.block _ (row_lt Rb2.out)).trans Rb2.out)
            replace Rb4:=Lib.hid ((hb.block _ (row_lt Rb4.out)).trans Rb4.out)
            replace Rb5:=Lib.hid ((hb.block _ (row_lt Rb5.out)).trans Rb5.out)
            have Rb6:=Lib.hid hr
            clear hb hr
            have hbz:Below v17.heap.size v17 v18:=by rw[←HWab6.out];exact below_new _ _
            refine wpList_store_row rfl 32 (.tmp 21) (.tmp 131) rfl b6 #[.slice lo5 l2.length lc5,.int .u64 (a1:Int),.int .u64 (t2:Int),.int .u64 (KS:Int),.bool sb,.int .u64 (sv:Int),.bool mb,.int .u64 (mv:Int),.bool gb,.int .u64 (gv:Int),.int .i32 SC,.int .u64 (ZS:Int),.bool true,.int .i32 o1,.slice po5 C1.length pc5,strV [],.bool true,.int .i32 o2,.slice no5 C2.length nc5,strV [],.slice eo5 es2.length ec5,.int .u32 (f2:Int),.int .u64 (th2:Int),strV u2] rfl rfl 32 _ Rb6.out (by kernel_rfl) rfl (by simp[Value.oneCell',strV]) ?_
            obtain ⟨v19,HWbb6⟩:∃ X,Hid (v18.setRow b6 #[.slice lo5 l2.length lc5,.int .u64 (a1:Int),.int .u64 (t2:Int),.int .u64 (KS:Int),.bool sb,.int .u64 (sv:Int),.bool mb,.int .u64 (mv:Int),.bool gb,.int .u64 (gv:Int),.int .i32 SC,.int .u64 (ZS:Int),.bool true,.int .i32 o1,.slice po5 C1.length pc5,strV [],.bool true,.int .i32 o2,.slice no5 C2.length nc5,strV [],.slice eo5 es2.length ec5,.int .u32 (f2:Int),.int .u64 (th2:Int),strV u2]=X):=⟨_,Lib.hid rfl⟩
            rw[HWbb6.out]
            have hu:Upd (fun k=>k=b6) v18 v19:=by rw[←HWbb6.out];exact upd_setRow _ _ _
            have hr:v19.heap[b6]? = some (.cells #[.slice lo5 l2.length lc5,.int .u64 (a1:Int),.int .u64 (t2:Int),.int .u64 (KS:Int),.bool sb,.int .u64 (sv:Int),.bool mb,.int .u64 (mv:Int),.bool gb,.int .u64 (gv:Int),.int .i32 SC,.int .u64 (ZS:Int),.bool true,.int .i32 o1,.slice po5 C1.length pc5,strV [],.bool true,.int .i32 o2,.slice no5 C2.length nc5,strV [],.slice eo5 es2.length ec5,.int .u32 (f2:Int),.int .u64 (th2:Int),strV u2] 32 (0,0)):=by rw[←HWbb6.out];exact setRow_heap _ _ _ _ _ _ Rb6.out
            replace HB:=Lib.hid (HB.out.trans (hu.below HB.out.size (fun k _ hk=>by have hk:k=b6:=hk;have:=HGEnnn.out;omega)))
            replace Rb1:=Lib.hid ((hu.block _ (row_lt Rb1.out) (fun h=>by have h:b1=b6:=h;have:=HGEnnn.out;omega)).trans Rb1.out)
            replace Rb2:=Lib.hid ((hu.block _ (row_lt Rb2.out) (fun h=>by have h:b2=b6:=h;have:=HGEnnn.out;omega)).trans Rb2.out)
            replace Rb4:=Lib.hid ((hu.block _ (row_lt Rb4.out) (fun h=>by have h:b4=b6:=h;have:=HGEnnn.out;omega)).trans Rb4.out)
            replace Rb5:=Lib.hid ((hu.block _ (row_lt Rb5.out) (fun h=>by have h:b5=b6:=h;have:=HGEnnn.out;omega)).trans Rb5.out)
            replace Rb6:=Lib.hid (hr)
            have hbb:Below v17.heap.size v17 v19:=hbz.trans (hu.below hbz.size (fun k _ hk=>by have hk:k=b6:=hk;have:=HNb6.out;omega))
            replace HY:=Lib.hid (xpCel.upd (Upd.of_new (S:=fun _=>False) hbb) (fun _ _ h=>h) (fun _ h=>h) HY.out)
            clear hu hr hbz hbb
            replace HG:=Lib.hid (hg.out.below HB.out)
            replace HEW:=Lib.hid (HE0.out.below HB.out)
            refine wpList_plain rfl (fun K hK=>?_);go_simp;refine hK _ _ ?_;clear hK K
            cases ok1 with
            | false =>
             go_wp2_with fail
             refine (first25 v19 HG).mono ?_
             rintro E v20 ⟨rfl,hb⟩
             replace HB:=Lib.hid (below_step HB.out hb)
             replace Rb1:=Lib.hid ((hb.block _ (row_lt Rb1.out)).trans Rb1.out)
             replace Rb2:=Lib.hid ((hb.block _ (row_lt Rb2.out)).trans Rb2.out)
             replace Rb4:=Lib.hid ((hb.block _ (row_lt Rb4.out)).trans Rb4.out)
             replace Rb5:=Lib.hid ((hb.block _ (row_lt Rb5.out)).trans Rb5.out)
             replace Rb6:=Lib.hid ((hb.block _ (row_lt Rb6.out)).trans Rb6.out)
             replace HG:=Lib.hid (hg.out.below HB.out)
             replace HEW:=Lib.hid (HE0.out.below HB.out)
             clear hb
             go_wp2_with fail
             go_ret
             exact ⟨rfl,HB.out⟩
            | true =>
             cases ok2 with
             | false =>
              go_wp2_with fail
              refine (first25 v19 HG).mono ?_
              rintro E v20 ⟨rfl,hb⟩
              replace HB:=Lib.hid (below_step HB.out hb)
              replace Rb1:=Lib.hid ((hb.block _ (row_lt Rb1.out)).trans Rb1.out)
              replace Rb2:=Lib.hid ((hb.block _ (row_lt Rb2.out)).trans Rb2.out)
              replace Rb4:=Lib.hid ((hb.block _ (row_lt Rb4.out)).trans Rb4.out)
              replace Rb5:=Lib.hid ((hb.block _ (row_lt Rb5.out)).trans Rb5.out)
              replace Rb6:=Lib.hid ((hb.block _ (row_lt Rb6.out)).trans Rb6.out)
              replace HG:=Lib.hid (hg.out.below HB.out)
              replace HEW:=Lib.hid (HE0.out.below HB.out)
              clear hb
              go_wp2_with fail
              go_ret
              exact ⟨rfl,HB.out⟩
             | true =>
              have HNN:Hid (n1=pc1.sum∧n2=pc2.sum∧pc1.sum<18446744073709551616∧pc2.sum<18446744073709551616):=Lib.hid (by have h1:=HY1.out rfl;have h2:=HY2.out rfl;omega)
              have y14:v19.cell? ⟨b6,14,none⟩=some (.slice po5 C1.length pc5):=row_cell Rb6.out (j:=14) rfl
              go_upto_region 20 with fail
              refine wp_region_lit ?_
              refine wpList_plain rfl (fun K hK=>?_);go_simp;refine hK _ _ ?_;clear hK K
              refine wpList_plain rfl (fun K hK=>?_);go_simp;refine hK _ _ ?_;clear hK K
              refine wpList_step fun K hK=>?_;go_simp;refine hK _ _ ?_;clear hK K
              refine wpList_plain rfl (fun K hK=>?_);go_simp
              obtain ⟨lo5q,lc5q,po5q,pc5q,no5q,nc5q,eo5q,ec5q,hq,hk,hp,hn,he⟩:=HY.out
              simp only[List.cons.injEq,Value.slice.injEq,and_true,true_and] at hq
              obtain ⟨⟨rfl,rfl⟩,⟨rfl,rfl⟩,⟨rfl,rfl⟩,rfl,rfl⟩:=hq
              clear y14
              refine (total_any C1 po5 pc5 v19 (by have:=HCL.out;omega) HEA (Lib.hid (nats_of_rels hp))).mono ?_
              clear hk hp hn he
              rintro E v20 ⟨hb,kk,good,rfl,hy,hz⟩
              replace HB:=Lib.hid (below_step HB.out hb)
              replace Rb1:=Lib.hid ((hb.block _ (row_lt Rb1.out)).trans Rb1.out)
              replace Rb2:=Lib.hid ((hb.block _ (row_lt Rb2.out)).trans Rb2.out)
              replace Rb4:=Lib.hid ((hb.block _ (row_lt Rb4.out)).trans Rb4.out)
              replace Rb5:=Lib.hid ((hb.block _ (row_lt Rb5.out)).trans Rb5.out)
              replace Rb6:=Lib.hid ((hb.block _ (row_lt Rb6.out)).trans Rb6.out)
              replace HG:=Lib.hid (hg.out.below HB.out)
              replace HEW:=Lib.hid (HE0.out.below HB.out)
              replace HY:=Lib.hid (xpCel.upd (Upd.of_new (S:=fun _=>False) hb) (fun _ _ h=>h) (fun _ h=>h) HY.out)
              clear hb
              go_simp
              refine hK _ _ ?_;clear hK K
              iterate 5 (refine wpList_plain rfl (fun K hK=>?_);go_simp;refine hK _ _ ?_;clear hK K)
              go_upto_region 21 with fail
              refine wp_region_lit ?_
              refine wpList_plain rfl (fun K hK=>?_);go_simp
              refine (first25 v20 HG).mono ?_
              rintro E v21 ⟨rfl,hb⟩
              replace HB:=Lib.hid (below_step HB.out hb)
              replace Rb1:=Lib.hid ((hb.block _ (row_lt Rb1.out)).trans Rb1.out)
              replace Rb2:=Lib.hid ((hb.block _ (row_lt Rb2.out)).trans Rb2.out)
              replace Rb4:=Lib.hid ((hb.block _ (row_lt Rb4.out)).trans Rb4.out)
              replace Rb5:=Lib.hid ((hb.block _ (row_lt Rb5.out)).trans Rb5.out)
              replace Rb6:=Lib.hid ((hb.block _ (row_lt Rb6.out)).trans Rb6.out)
              replace HG:=Lib.hid (hg.out.below HB.out)
              replace HEW:=Lib.hid (HE0.out.below HB.out)
              replace HY:=Lib.hid (xpCel.upd (Upd.of_new (S:=fun _=>False) hb) (fun _ _ h=>h) (fun _ h=>h) HY.out)
              clear hb
              go_simp
              refine hK _ _ ?_;clear hK K
              refine wpList_plain rfl (fun K hK=>?_);go_simp;refine hK _ _ ?_;clear hK K
              by_cases hov:pc1.sum+pc2.sum<18446744073709551616
              ·
               as_aux_lemma =>
                cases good with
                | false =>
                 exfalso
                 have h1:=hz rfl
                 have h2:=HSU.out
                 omega
                | true =>
                 have hkn:kk=n1+n2:=by have h1:=hy rfl;have h2:=HSU.out;have h3:=HNN.out;omega
                 clear hy hz
                 have qn:IntKind.u64.wrap ((n1:Int)+(n2:Int))=(kk:Int):=(IntWalk.u64_in _ (by have:=HNN.out;omega)).trans (by omega)
                 have dl1:decide ((kk:Int)<(n1:Int))=false:=decide_eq_false (by omega)
                 have dl2:decide (kk<n1)=false:=decide_eq_false (by omega)
                 replace hkn:=Lib.hid hkn
                 replace hov:=Lib.hid hov
                 have dm1:decide ((C1.length:Int)≤most)=true:=decide_eq_true HCL.out.1
                 have dm2:decide ((C2.length:Int)≤most)=true:=decide_eq_true HCL.out.2.1
                 have ds1:decide (SC≤sc1)=true:=decide_eq_true (by have:=HSC.out;omega)
                 have ds2:decide (SC≤sc2)=true:=decide_eq_true (by have:=HSC.out;omega)
                 have qk:IntKind.u64.wrap ((k1:Int)+(k2:Int))=(KS:Int):=(IntWalk.u64_in _ (by have:=HKS.out;have:=HKL.out;omega)).trans (by have:=HKS.out;omega)
                 have y14:v21.cell? ⟨b6,14,none⟩=some (.slice po5 C1.length pc5):=row_cell Rb6.out (j:=14) rfl
                 refine Bx.out ?_
                 iterate 24 ((first|refine wpList_plainG rfl (fun K hK=>?_)|refine wpList_yesG rfl rfl rfl rfl (fun K hK=>?_)|refine wpList_noG rfl rfl rfl rfl rfl (fun K hK=>?_)|refine wpList_unG (v:=undef) rfl rfl rfl rfl (fun c h=>by simp[undef] at h) (fun K hK=>?_));go_simp;refine hK _ _ ?_;clear hK K)
                 clear y14
                 have y18:v21.cell? ⟨b6,18,none⟩=some (.slice no5 C2.length nc5):=row_cell Rb6.out (j:=18) rfl
                 iterate 8 ((first|refine wpList_plainG rfl (fun K hK=>?_)|refine wpList_yesG rfl rfl rfl rfl (fun K hK=>?_)|refine wpList_noG rfl rfl rfl rfl rfl (fun K hK=>?_)|refine wpList_unG (v:=undef) rfl rfl rfl rfl (fun c h=>by simp[undef] at h) (fun K hK=>?_));go_simp;refine hK _ _ ?_;clear hK K)
                 clear y18
                 have y13:v21.cell? ⟨b6,13,none⟩=some (.int .i32 o1):=row_cell Rb6.out (j:=13) rfl
                 have y14:v21.cell? ⟨b6,14,none⟩=some (.slice po5 C1.length pc5):=row_cell Rb6.out (j:=14) rfl
                 have y15:v21.cell? ⟨b6,15,none⟩=some (strV []):=row_cell Rb6.out (j:=15) rfl
                 iterate 3 ((first|refine wpList_plainG rfl (fun K hK=>?_)|refine wpList_yesG rfl rfl rfl rfl (fun K hK=>?_)|refine wpList_noG rfl rfl rfl rfl rfl (fun K hK=>?_)|refine wpList_unG (v:=undef) rfl rfl rfl rfl (fun c h=>by simp[undef] at h) (fun K hK=>?_));go_simp;refine hK _ _ ?_;clear hK K)
                 refine wpList_yesG rfl rfl rfl rfl (fun K hK=>?_);go_simp
                 obtain ⟨lo5q,lc5q,po5q,pc5q,no5q,nc5q,eo5q,ec5q,hq,hk,hp,hn,he⟩:=HY.out
                 simp only[List.cons.injEq,Value.slice.injEq,and_true,true_and] at hq
                 obtain ⟨⟨rfl,rfl⟩,⟨rfl,rfl⟩,⟨rfl,rfl⟩,rfl,rfl⟩:=hq
                 refine (tight_any o1 C1 po5 pc5 ⟨#[]⟩ v21 HTG.out.1 (by have:=HCL.out;omega) (Lib.hid (nats_of_rels hp))).mono ?_
                 rintro E v22 ⟨rfl,hb⟩
                 clear hk hp hn he y13 y14 y15
                 replace HB:=Lib.hid (below_step HB.out hb)
                 replace Rb1:=Lib.hid ((hb.block _ (row_lt Rb1.out)).trans Rb1.out)
                 replace Rb2:=Lib.hid ((hb.block _ (row_lt Rb2.out)).trans Rb2.out)
                 replace Rb4:=Lib.hid ((hb.block _ (row_lt Rb4.out)).trans Rb4.out)
                 replace Rb5:=Lib.hid ((hb.block _ (row_lt Rb5.out)).trans Rb5.out)
                 replace Rb6:=Lib.hid ((hb.block _ (row_lt Rb6.out)).trans Rb6.out)
                 replace HG:=Lib.hid (hg.out.below HB.out)
                 replace HEW:=Lib.hid (HE0.out.below HB.out)
                 replace HY:=Lib.hid (xpCel.upd (Upd.of_new (S:=fun _=>False) hb) (fun _ _ h=>h) (fun _ h=>h) HY.out)
                 clear hb
                 go_simp
                 refine hK _ _ ?_;clear hK K
                 have y17:v22.cell? ⟨b6,17,none⟩=some (.int .i32 o2):=row_cell Rb6.out (j:=17) rfl
                 have y18:v22.cell? ⟨b6,18,none⟩=some (.slice no5 C2.length nc5):=row_cell Rb6.out (j:=18) rfl
                 have y19:v22.cell? ⟨b6,19,none⟩=some (strV []):=row_cell Rb6.out (j:=19) rfl
                 iterate 4 ((first|refine wpList_plainG rfl (fun K hK=>?_)|refine wpList_yesG rfl rfl rfl rfl (fun K hK=>?_)|refine wpList_noG rfl rfl rfl rfl rfl (fun K hK=>?_)|refine wpList_unG (v:=undef) rfl rfl rfl rfl (fun c h=>by simp[undef] at h) (fun K hK=>?_));go_simp;refine hK _ _ ?_;clear hK K)
                 refine wpList_yesG rfl rfl rfl rfl (fun K hK=>?_);go_simp
                 obtain ⟨lo5q,lc5q,po5q,pc5q,no5q,nc5q,eo5q,ec5q,hq,hk,hp,hn,he⟩:=HY.out
                 simp only[List.cons.injEq,Value.slice.injEq,and_true,true_and] at hq
                 obtain ⟨⟨rfl,rfl⟩,⟨rfl,rfl⟩,⟨rfl,rfl⟩,rfl,rfl⟩:=hq
                 refine (tight_any o2 C2 no5 nc5 ⟨#[]⟩ v22 HTG.out.2 (by have:=HCL.out;omega) (Lib.hid (nats_of_rels hn))).mono ?_
                 rintro E v23 ⟨rfl,hb⟩
                 clear hk hp hn he y17 y18 y19
                 replace HB:=Lib.hid (below_step HB.out hb)
                 replace Rb1:=Lib.hid ((hb.block _ (row_lt Rb1.out)).trans Rb1.out)
                 replace Rb2:=Lib.hid ((hb.block _ (row_lt Rb2.out)).trans Rb2.out)
                 replace Rb4:=Lib.hid ((hb.block _ (row_lt Rb4.out)).trans Rb4.out)
                 replace Rb5:=Lib.hid ((hb.block _ (row_lt Rb5.out)).trans Rb5.out)
                 replace Rb6:=Lib.hid ((hb.block _ (row_lt Rb6.out)).trans Rb6.out)
                 replace HG:=Lib.hid (hg.out.below HB.out)
                 replace HEW:=Lib.hid (HE0.out.below HB.out)
                 replace HY:=Lib.hid (xpCel.upd (Upd.of_new (S:=fun _=>False) hb) (fun _ _ h=>h) (fun _ h=>h) HY.out)
                 clear hb
                 go_simp
                 refine hK _ _ ?_;clear hK K
                 have y10:v23.cell? ⟨b6,10,none⟩=some (.int .i32 SC):=row_cell Rb6.out (j:=10) rfl
                 have y1:v23.cell? ⟨b6,1,none⟩=some (.int .u64 (a1:Int)):=row_cell Rb6.out (j:=1) rfl
                 have y2:v23.cell? ⟨b6,2,none⟩=some (.int .u64 (t2:Int)):=row_cell Rb6.out (j:=2) rfl
                 have y3:v23.cell? ⟨b6,3,none⟩=some (.int .u64 (KS:Int)):=row_cell Rb6.out (j:=3) rfl
                 have x10:v23.cell? ⟨b1,10,none⟩=some (.int .i32 sc1):=row_cell Rb1.out (j:=10) rfl
                 have x1:v23.cell? ⟨b1,1,none⟩=some (.int .u64 (a1:Int)):=row_cell Rb1.out (j:=1) rfl
                 have x3:v23.cell? ⟨b1,3,none⟩=some (.int .u64 (k1:Int)):=row_cell Rb1.out (j:=3) rfl
                 have z10:v23.cell? ⟨b2,10,none⟩=some (.int .i32 sc2):=row_cell Rb2.out (j:=10) rfl
                 have z2:v23.cell? ⟨b2,2,none⟩=some (.int .u64 (t2:Int)):=row_cell Rb2.out (j:=2) rfl
                 have z3:v23.cell? ⟨b2,3,none⟩=some (.int .u64 (k2:Int)):=row_cell Rb2.out (j:=3) rfl
                 iterate 39 ((first|refine wpList_plainG rfl (fun K hK=>?_)|refine wpList_yesG rfl rfl rfl rfl (fun K hK=>?_)|refine wpList_noG rfl rfl rfl rfl rfl (fun K hK=>?_)|refine wpList_unG (v:=undef) rfl rfl rfl rfl (fun c h=>by simp[undef] at h) (fun K hK=>?_));go_simp;refine hK _ _ ?_;clear hK K)
                 refine Bx.mk ?_
                 go_wp2_with fail
                 go_ret
                 exact ⟨rfl,HB.out⟩
              ·
               as_aux_lemma =>
                obtain ⟨NO,HNO⟩:∃ x:Nat,Hid (n1+n2=x+18446744073709551616):=⟨n1+n2 - 18446744073709551616,Lib.hid (by have:=HNN.out;omega)⟩
                have qn:IntKind.u64.wrap ((n1:Int)+(n2:Int))=(NO:Int):=by
                 have h1:=HNO.out
                 have h2:=HNN.out
                 have h3:n1<18446744073709551616∧n2<18446744073709551616:=by omega
                 show ((n1:Int)+(n2:Int)) % 18446744073709551616=(NO:Int)
                 omega
                have dl1:decide ((NO:Int)<(n1:Int))=true:=decide_eq_true (by have:=HNO.out;have:=HNN.out;omega)
                have dl2:decide (NO<n1)=true:=decide_eq_true (by have:=HNO.out;have:=HNN.out;omega)
                clear hy hz
                replace hov:=Lib.hid hov
                have dm1:decide ((C1.length:Int)≤most)=true:=decide_eq_true HCL.out.1
                have dm2:decide ((C2.length:Int)≤most)=true:=decide_eq_true HCL.out.2.1
                have ds1:decide (SC≤sc1)=true:=decide_eq_true (by have:=HSC.out;omega)
                have ds2:decide (SC≤sc2)=true:=decide_eq_true (by have:=HSC.out;omega)
                have qk:IntKind.u64.wrap ((k1:Int)+(k2:Int))=(KS:Int):=(IntWalk.u64_in _ (by have:=HKS.out;have:=HKL.out;omega)).trans (by have:=HKS.out;omega)
                have y14:v21.cell? ⟨b6,14,none⟩=some (.slice po5 C1.length pc5):=row_cell Rb6.out (j:=14) rfl
                refine Bx.out ?_
                iterate 24 ((first|refine wpList_plainG rfl (fun K hK=>?_)|refine wpList_yesG rfl rfl rfl rfl (fun K hK=>?_)|refine wpList_noG rfl rfl rfl rfl rfl (fun K hK=>?_)|refine wpList_unG (v:=undef) rfl rfl rfl rfl (fun c h=>by simp[undef] at h) (fun K hK=>?_));go_simp;refine hK _ _ ?_;clear hK K)
                clear y14
                have y18:v21.cell? ⟨b6,18,none⟩=some (.slice no5 C2.length nc5):=row_cell Rb6.out (j:=18) rfl
                iterate 8 ((first|refine wpList_plainG rfl (fun K hK=>?_)|refine wpList_yesG rfl rfl rfl rfl (fun K hK=>?_)|refine wpList_noG rfl rfl rfl rfl rfl (fun K hK=>?_)|refine wpList_unG (v:=undef) rfl rfl rfl rfl (fun c h=>by simp[undef] at h) (fun K hK=>?_));go_simp;refine hK _ _ ?_;clear hK K)
                clear y18
                have y13:v21.cell? ⟨b6,13,none⟩=some (.int .i32 o1):=row_cell Rb6.out (j:=13) rfl
                have y14:v21.cell? ⟨b6,14,none⟩=some (.slice po5 C1.length pc5):=row_cell Rb6.out (j:=14) rfl
                have y15:v21.cell? ⟨b6,15,none⟩=some (strV []):=row_cell Rb6.out (j:=15) rfl
                iterate 3 ((first|refine wpList_plainG rfl (fun K hK=>?_)|refine wpList_yesG rfl rfl rfl rfl (fun K hK=>?_)|refine wpList_noG rfl rfl rfl rfl rfl (fun K hK=>?_)|refine wpList_unG (v:=undef) rfl rfl rfl rfl (fun c h=>by simp[undef] at h) (fun K hK=>?_));go_simp;refine hK _ _ ?_;clear hK K)
                refine wpList_yesG rfl rfl rfl rfl (fun K hK=>?_);go_simp
                obtain ⟨lo5q,lc5q,po5q,pc5q,no5q,nc5q,eo5q,ec5q,hq,hk,hp,hn,he⟩:=HY.out
                simp only[List.cons.injEq,Value.slice.injEq,and_true,true_and] at hq
                obtain ⟨⟨rfl,rfl⟩,⟨rfl,rfl⟩,⟨rfl,rfl⟩,rfl,rfl⟩:=hq
                refine (tight_any o1 C1 po5 pc5 ⟨#[]⟩ v21 HTG.out.1 (by have:=HCL.out;omega) (Lib.hid (nats_of_rels hp))).mono ?_
                rintro E v22 ⟨rfl,hb⟩
                clear hk hp hn he y13 y14 y15
                replace HB:=Lib.hid (below_step HB.out hb)
                replace Rb1:=Lib.hid ((hb.block _ (row_lt Rb1.out)).trans Rb1.out)
                replace Rb2:=Lib.hid ((hb.block _ (row_lt Rb2.out)).trans Rb2.out)
                replace Rb4:=Lib.hid ((hb.block _ (row_lt Rb4.out)).trans Rb4.out)
                replace Rb5:=Lib.hid ((hb.block _ (row_lt Rb5.out)).trans Rb5.out)
                replace Rb6:=Lib.hid ((hb.block _ (row_lt Rb6.out)).trans Rb6.out)
                replace HG:=Lib.hid (hg.out.below HB.out)
                replace HEW:=Lib.hid (HE0.out.below HB.out)
                replace HY:=Lib.hid (xpCel.upd (Upd.of_new (S:=fun _=>False) hb) (fun _ _ h=>h) (fun _ h=>h) HY.out)
                clear hb
                go_simp
                refine hK _ _ ?_;clear hK K
                have y17:v22.cell? ⟨b6,17,none⟩=some (.int .i32 o2):=row_cell Rb6.out (j:=17) rfl
                have y18:v22.cell? ⟨b6,18,none⟩=some (.slice no5 C2.length nc5):=row_cell Rb6.out (j:=18) rfl
                have y19:v22.cell? ⟨b6,19,none⟩=some (strV []):=row_cell Rb6.out (j:=19) rfl
                iterate 4 ((first|refine wpList_plainG rfl (fun K hK=>?_)|refine wpList_yesG rfl rfl rfl rfl (fun K hK=>?_)|refine wpList_noG rfl rfl rfl rfl rfl (fun K hK=>?_)|refine wpList_unG (v:=undef) rfl rfl rfl rfl (fun c h=>by simp[undef] at h) (fun K hK=>?_));go_simp;refine hK _ _ ?_;clear hK K)
                refine wpList_yesG rfl rfl rfl rfl (fun K hK=>?_);go_simp
                obtain ⟨lo5q,lc5q,po5q,pc5q,no5q,nc5q,eo5q,ec5q,hq,hk,hp,hn,he⟩:=HY.out
                simp only[List.cons.injEq,Value.slice.injEq,and_true,true_and] at hq
                obtain ⟨⟨rfl,rfl⟩,⟨rfl,rfl⟩,⟨rfl,rfl⟩,rfl,rfl⟩:=hq
                refine (tight_any o2 C2 no5 nc5 ⟨#[]⟩ v22 HTG.out.2 (by have:=HCL.out;omega) (Lib.hid (nats_of_rels hn))).mono ?_
                rintro E v23 ⟨rfl,hb⟩
                clear hk hp hn he y17 y18 y19
                replace HB:=Lib.hid (below_step HB.out hb)
                replace Rb1:=Lib.hid ((hb.block _ (row_lt Rb1.out)).trans Rb1.out)
                replace Rb2:=Lib.hid ((hb.block _ (row_lt Rb2.out)).trans Rb2.out)
                replace Rb4:=Lib.hid ((hb.block _ (row_lt Rb4.out)).trans Rb4.out)
                replace Rb5:=Lib.hid ((hb.block _ (row_lt Rb5.out)).trans Rb5.out)
                replace Rb6:=Lib.hid ((hb.block _ (row_lt Rb6.out)).trans Rb6.out)
                replace HG:=Lib.hid (hg.out.below HB.out)
                replace HEW:=Lib.hid (HE0.out.below HB.out)
                replace HY:=Lib.hid (xpCel.upd (Upd.of_new (S:=fun _=>False) hb) (fun _ _ h=>h) (fun _ h=>h) HY.out)
                clear hb
                go_simp
                refine hK _ _ ?_;clear hK K
                have y10:v23.cell? ⟨b6,10,none⟩=some (.int .i32 SC):=row_cell Rb6.out (j:=10) rfl
                have y1:v23.cell? ⟨b6,1,none⟩=some (.int .u64 (a1:Int)):=row_cell Rb6.out (j:=1) rfl
                have y2:v23.cell? ⟨b6,2,none⟩=some (.int .u64 (t2:Int)):=row_cell Rb6.out (j:=2) rfl
                have y3:v23.cell? ⟨b6,3,none⟩=some (.int .u64 (KS:Int)):=row_cell Rb6.out (j:=3) rfl
                have x10:v23.cell? ⟨b1,10,none⟩=some (.int .i32 sc1):=row_cell Rb1.out (j:=10) rfl
                have x1:v23.cell? ⟨b1,1,none⟩=some (.int .u64 (a1:Int)):=row_cell Rb1.out (j:=1) rfl
                have x3:v23.cell? ⟨b1,3,none⟩=some (.int .u64 (k1:Int)):=row_cell Rb1.out (j:=3) rfl
                have z10:v23.cell? ⟨b2,10,none⟩=some (.int .i32 sc2):=row_cell Rb2.out (j:=10) rfl
                have z2:v23.cell? ⟨b2,2,none⟩=some (.int .u64 (t2:Int)):=row_cell Rb2.out (j:=2) rfl
                have z3:v23.cell? ⟨b2,3,none⟩=some (.int .u64 (k2:Int)):=row_cell Rb2.out (j:=3) rfl
                iterate 39 ((first|refine wpList_plainG rfl (fun K hK=>?_)|refine wpList_yesG rfl rfl rfl rfl (fun K hK=>?_)|refine wpList_noG rfl rfl rfl rfl rfl (fun K hK=>?_)|refine wpList_unG (v:=undef) rfl rfl rfl rfl (fun c h=>by simp[undef] at h) (fun K hK=>?_));go_simp;refine hK _ _ ?_;clear hK K)
                refine Bx.mk ?_
                go_wp2_with fail
                go_ret
                exact ⟨rfl,HB.out⟩
end Go.Proofs.YtoggpnfeioaidaaDoor
