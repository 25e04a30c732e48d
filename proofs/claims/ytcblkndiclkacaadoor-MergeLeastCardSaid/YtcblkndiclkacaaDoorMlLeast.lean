/-
  hyglaw25.MergeLeast.
-/
import Derived.Test.YtcblkndiclkacaaDoorMhHist
import Derived.Test.YtcblkndiclkacaaDoorFrN
import Derived.Test.YtcblkndiclkacaaDoorMgSides
import Derived.Test.YtcblkndiclkacaaDoorCkRHist
set_option maxRecDepth 1000000
set_option maxHeartbeats 16000000
namespace Go.Proofs.YtcblkndiclkacaaDoor
open Go.RowKit
def iteV (b:Bool) (v:Value):Value:=if b=true then v else undef
theorem iteV_true (v:Value):iteV true v=v:=rfl
theorem iteV_false (v:Value):iteV false v=undef:=rfl
theorem wpList_ite {P:Program} {ops:Array Oper} {Q:Exit→Act→World→Prop} {a:Act} {w:World} {rest:List Oper} {o:Oper} {b:Bool} {v:Value} (hw:Region.wanted o (yielded ops a.tmps)=b) (hv:b=true→∀ K:Act→World→Prop,K (a.put o.dst v) w→o.wp P a w K Q) (h:wpList P ops Q rest (a.put o.dst (iteV b v)) w):wpList P ops Q (o::rest) a w:=by
 refine wpList_step fun K hK=>?_
 cases b with
 | true=>rw[if_pos hw];exact hv rfl K (hK _ _ h)
 | false=>rw[if_neg (by rw[hw];decide)];exact hK _ _ h
theorem wpList_val {P:Program} {ops:Array Oper} {Q:Exit→Act→World→Prop} {a:Act} {w:World} {rest:List Oper} {o:Oper} {v:Value} (hw:Region.wanted o (yielded ops a.tmps)=true) (hv:∀ K:Act→World→Prop,K (a.put o.dst v) w→o.wp P a w K Q) (h:wpList P ops Q rest (a.put o.dst v) w):wpList P ops Q (o::rest) a w :=
 wpList_ite (b:=true) hw (fun _=>hv) h
theorem crels_two {α:Type} {C:Cel α} {w:World} {g:Nat} {T:TypeId} {fr:Nat × Nat} {x y:α} {cx cy:List Value} (hr:w.heap[g]? = some (.cells (cx++cy).toArray T fr)) (hx:C.R w (fun _=>True) x cx) (hy:C.R w (fun _=>True) y cy):CRels C w (fun _=>True) [x,y] (some ⟨g,0,none⟩):=fun j hj=>by
 have hc:∀ i (h:i<(cx++cy).length),w.cell? ⟨g,i,none⟩=some (cx++cy)[i]:=fun i h=>row_cell hr (j:=i) (by simp[List.getElem?_eq_getElem h])
 have hl:=C.len hx
 have hl2:=C.len hy
 match j,hj with
 | 0,_ =>
  refine ⟨g,0,cx,rfl,trivial,row_lt hr,fun i hi=>?_,hx⟩
  have:=hc i (by rw[List.length_append];omega)
  rw[show 0+C.size * 0+i=i by omega,this,List.getElem_append_left hi]
 | 1,_ =>
  refine ⟨g,0,cy,rfl,trivial,row_lt hr,fun i hi=>?_,hy⟩
  have:=hc (C.size+i) (by rw[List.length_append];omega)
  rw[show 0+C.size * 1+i=C.size+i by omega,this,List.getElem_append_right (by omega)]
  simp[hl]
theorem both_has (f:Nat→Nat→Nat) (a b:Bool × Nat):(bothO f a b).1=(a.1&&b.1):=by unfold bothO;split<;>simp_all
theorem both_num (f:Nat→Nat→Nat) {a b:Bool × Nat} (h:(a.1&&b.1)=true):(bothO f a b).2=f a.2 b.2:=by unfold bothO;rw[if_pos h]
theorem both_lt {f:Nat→Nat→Nat} {a b:Bool × Nat} (h:f a.2 b.2<18446744073709551616):(bothO f a b).2<18446744073709551616:=by unfold bothO;split;exact h;decide
theorem sum_sumN:∀ l:List Nat,l.sum=sumN (fun i=>l.getD i 0) l.length:=fun l=>by
 have h:∀ j,j≤l.length→(l.take j).sum=sumN (fun i=>l.getD i 0) j:=fun j=>by
  induction j with
  | zero=>intro _;simp[sumN]
  | succ j ih =>
   intro hj
   rw[sum_take (by omega),ih (by omega)]
   simp only[sumN]
   rw[List.getD_eq_getElem?_getD,List.getElem?_eq_getElem (by omega)]
   rfl
 have:=h l.length (Nat.le_refl _)
 rwa [List.take_length] at this
theorem mhsum_len (x y:List Nat):(mhSum x y).length=x.length:=by unfold mhSum;rw[List.length_map,List.length_range]
theorem mhsum_getD (x y:List Nat) {i:Nat} (hi:i<x.length):(mhSum x y).getD i 0=usum (x.getD i 0) (y.getD i 0):=by
 have h1:i<(mhSum x y).length:=by rw[mhsum_len];exact hi
 rw[List.getD_eq_getElem?_getD,List.getElem?_eq_getElem h1]
 simp[mhSum]
theorem mhOv_no {x y:List Nat} {n:Nat} (h:mhOv x y n=false) {i:Nat} (hi:i<n):x.getD i 0+y.getD i 0<18446744073709551616:=by
 unfold mhOv at h
 rw[List.any_eq_false] at h
 have:=h i (List.mem_range.2 hi)
 simp only[decide_eq_true_eq] at this
 omega
theorem usum_no {a b:Nat} (h:a+b<18446744073709551616):usum a b=a+b:=by unfold usum;omega
theorem mhsum_sum {x y:List Nat} (hl:x.length=y.length) (h:mhOv x y x.length=false):(mhSum x y).sum=x.sum+y.sum:=by
 rw[sum_sumN,sum_sumN x,sum_sumN y,mhsum_len,←hl,←sumN_add]
 exact sumN_congr fun j hj=>by rw[mhsum_getD x y hj,usum_no (mhOv_no h hj)]
theorem mhsum_each {x y:List Nat}:∀ n∈mhSum x y,n<18446744073709551616:=fun n hn=>by
 obtain ⟨i,_,rfl⟩:=List.mem_map.1 hn
 exact usum_lt _ _
theorem hist_0 {x:Hi} (h:histR x=0):histT x.1.2.2.1 x.1.2.2.2.2.1 x.1.2.2.2.2.2.1=false:=by
 obtain ⟨⟨a,⟨t,⟨k,⟨⟨ph,pn⟩,⟨nc,⟨nb,⟨es,⟨l,⟨f,⟨⟨mh,mn⟩,⟨gh,gn⟩⟩⟩⟩⟩⟩⟩⟩⟩⟩⟩,u⟩:=x
 simp only[histR] at h ⊢
 split at h
 ·cases hT:histT k nc nb with
  | false=>rfl
  | true=>rw[if_pos hT] at h;cases h
 ·rename_i hne;exact absurd h hne
theorem hist_n8 {x:Hi} (h:histT x.1.2.2.1 x.1.2.2.2.2.1 x.1.2.2.2.2.2.1=false):histR x≠8:=by
 obtain ⟨⟨a,⟨t,⟨k,⟨⟨ph,pn⟩,⟨nc,⟨nb,⟨es,⟨l,⟨f,⟨⟨mh,mn⟩,⟨gh,gn⟩⟩⟩⟩⟩⟩⟩⟩⟩⟩⟩,u⟩:=x
 simp only[histR] at h ⊢
 split
 ·rw[h]
  simp only[Bool.false_eq_true,if_false]
  repeat' split
  all_goals decide
 ·unfold pointR
  repeat' split
  all_goals decide
theorem histT_sum {k1 k2 ks:Nat} {n1 n2 nb:List Nat} (hl:n1.length=n2.length) (h1:histT k1 n1 nb=false) (h2:histT k2 n2 nb=false) (hn:0<n2.length) (hov:mhOv n1 n2 n1.length=false) (hk:ks=k1+k2):histT ks (mhSum n1 n2) nb=false:=by
 unfold histT at *
 rw[decide_eq_true (show 0<n1.length∨0<nb.length by omega),Bool.true_and] at h1
 rw[decide_eq_true (show 0<n2.length∨0<nb.length by omega),Bool.true_and] at h2
 simp only[Bool.or_eq_false_iff,decide_eq_false_iff_not,Bool.not_eq_false',decide_eq_true_eq] at h1 h2
 have e1:n1.length=nb.length+1:=by have:=h1.1;omega
 rw[mhsum_sum hl hov,mhsum_len,h1.2,h2.2,hk]
 simp[e1]
theorem lwt_ks:∀ (es:List Ex) (n:Nat),lwt exSb es≤n→∀ x∈es,ksw x.1.2.2≤n
 | [],_,_,x,h=>by cases h
 | y::es,n,h,x,hx=>by
  have hc:lwt exSb (y::es)=exSb.wt y+lwt exSb es:=by unfold lwt;rfl
  rw[hc] at h
  rcases List.mem_cons.1 hx with rfl|hx
  ·obtain ⟨⟨t,⟨⟨⟨k,m⟩,⟨a,b⟩⟩,l⟩⟩,u⟩:=x
   have h2:exSb.wt ((t,(((k,m),(a,b)),l)),u)=60+(a.length+b.length+ksw l+u.length):=rfl
   rw[h2] at h
   show ksw l≤n
   omega
  ·exact lwt_ks es n (by omega) x hx
def Row2H (p q:Nat) (cp cq:Array Value) (w':World):Prop:=w'.heap[p]? = some (.cells cp 56 (0,0))∧w'.heap[q]? = some (.cells cq 56 (0,0))
theorem least_any (a1 t1 k1:Nat) (ph1:Bool) (pn1:Nat) (nc1 nb1:List Nat) (es1:List Ex) (l1:List KV) (f1:Nat) (mh1:Bool) (mn1:Nat) (gh1:Bool) (gn1:Nat) (u1:List UInt8) (lo1:Option Addr) (lc1:Nat) (nco1:Option Addr) (ncc1:Nat) (nbo1:Option Addr) (nbc1:Nat) (eo1:Option Addr) (ec1:Nat) (a2 t2 k2:Nat) (ph2:Bool) (pn2:Nat) (nc2 nb2:List Nat) (es2:List Ex) (l2:List KV) (f2:Nat) (mh2:Bool) (mn2:Nat) (gh2:Bool) (gn2:Nat) (u2:List UInt8) (lo2:Option Addr) (lc2:Nat) (nco2:Option Addr) (ncc2:Nat) (nbo2:Option Addr) (nbc2:Nat) (eo2:Option Addr) (ec2:Nat) (P1 P2:Nat→Prop) (w:World) (hg:Hid (Glob w)) (hA1:Hid (hi_arg ((a1,(t1,(k1,((ph1,pn1),(nc1,(nb1,(es1,(l1,(f1,((mh1,mn1),(gh1,gn1))))))))))),u1))) (hA2:Hid (hi_arg ((a2,(t2,(k2,((ph2,pn2),(nc2,(nb2,(es2,(l2,(f2,((mh2,mn2),(gh2,gn2))))))))))),u2))) (hR1:Hid (hiCel.R w P1 ((a1,(t1,(k1,((ph1,pn1),(nc1,(nb1,(es1,(l1,(f1,((mh1,mn1),(gh1,gn1))))))))))),u1) [.slice lo1 l1.length lc1,.int .u64 (a1:Int),.int .u64 (t1:Int),.int .u64 (k1:Int),.bool ph1,.int .u64 (pn1:Int),.bool mh1,.int .u64 (mn1:Int),.bool gh1,.int .u64 (gn1:Int),.slice nco1 nc1.length ncc1,.slice nbo1 nb1.length nbc1,.slice eo1 es1.length ec1,.int .u32 (f1:Int),strV u1])) (hR2:Hid (hiCel.R w P2 ((a2,(t2,(k2,((ph2,pn2),(nc2,(nb2,(es2,(l2,(f2,((mh2,mn2),(gh2,gn2))))))))))),u2) [.slice lo2 l2.length lc2,.int .u64 (a2:Int),.int .u64 (t2:Int),.int .u64 (k2:Int),.bool ph2,.int .u64 (pn2:Int),.bool mh2,.int .u64 (mn2:Int),.bool gh2,.int .u64 (gn2:Int),.slice nco2 nc2.length ncc2,.slice nbo2 nb2.length nbc2,.slice eo2 es2.length ec2,.int .u32 (f2:Int),strV u2])) :
  Calls Tryd.prog 6 #[.agg #[.slice lo1 l1.length lc1,.int .u64 (a1:Int),.int .u64 (t1:Int),.int .u64 (k1:Int),.bool ph1,.int .u64 (pn1:Int),.bool mh1,.int .u64 (mn1:Int),.bool gh1,.int .u64 (gn1:Int),.slice nco1 nc1.length ncc1,.slice nbo1 nb1.length nbc1,.slice eo1 es1.length ec1,.int .u32 (f1:Int),strV u1],.agg #[.slice lo2 l2.length lc2,.int .u64 (a2:Int),.int .u64 (t2:Int),.int .u64 (k2:Int),.bool ph2,.int .u64 (pn2:Int),.bool mh2,.int .u64 (mn2:Int),.bool gh2,.int .u64 (gn2:Int),.slice nco2 nc2.length ncc2,.slice nbo2 nb2.length nbc2,.slice eo2 es2.length ec2,.int .u32 (f2:Int),strV u2]] w fun e w'=>e = .returned (.bool true)∧Below w.heap.size w w':=by
 obtain ⟨b1,HNb1⟩:∃ b,Hid (w.heap.size=b):=⟨_,Lib.hid rfl⟩
 obtain ⟨b2,HNb2⟩:∃ b,Hid (b1+1=b):=⟨_,Lib.hid rfl⟩
 obtain ⟨W_0,HW_0⟩:∃ X,Hid (w.alloc (.cells #[.slice lo1 l1.length lc1,.int .u64 (a1:Int),.int .u64 (t1:Int),.int .u64 (k1:Int),.bool ph1,.int .u64 (pn1:Int),.bool mh1,.int .u64 (mn1:Int),.bool gh1,.int .u64 (gn1:Int),.slice nco1 nc1.length ncc1,.slice nbo1 nb1.length nbc1,.slice eo1 es1.length ec1,.int .u32 (f1:Int),strV u1] 56)=X):=⟨_,Lib.hid rfl⟩
 have hbW_0:Below w.heap.size w W_0:=by rw[←HW_0.out];exact below_new _ _
 have hzW_0:W_0.heap.size=b1+1:=by rw[←HW_0.out];simp;exact HNb1.out
 have hxb1:W_0.heap[b1]? = some (.cells #[.slice lo1 l1.length lc1,.int .u64 (a1:Int),.int .u64 (t1:Int),.int .u64 (k1:Int),.bool ph1,.int .u64 (pn1:Int),.bool mh1,.int .u64 (mn1:Int),.bool gh1,.int .u64 (gn1:Int),.slice nco1 nc1.length ncc1,.slice nbo1 nb1.length nbc1,.slice eo1 es1.length ec1,.int .u32 (f1:Int),strV u1] 56 (0,0)):=by rw[←HW_0.out,←HNb1.out];exact heap_alloc_new w _
 obtain ⟨W,HW⟩:∃ X,Hid (W_0.alloc (.cells #[.slice lo2 l2.length lc2,.int .u64 (a2:Int),.int .u64 (t2:Int),.int .u64 (k2:Int),.bool ph2,.int .u64 (pn2:Int),.bool mh2,.int .u64 (mn2:Int),.bool gh2,.int .u64 (gn2:Int),.slice nco2 nc2.length ncc2,.slice nbo2 nb2.length nbc2,.slice eo2 es2.length ec2,.int .u32 (f2:Int),strV u2] 56)=X):=⟨_,Lib.hid rfl⟩
 have hbW:Below W_0.heap.size W_0 W:=by rw[←HW.out];exact below_new _ _
 have hzW:W.heap.size=b1+1+1:=by rw[←HW.out];simp;exact hzW_0
 have hxb2:W.heap[b2]? = some (.cells #[.slice lo2 l2.length lc2,.int .u64 (a2:Int),.int .u64 (t2:Int),.int .u64 (k2:Int),.bool ph2,.int .u64 (pn2:Int),.bool mh2,.int .u64 (mn2:Int),.bool gh2,.int .u64 (gn2:Int),.slice nco2 nc2.length ncc2,.slice nbo2 nb2.length nbc2,.slice eo2 es2.length ec2,.int .u32 (f2:Int),strV u2] 56 (0,0)):=by rw[←HW.out,←HNb2.out,←hzW_0];exact heap_alloc_new W_0 _
 have hxb1':=(hbW.block _ (row_lt hxb1)).trans hxb1
 have HXb1:=Lib.hid hxb1'
 have HXb2:=Lib.hid hxb2
 have HBW:Hid (Below w.heap.size w W):=Lib.hid (below_step hbW_0 hbW)
 clear hbW_0 hzW_0 hbW hzW hxb1 hxb1' hxb2
 have HGE:Hid (w.heap.size≤b1∧b1<b2):=Lib.hid ⟨by have:=HNb1.out;omega,by have:=HNb2.out;omega⟩
 have HB:=HBW
 have Rb1:=HXb1
 have Rb2:=HXb2
 clear HBW HXb1 HXb2
 have HG:=Lib.hid (hg.out.below (HB.out.mono (Nat.le_refl _)))
 go_enter Tryd.func6,Tryd.ntmps6
 go_upto_region 1 with fail
 (try rw[HW_0.out])
 (try rw[HW.out])
 rw[HNb1.out,HNb2.out]
 go_wp2_with fail
 refine (first25 W HG).mono ?_
 rintro E v1 ⟨rfl,hb⟩
 replace HB:=Lib.hid (below_step HB.out hb)
 replace Rb1:=Lib.hid ((hb.block _ (row_lt Rb1.out)).trans Rb1.out)
 replace Rb2:=Lib.hid ((hb.block _ (row_lt Rb2.out)).trans Rb2.out)
 clear hb
 go_upto_region 3 with fail
 refine wp_region_lit ?_
 refine wpList_load_mid rfl 56 (.tmp 2) rfl b1 0 rfl [.slice lo1 l1.length lc1,.int .u64 (a1:Int),.int .u64 (t1:Int),.int .u64 (k1:Int),.bool ph1,.int .u64 (pn1:Int),.bool mh1,.int .u64 (mn1:Int),.bool gh1,.int .u64 (gn1:Int),.slice nco1 nc1.length ncc1,.slice nbo1 nb1.length nbc1,.slice eo1 es1.length ec1,.int .u32 (f1:Int),strV u1] _ (range_rowf Rb1.out) Tryd.underlying56 rfl (by kernel_rfl) ?_
 refine wpList_load_mid rfl 56 (.tmp 3) rfl b2 0 rfl [.slice lo2 l2.length lc2,.int .u64 (a2:Int),.int .u64 (t2:Int),.int .u64 (k2:Int),.bool ph2,.int .u64 (pn2:Int),.bool mh2,.int .u64 (mn2:Int),.bool gh2,.int .u64 (gn2:Int),.slice nco2 nc2.length ncc2,.slice nbo2 nb2.length nbc2,.slice eo2 es2.length ec2,.int .u32 (f2:Int),strV u2] _ (range_rowf Rb2.out) Tryd.underlying56 rfl (by kernel_rfl) ?_
 refine wpList_plain rfl (fun K hK=>?_);go_simp;refine hK _ _ ?_;clear hK K
 obtain ⟨b3,HN3⟩:∃ x,Hid (v1.heap.size=x):=⟨_,Lib.hid rfl⟩
 obtain ⟨v2,HW2⟩:∃ X,Hid (v1.alloc (.cells #[.slice lo1 l1.length lc1,.int .u64 (a1:Int),.int .u64 (t1:Int),.int .u64 (k1:Int),.bool ph1,.int .u64 (pn1:Int),.bool mh1,.int .u64 (mn1:Int),.bool gh1,.int .u64 (gn1:Int),.slice nco1 nc1.length ncc1,.slice nbo1 nb1.length nbc1,.slice eo1 es1.length ec1,.int .u32 (f1:Int),strV u1,.slice lo2 l2.length lc2,.int .u64 (a2:Int),.int .u64 (t2:Int),.int .u64 (k2:Int),.bool ph2,.int .u64 (pn2:Int),.bool mh2,.int .u64 (mn2:Int),.bool gh2,.int .u64 (gn2:Int),.slice nco2 nc2.length ncc2,.slice nbo2 nb2.length nbc2,.slice eo2 es2.length ec2,.int .u32 (f2:Int),strV u2] 56)=X):=⟨_,Lib.hid rfl⟩
 rw[HW2.out,HN3.out]
 have hb:Below v1.heap.size v1 v2:=by rw[←HW2.out];exact below_new _ _
 have hr:v2.heap[b3]? = some (.cells #[.slice lo1 l1.length lc1,.int .u64 (a1:Int),.int .u64 (t1:Int),.int .u64 (k1:Int),.bool ph1,.int .u64 (pn1:Int),.bool mh1,.int .u64 (mn1:Int),.bool gh1,.int .u64 (gn1:Int),.slice nco1 nc1.length ncc1,.slice nbo1 nb1.length nbc1,.slice eo1 es1.length ec1,.int .u32 (f1:Int),strV u1,.slice lo2 l2.length lc2,.int .u64 (a2:Int),.int .u64 (t2:Int),.int .u64 (k2:Int),.bool ph2,.int .u64 (pn2:Int),.bool mh2,.int .u64 (mn2:Int),.bool gh2,.int .u64 (gn2:Int),.slice nco2 nc2.length ncc2,.slice nbo2 nb2.length nbc2,.slice eo2 es2.length ec2,.int .u32 (f2:Int),strV u2] 56 (0,0)):=by rw[←HW2.out,←HN3.out];exact heap_alloc_new v1 _
 replace HB:=Lib.hid (below_step HB.out hb)
 replace Rb1:=Lib.hid ((hb.block _ (row_lt Rb1.out)).trans Rb1.out)
 replace Rb2:=Lib.hid ((hb.block _ (row_lt Rb2.out)).trans Rb2.out)
 have HR3:=Lib.hid hr
 clear hb hr
 have HCR:Hid (CRels hiCel v2 (fun _=>True) [((a1,(t1,(k1,((ph1,pn1),(nc1,(nb1,(es1,(l1,(f1,((mh1,mn1),(gh1,gn1))))))))))),u1),((a2,(t2,(k2,((ph2,pn2),(nc2,(nb2,(es2,(l2,(f2,((mh2,mn2),(gh2,gn2))))))))))),u2)] (some ⟨b3,0,none⟩)):=Lib.hid (crels_two (cx:=[.slice lo1 l1.length lc1,.int .u64 (a1:Int),.int .u64 (t1:Int),.int .u64 (k1:Int),.bool ph1,.int .u64 (pn1:Int),.bool mh1,.int .u64 (mn1:Int),.bool gh1,.int .u64 (gn1:Int),.slice nco1 nc1.length ncc1,.slice nbo1 nb1.length nbc1,.slice eo1 es1.length ec1,.int .u32 (f1:Int),strV u1]) (cy:=[.slice lo2 l2.length lc2,.int .u64 (a2:Int),.int .u64 (t2:Int),.int .u64 (k2:Int),.bool ph2,.int .u64 (pn2:Int),.bool mh2,.int .u64 (mn2:Int),.bool gh2,.int .u64 (gn2:Int),.slice nco2 nc2.length ncc2,.slice nbo2 nb2.length nbc2,.slice eo2 es2.length ec2,.int .u32 (f2:Int),strV u2]) HR3.out (hiCel.upd (Upd.of_new (S:=fun _=>False) HB.out) (fun _ _ h=>h) (fun _ _=>trivial) hR1.out) (hiCel.upd (Upd.of_new (S:=fun _=>False) HB.out) (fun _ _ h=>h) (fun _ _=>trivial) hR2.out))
 refine wpList_plain rfl (fun K hK=>?_);go_simp
 refine (fewh_any [((a1,(t1,(k1,((ph1,pn1),(nc1,(nb1,(es1,(l1,(f1,((mh1,mn1),(gh1,gn1))))))))))),u1),((a2,(t2,(k2,((ph2,pn2),(nc2,(nb2,(es2,(l2,(f2,((mh2,mn2),(gh2,gn2))))))))))),u2)] (some ⟨b3,0,none⟩) 2 (fun _=>True) v2 (by simp) HCR (Lib.hid (fun x hx=>by simp at hx;rcases hx with rfl|rfl;exact hA1.out;exact hA2.out))).mono ?_
 rintro E v3 ⟨hb,r,rfl,hfew⟩
 replace HB:=Lib.hid (below_step HB.out hb)
 replace Rb1:=Lib.hid ((hb.block _ (row_lt Rb1.out)).trans Rb1.out)
 replace Rb2:=Lib.hid ((hb.block _ (row_lt Rb2.out)).trans Rb2.out)
 clear hb
 replace HG:=Lib.hid (hg.out.below (HB.out.mono (Nat.le_refl _)))
 go_simp
 refine hK _ _ ?_;clear hK K
 cases r with
 | false =>
  go_wp2_with fail
  refine (first25 v3 HG).mono ?_
  rintro E v4 ⟨rfl,hb⟩
  replace HB:=Lib.hid (below_step HB.out hb)
  replace Rb1:=Lib.hid ((hb.block _ (row_lt Rb1.out)).trans Rb1.out)
  replace Rb2:=Lib.hid ((hb.block _ (row_lt Rb2.out)).trans Rb2.out)
  have hbk:=Lib.hid hb
  clear hb
  replace HG:=Lib.hid (hg.out.below (HB.out.mono (Nat.le_refl _)))
  go_wp2_with fail
  go_ret
  exact ⟨rfl,HB.out⟩
 | true =>
  have HF1:Hid (60+(8 * nc1.length+8 * nb1.length+lwt exSb es1+ksw l1+u1.length)≤12000):=Lib.hid (hfew rfl ((a1,(t1,(k1,((ph1,pn1),(nc1,(nb1,(es1,(l1,(f1,((mh1,mn1),(gh1,gn1))))))))))),u1) (by simp))
  have HF2:Hid (60+(8 * nc2.length+8 * nb2.length+lwt exSb es2+ksw l2+u2.length)≤12000):=Lib.hid (hfew rfl ((a2,(t2,(k2,((ph2,pn2),(nc2,(nb2,(es2,(l2,(f2,((mh2,mn2),(gh2,gn2))))))))))),u2) (by simp))
  clear hfew
  have HL1:Hid (nc1.length≤1500∧nb1.length≤1500∧nc2.length≤1500∧nb2.length≤1500∧es2.length≤12000∧ksw l2≤12000∧es1.length≤12000∧ksw l1≤12000∧l1.length≤12000∧l2.length≤12000):=Lib.hid (by
   have h1:=HF1.out
   have h2:=HF2.out
   have h3:=lwt_len (S:=exSb) (k:=1) (fun x=>by obtain ⟨⟨t,⟨⟨⟨k,m⟩,⟨a,b⟩⟩,l⟩⟩,u⟩:=x;show 1≤60+_;omega) es1
   have h4:=lwt_len (S:=exSb) (k:=1) (fun x=>by obtain ⟨⟨t,⟨⟨⟨k,m⟩,⟨a,b⟩⟩,l⟩⟩,u⟩:=x;show 1≤60+_;omega) es2
   have h5:=fksw_len l1
   have h6:=fksw_len l2
   omega)
  have HEW:Hid (∀ x∈es2,ksw x.1.2.2≤1000000):=Lib.hid (lwt_ks es2 1000000 (by have:=HF2.out;omega))
  obtain ⟨qa1,qt1,qk1,qpn1,qec1,-,qeb1,-,-,-,-,-,-,qf1,qmn1,qgn1,-⟩:=hA1.out
  obtain ⟨qa2,qt2,qk2,qpn2,qec2,-,qeb2,-,qes2,-,qfl2,qll2,-,qf2,qmn2,qgn2,qu2⟩:=hA2.out
  have HU64:Hid (k1<2^64∧k2<2^64∧pn1<2^64∧pn2<2^64∧mn1<2^64∧mn2<2^64∧gn1<2^64∧gn2<2^64):=Lib.hid ⟨qk1,qk2,qpn1,qpn2,qmn1,qmn2,qgn1,qgn2⟩
  have HEC:Hid ((∀ n∈nc1,n<18446744073709551616)∧∀ n∈nc2,n<18446744073709551616):=Lib.hid ⟨qec1,qec2⟩
  have HQ2:=Lib.hid (And.intro qa1 (And.intro qt2 (And.intro qeb2 (And.intro qes2 (And.intro qfl2 (And.intro qll2 (And.intro qf2 qu2)))))))
  clear qa1 qt1 qk1 qpn1 qec1 qeb1 qf1 qmn1 qgn1 qa2 qt2 qk2 qpn2 qec2 qeb2 qes2 qfl2 qll2 qf2 qmn2 qgn2 qu2
  obtain ⟨lo1q,lc1q,nco1q,ncc1q,nbo1q,nbc1q,eo1q,ec1q,hq1,hk1,hn1,hm1,he1⟩:=hR1.out
  obtain ⟨lo2q,lc2q,nco2q,ncc2q,nbo2q,nbc2q,eo2q,ec2q,hq2,hk2,hn2,hm2,he2⟩:=hR2.out
  simp only[List.cons.injEq,Value.slice.injEq,and_true,true_and] at hq1 hq2
  obtain ⟨⟨rfl,rfl⟩,⟨rfl,rfl⟩,⟨rfl,rfl⟩,rfl,rfl⟩:=hq1
  obtain ⟨⟨rfl,rfl⟩,⟨rfl,rfl⟩,⟨rfl,rfl⟩,rfl,rfl⟩:=hq2
  have HN1:=Lib.hid (nats_of_rels hm1)
  have HC1:=Lib.hid (nats_of_rels hn1)
  have HN2:=Lib.hid (nats_of_rels hm2)
  have HC2:=Lib.hid (nats_of_rels hn2)
  have HK2:=Lib.hid hk2
  have HE2:=Lib.hid he2
  clear hk1 hn1 hm1 he1 hk2 hn2 hm2 he2
  go_upto_region 5 with fail
  refine wp_region_lit ?_
  refine wpList_load_mid rfl 56 (.tmp 2) rfl b1 0 rfl [.slice lo1 l1.length lc1,.int .u64 (a1:Int),.int .u64 (t1:Int),.int .u64 (k1:Int),.bool ph1,.int .u64 (pn1:Int),.bool mh1,.int .u64 (mn1:Int),.bool gh1,.int .u64 (gn1:Int),.slice nco1 nc1.length ncc1,.slice nbo1 nb1.length nbc1,.slice eo1 es1.length ec1,.int .u32 (f1:Int),strV u1] _ (range_rowf Rb1.out) Tryd.underlying56 rfl (by kernel_rfl) ?_
  refine wpList_load_mid rfl 56 (.tmp 3) rfl b2 0 rfl [.slice lo2 l2.length lc2,.int .u64 (a2:Int),.int .u64 (t2:Int),.int .u64 (k2:Int),.bool ph2,.int .u64 (pn2:Int),.bool mh2,.int .u64 (mn2:Int),.bool gh2,.int .u64 (gn2:Int),.slice nco2 nc2.length ncc2,.slice nbo2 nb2.length nbc2,.slice eo2 es2.length ec2,.int .u32 (f2:Int),strV u2] _ (range_rowf Rb2.out) Tryd.underlying56 rfl (by kernel_rfl) ?_
  refine wpList_plain rfl (fun K hKK=>?_);go_simp
  refine (mhist_any a1 t1 k1 ph1 pn1 nc1 nb1 es1 l1 f1 mh1 mn1 gh1 gn1 u1 lo1 lc1 nco1 ncc1 nbo1 nbc1 eo1 ec1 a2 t2 k2 ph2 pn2 nc2 nb2 es2 l2 f2 mh2 mn2 gh2 gn2 u2 lo2 lc2 nco2 ncc2 nbo2 nbc2 eo2 ec2 P2 v3 (Lib.hid (HN1.out.below HB.out)) (Lib.hid (HC1.out.below HB.out)) (Lib.hid (HN2.out.below HB.out)) (Lib.hid (HC2.out.below HB.out)) (Lib.hid (HK2.out.below HB.out)) (Lib.hid (HE2.out.below HB.out)) (by have:=HL1.out;omega) (by have:=HL1.out;omega) (by have:=HL1.out;omega) (by have:=HL1.out;omega) (by have:=HL1.out;omega) (by have:=HL1.out;omega) HEW HU64 HEC).mono ?_
  rintro E v4 ⟨hb,m1,m2,m3⟩
  replace HB:=Lib.hid (below_step HB.out hb)
  replace Rb1:=Lib.hid ((hb.block _ (row_lt Rb1.out)).trans Rb1.out)
  replace Rb2:=Lib.hid ((hb.block _ (row_lt Rb2.out)).trans Rb2.out)
  have HV4:=Lib.hid hb.size
  clear hb
  replace HG:=Lib.hid (hg.out.below (HB.out.mono (Nat.le_refl _)))
  obtain ⟨lk,HLK⟩:∃ r,Hid (MhIn.like ⟨k1,k2,nc1,nc2,nb1,nb2⟩=r):=⟨_,Lib.hid rfl⟩
  obtain ⟨ov,HOV⟩:∃ r,Hid (MhIn.over ⟨k1,k2,nc1,nc2,nb1,nb2⟩=r):=⟨_,Lib.hid rfl⟩
  rw[HLK.out] at m1 m2 m3
  rw[HOV.out] at m2 m3
  cases lk with
  | false =>
   obtain ⟨T,v,rfl,hv⟩:=m1 rfl
   have HV:=Lib.hid hv
   clear hv m1 m2 m3
   go_simp
   refine hKK _ _ ?_;clear hKK K
   refine wpList_plain rfl (fun K hK=>?_);go_simp;refine hK _ _ ?_;clear hK K
   refine wpList_plain rfl (fun K hK=>?_);go_simp;refine hK _ _ ?_;clear hK K
   refine wpList_plain rfl (fun K hK=>?_);go_simp;refine hK _ _ ?_;clear hK K
   refine wpList_plain rfl (fun K hK=>?_);go_simp;refine hK _ _ ?_;clear hK K
   obtain ⟨b5,HN5⟩:∃ x,Hid (v4.heap.size=x):=⟨_,Lib.hid rfl⟩
   obtain ⟨v5,HW5⟩:∃ X,Hid (v4.alloc (.cells #[.slice none 0 0,.int .u64 0,.int .u64 0,.int .u64 0,.bool false,.int .u64 0,.bool false,.int .u64 0,.bool false,.int .u64 0,.slice none 0 0,.slice none 0 0,.slice none 0 0,.int .u32 0,.string ⟨#[]⟩] 56)=X):=⟨_,Lib.hid rfl⟩
   rw[HW5.out,HN5.out]
   have hb:Below v4.heap.size v4 v5:=by rw[←HW5.out];exact below_new _ _
   have hr:v5.heap[b5]? = some (.cells #[.slice none 0 0,.int .u64 0,.int .u64 0,.int .u64 0,.bool false,.int .u64 0,.bool false,.int .u64 0,.bool false,.int .u64 0,.slice none 0 0,.slice none 0 0,.slice none 0 0,.int .u32 0,.string ⟨#[]⟩] 56 (0,0)):=by rw[←HW5.out,←HN5.out];exact heap_alloc_new v4 _
   have HGEn:Hid ((w.heap.size≤b1∧b1<b2)∧b2<b5):=Lib.hid ⟨HGE.out,by have h1:=row_lt Rb2.out;have h2:=HN5.out;omega⟩
   replace HB:=Lib.hid (below_step HB.out hb)
   replace Rb1:=Lib.hid ((hb.block _ (row_lt Rb1.out)).trans Rb1.out)
   replace Rb2:=Lib.hid ((hb.block _ (row_lt Rb2.out)).trans Rb2.out)
   have Rb5:=Lib.hid hr
   clear hb hr
   have hbz:Below v4.heap.size v4 v5:=by rw[←HW5.out];exact below_new _ _
   replace HV:=Lib.hid (HV.out.below hbz)
   clear hbz
   refine wpList_store_row rfl 56 (.tmp 5) (.tmp 21) rfl b5 #[.slice none 0 0,.int .u64 0,.int .u64 0,.int .u64 0,.bool false,.int .u64 0,.bool false,.int .u64 0,.bool false,.int .u64 0,.slice none 0 0,.slice none 0 0,.slice none 0 0,.int .u32 0,.string ⟨#[]⟩] rfl rfl 56 _ Rb5.out (by kernel_rfl) rfl (by simp[Value.oneCell']) ?_
   obtain ⟨v6,HW6⟩:∃ X,Hid (v5.setRow b5 #[.slice none 0 0,.int .u64 0,.int .u64 0,.int .u64 0,.bool false,.int .u64 0,.bool false,.int .u64 0,.bool false,.int .u64 0,.slice none 0 0,.slice none 0 0,.slice none 0 0,.int .u32 0,.string ⟨#[]⟩]=X):=⟨_,Lib.hid rfl⟩
   rw[HW6.out]
   have hu:Upd (fun k=>k=b5) v5 v6:=by rw[←HW6.out];exact upd_setRow _ _ _
   have hr:v6.heap[b5]? = some (.cells #[.slice none 0 0,.int .u64 0,.int .u64 0,.int .u64 0,.bool false,.int .u64 0,.bool false,.int .u64 0,.bool false,.int .u64 0,.slice none 0 0,.slice none 0 0,.slice none 0 0,.int .u32 0,.string ⟨#[]⟩] 56 (0,0)):=by rw[←HW6.out];exact setRow_heap _ _ _ _ _ _ Rb5.out
   replace HV:=Lib.hid (ec_upd15 HV.out hu Rb5.out)
   replace HB:=Lib.hid (HB.out.trans (hu.below HB.out.size (fun k _ hk=>by have hk:k=b5:=hk;have:=HGEn.out;omega)))
   replace Rb1:=Lib.hid ((hu.block _ (row_lt Rb1.out) (fun h=>by have h:b1=b5:=h;have:=HGEn.out;omega)).trans Rb1.out)
   replace Rb2:=Lib.hid ((hu.block _ (row_lt Rb2.out) (fun h=>by have h:b2=b5:=h;have:=HGEn.out;omega)).trans Rb2.out)
   replace Rb5:=Lib.hid (hr)
   clear hu hr
   replace HG:=Lib.hid (hg.out.below (HB.out.mono (Nat.le_refl _)))
   go_upto_region 7 with fail
   obtain ⟨D,HD⟩:∃ D,Hid (v6.drew=D):=⟨_,Lib.hid rfl⟩
   have hb:Below v6.heap.size v6 D:=by rw[←HD.out];exact (Below.refl _ _).drew
   replace HV:=Lib.hid (HV.out.below hb)
   replace HB:=Lib.hid (below_step HB.out hb)
   replace Rb1:=Lib.hid ((hb.block _ (row_lt Rb1.out)).trans Rb1.out)
   replace Rb2:=Lib.hid ((hb.block _ (row_lt Rb2.out)).trans Rb2.out)
   replace Rb5:=Lib.hid ((hb.block _ (row_lt Rb5.out)).trans Rb5.out)
   clear hb
   replace HG:=Lib.hid (hg.out.below (HB.out.mono (Nat.le_refl _)))
   have hne:Nonempty {w':World // Row2H b1 b2 #[.slice lo1 l1.length lc1,.int .u64 (a1:Int),.int .u64 (t1:Int),.int .u64 (k1:Int),.bool ph1,.int .u64 (pn1:Int),.bool mh1,.int .u64 (mn1:Int),.bool gh1,.int .u64 (gn1:Int),.slice nco1 nc1.length ncc1,.slice nbo1 nb1.length nbc1,.slice eo1 es1.length ec1,.int .u32 (f1:Int),strV u1] #[.slice lo2 l2.length lc2,.int .u64 (a2:Int),.int .u64 (t2:Int),.int .u64 (k2:Int),.bool ph2,.int .u64 (pn2:Int),.bool mh2,.int .u64 (mn2:Int),.bool gh2,.int .u64 (gn2:Int),.slice nco2 nc2.length ncc2,.slice nbo2 nb2.length nbc2,.slice eo2 es2.length ec2,.int .u32 (f2:Int),strV u2] w'}:=⟨⟨_,Rb1.out,Rb2.out⟩⟩
   have i1:∀ s:{w':World // Row2H b1 b2 #[.slice lo1 l1.length lc1,.int .u64 (a1:Int),.int .u64 (t1:Int),.int .u64 (k1:Int),.bool ph1,.int .u64 (pn1:Int),.bool mh1,.int .u64 (mn1:Int),.bool gh1,.int .u64 (gn1:Int),.slice nco1 nc1.length ncc1,.slice nbo1 nb1.length nbc1,.slice eo1 es1.length ec1,.int .u32 (f1:Int),strV u1] #[.slice lo2 l2.length lc2,.int .u64 (a2:Int),.int .u64 (t2:Int),.int .u64 (k2:Int),.bool ph2,.int .u64 (pn2:Int),.bool mh2,.int .u64 (mn2:Int),.bool gh2,.int .u64 (gn2:Int),.slice nco2 nc2.length ncc2,.slice nbo2 nb2.length nbc2,.slice eo2 es2.length ec2,.int .u32 (f2:Int),strV u2] w'},s.1.cell? ⟨b1,11,none⟩=some (.slice nbo1 nb1.length nbc1):=fun s=>row_cell s.2.1 (j:=11) rfl
   have i2:∀ s:{w':World // Row2H b1 b2 #[.slice lo1 l1.length lc1,.int .u64 (a1:Int),.int .u64 (t1:Int),.int .u64 (k1:Int),.bool ph1,.int .u64 (pn1:Int),.bool mh1,.int .u64 (mn1:Int),.bool gh1,.int .u64 (gn1:Int),.slice nco1 nc1.length ncc1,.slice nbo1 nb1.length nbc1,.slice eo1 es1.length ec1,.int .u32 (f1:Int),strV u1] #[.slice lo2 l2.length lc2,.int .u64 (a2:Int),.int .u64 (t2:Int),.int .u64 (k2:Int),.bool ph2,.int .u64 (pn2:Int),.bool mh2,.int .u64 (mn2:Int),.bool gh2,.int .u64 (gn2:Int),.slice nco2 nc2.length ncc2,.slice nbo2 nb2.length nbc2,.slice eo2 es2.length ec2,.int .u32 (f2:Int),strV u2] w'},s.1.cell? ⟨b1,10,none⟩=some (.slice nco1 nc1.length ncc1):=fun s=>row_cell s.2.1 (j:=10) rfl
   have i3:∀ s:{w':World // Row2H b1 b2 #[.slice lo1 l1.length lc1,.int .u64 (a1:Int),.int .u64 (t1:Int),.int .u64 (k1:Int),.bool ph1,.int .u64 (pn1:Int),.bool mh1,.int .u64 (mn1:Int),.bool gh1,.int .u64 (gn1:Int),.slice nco1 nc1.length ncc1,.slice nbo1 nb1.length nbc1,.slice eo1 es1.length ec1,.int .u32 (f1:Int),strV u1] #[.slice lo2 l2.length lc2,.int .u64 (a2:Int),.int .u64 (t2:Int),.int .u64 (k2:Int),.bool ph2,.int .u64 (pn2:Int),.bool mh2,.int .u64 (mn2:Int),.bool gh2,.int .u64 (gn2:Int),.slice nco2 nc2.length ncc2,.slice nbo2 nb2.length nbc2,.slice eo2 es2.length ec2,.int .u32 (f2:Int),strV u2] w'},s.1.cell? ⟨b2,11,none⟩=some (.slice nbo2 nb2.length nbc2):=fun s=>row_cell s.2.2 (j:=11) rfl
   have i4:∀ s:{w':World // Row2H b1 b2 #[.slice lo1 l1.length lc1,.int .u64 (a1:Int),.int .u64 (t1:Int),.int .u64 (k1:Int),.bool ph1,.int .u64 (pn1:Int),.bool mh1,.int .u64 (mn1:Int),.bool gh1,.int .u64 (gn1:Int),.slice nco1 nc1.length ncc1,.slice nbo1 nb1.length nbc1,.slice eo1 es1.length ec1,.int .u32 (f1:Int),strV u1] #[.slice lo2 l2.length lc2,.int .u64 (a2:Int),.int .u64 (t2:Int),.int .u64 (k2:Int),.bool ph2,.int .u64 (pn2:Int),.bool mh2,.int .u64 (mn2:Int),.bool gh2,.int .u64 (gn2:Int),.slice nco2 nc2.length ncc2,.slice nbo2 nb2.length nbc2,.slice eo2 es2.length ec2,.int .u32 (f2:Int),strV u2] w'},s.1.cell? ⟨b2,10,none⟩=some (.slice nco2 nc2.length ncc2):=fun s=>row_cell s.2.2 (j:=10) rfl
   refine wp_region_seq (S:=Row2H b1 b2 #[.slice lo1 l1.length lc1,.int .u64 (a1:Int),.int .u64 (t1:Int),.int .u64 (k1:Int),.bool ph1,.int .u64 (pn1:Int),.bool mh1,.int .u64 (mn1:Int),.bool gh1,.int .u64 (gn1:Int),.slice nco1 nc1.length ncc1,.slice nbo1 nb1.length nbc1,.slice eo1 es1.length ec1,.int .u32 (f1:Int),strV u1] #[.slice lo2 l2.length lc2,.int .u64 (a2:Int),.int .u64 (t2:Int),.int .u64 (k2:Int),.bool ph2,.int .u64 (pn2:Int),.bool mh2,.int .u64 (mn2:Int),.bool gh2,.int .u64 (gn2:Int),.slice nco2 nc2.length ncc2,.slice nbo2 nb2.length nbc2,.slice eo2 es2.length ec2,.int .u32 (f2:Int),strV u2]) [(0,false),(1,true),(2,true),(5,true),(6,true),(7,true),(8,true),(3,false),(4,true),(9,false),(10,true),(11,true),(12,true),(13,true),(14,true),(15,true),(16,true),(17,true),(18,true),(19,true),(20,true),(21,true),(22,true)] (by kernel_rfl) (by kernel_rfl) (by kernel_rfl) (by kernel_rfl) (by rw[HD.out];exact ⟨Rb1.out,Rb2.out⟩) ?_
   rw[HD.out]
   refine seq_come _ rfl (fun KC hK=>?_);go_simp
   refine (first25 D HG).mono ?_
   rintro E d1 ⟨rfl,hb⟩
   replace HV:=Lib.hid (HV.out.below hb)
   replace HB:=Lib.hid (below_step HB.out hb)
   replace Rb1:=Lib.hid ((hb.block _ (row_lt Rb1.out)).trans Rb1.out)
   replace Rb2:=Lib.hid ((hb.block _ (row_lt Rb2.out)).trans Rb2.out)
   replace Rb5:=Lib.hid ((hb.block _ (row_lt Rb5.out)).trans Rb5.out)
   clear hb
   replace HG:=Lib.hid (hg.out.below (HB.out.mono (Nat.le_refl _)))
   go_simp
   refine hK.out _ _ ⟨Rb1.out,Rb2.out⟩ ?_;clear hK KC
   iterate 6 (refine seq_take _ rfl (fun KC hK=>?_);go_simp;(first|refine hK _ ?_|refine ⟨_,fun _ _=>rfl,hK _ ?_⟩);clear hK KC)
   refine seq_come _ rfl (fun KC hK=>?_);go_simp
   refine (codev_any (.inr HV.out) HG.out).mono ?_
   rintro E d2 ⟨rfl,hb⟩
   replace HB:=Lib.hid (below_step HB.out hb)
   replace Rb1:=Lib.hid ((hb.block _ (row_lt Rb1.out)).trans Rb1.out)
   replace Rb2:=Lib.hid ((hb.block _ (row_lt Rb2.out)).trans Rb2.out)
   replace Rb5:=Lib.hid ((hb.block _ (row_lt Rb5.out)).trans Rb5.out)
   clear hb
   go_simp
   refine hK.out _ _ ⟨Rb1.out,Rb2.out⟩ ?_;clear hK KC
   refine seq_take _ rfl (fun KC hK=>?_);go_simp;(first|refine hK _ ?_|refine ⟨_,fun _ _=>rfl,hK _ ?_⟩);clear hK KC
   obtain ⟨q,HQ⟩:∃ q,Hid (decide (nb1=nb2)=q):=⟨_,Lib.hid rfl⟩
   refine seq_come _ rfl (fun KC hK=>?_);go_simp
   refine (nums_any nbo1 nbo2 nbc1 nbc2 nb1 nb2 d2 (Lib.hid (HN1.out.below HB.out)) (Lib.hid (HN2.out.below HB.out)) (by have:=HL1.out;omega) HQ).mono ?_
   rintro E d3 ⟨rfl,hb⟩
   replace HB:=Lib.hid (below_step HB.out hb)
   replace Rb1:=Lib.hid ((hb.block _ (row_lt Rb1.out)).trans Rb1.out)
   replace Rb2:=Lib.hid ((hb.block _ (row_lt Rb2.out)).trans Rb2.out)
   replace Rb5:=Lib.hid ((hb.block _ (row_lt Rb5.out)).trans Rb5.out)
   clear hb
   go_simp
   refine hK.out _ _ ⟨Rb1.out,Rb2.out⟩ ?_;clear hK KC
   have HLL:Hid (decide (nb1=nb2∧nc1.length=nc2.length)=false):=HLK
   cases q with
   | false =>
    
    iterate 13 (refine seq_take _ rfl (fun KC hK=>?_);go_simp;(first|refine hK _ ?_|refine ⟨_,fun _ _=>rfl,hK _ ?_⟩);clear hK KC)
    refine seq_done ?_
    clear i1 i2 i3 i4 hne
    go_wp2_with fail
    go_ret
    exact ⟨rfl,HB.out⟩
   | true =>
    have d1:((nc1.length:Int) != (nc2.length:Int))=true:=by
     rw[bne_iff_ne];intro h
     exact absurd (show nb1=nb2∧nc1.length=nc2.length from ⟨of_decide_eq_true HQ.out,by omega⟩) (of_decide_eq_false HLL.out)
    iterate 13 (refine seq_take _ rfl (fun KC hK=>?_);go_simp;(first|refine hK _ ?_|refine ⟨_,fun _ _=>rfl,hK _ ?_⟩);clear hK KC)
    refine seq_done ?_
    clear i1 i2 i3 i4 hne
    go_wp2_with fail
    go_ret
    exact ⟨rfl,HB.out⟩
  | true =>
   cases ov with
   | true =>
    obtain ⟨T,v,rfl,hv⟩:=m2 rfl rfl
    have HV:=Lib.hid hv
    clear hv m1 m2 m3
    go_simp
    refine hKK _ _ ?_;clear hKK K
    refine wpList_plain rfl (fun K hK=>?_);go_simp;refine hK _ _ ?_;clear hK K
    refine wpList_plain rfl (fun K hK=>?_);go_simp;refine hK _ _ ?_;clear hK K
    refine wpList_plain rfl (fun K hK=>?_);go_simp;refine hK _ _ ?_;clear hK K
    refine wpList_plain rfl (fun K hK=>?_);go_simp;refine hK _ _ ?_;clear hK K
    obtain ⟨b5,HN5⟩:∃ x,Hid (v4.heap.size=x):=⟨_,Lib.hid rfl⟩
    obtain ⟨v5,HW5⟩:∃ X,Hid (v4.alloc (.cells #[.slice none 0 0,.int .u64 0,.int .u64 0,.int .u64 0,.bool false,.int .u64 0,.bool false,.int .u64 0,.bool false,.int .u64 0,.slice none 0 0,.slice none 0 0,.slice none 0 0,.int .u32 0,.string ⟨#[]⟩] 56)=X):=⟨_,Lib.hid rfl⟩
    rw[HW5.out,HN5.out]
    have hb:Below v4.heap.size v4 v5:=by rw[←HW5.out];exact below_new _ _
    have hr:v5.heap[b5]? = some (.cells #[.slice none 0 0,.int .u64 0,.int .u64 0,.int .u64 0,.bool false,.int .u64 0,.bool false,.int .u64 0,.bool false,.int .u64 0,.slice none 0 0,.slice none 0 0,.slice none 0 0,.int .u32 0,.string ⟨#[]⟩] 56 (0,0)):=by rw[←HW5.out,←HN5.out];exact heap_alloc_new v4 _
    have HGEn:Hid ((w.heap.size≤b1∧b1<b2)∧b2<b5):=Lib.hid ⟨HGE.out,by have h1:=row_lt Rb2.out;have h2:=HN5.out;omega⟩
    replace HB:=Lib.hid (below_step HB.out hb)
    replace Rb1:=Lib.hid ((hb.block _ (row_lt Rb1.out)).trans Rb1.out)
    replace Rb2:=Lib.hid ((hb.block _ (row_lt Rb2.out)).trans Rb2.out)
    have Rb5:=Lib.hid hr
    clear hb hr
    have hbz:Below v4.heap.size v4 v5:=by rw[←HW5.out];exact below_new _ _
    replace HV:=Lib.hid (HV.out.below hbz)
    clear hbz
    refine wpList_store_row rfl 56 (.tmp 5) (.tmp 21) rfl b5 #[.slice none 0 0,.int .u64 0,.int .u64 0,.int .u64 0,.bool false,.int .u64 0,.bool false,.int .u64 0,.bool false,.int .u64 0,.slice none 0 0,.slice none 0 0,.slice none 0 0,.int .u32 0,.string ⟨#[]⟩] rfl rfl 56 _ Rb5.out (by kernel_rfl) rfl (by simp[Value.oneCell']) ?_
    obtain ⟨v6,HW6⟩:∃ X,Hid (v5.setRow b5 #[.slice none 0 0,.int .u64 0,.int .u64 0,.int .u64 0,.bool false,.int .u64 0,.bool false,.int .u64 0,.bool false,.int .u64 0,.slice none 0 0,.slice none 0 0,.slice none 0 0,.int .u32 0,.string ⟨#[]⟩]=X):=⟨_,Lib.hid rfl⟩
    rw[HW6.out]
    have hu:Upd (fun k=>k=b5) v5 v6:=by rw[←HW6.out];exact upd_setRow _ _ _
    have hr:v6.heap[b5]? = some (.cells #[.slice none 0 0,.int .u64 0,.int .u64 0,.int .u64 0,.bool false,.int .u64 0,.bool false,.int .u64 0,.bool false,.int .u64 0,.slice none 0 0,.slice none 0 0,.slice none 0 0,.int .u32 0,.string ⟨#[]⟩] 56 (0,0)):=by rw[←HW6.out];exact setRow_heap _ _ _ _ _ _ Rb5.out
    replace HV:=Lib.hid (ec_upd15 HV.out hu Rb5.out)
    replace HB:=Lib.hid (HB.out.trans (hu.below HB.out.size (fun k _ hk=>by have hk:k=b5:=hk;have:=HGEn.out;omega)))
    replace Rb1:=Lib.hid ((hu.block _ (row_lt Rb1.out) (fun h=>by have h:b1=b5:=h;have:=HGEn.out;omega)).trans Rb1.out)
    replace Rb2:=Lib.hid ((hu.block _ (row_lt Rb2.out) (fun h=>by have h:b2=b5:=h;have:=HGEn.out;omega)).trans Rb2.out)
    replace Rb5:=Lib.hid (hr)
    clear hu hr
    replace HG:=Lib.hid (hg.out.below (HB.out.mono (Nat.le_refl _)))
    go_upto_region 7 with fail
    obtain ⟨D,HD⟩:∃ D,Hid (v6.drew=D):=⟨_,Lib.hid rfl⟩
    have hb:Below v6.heap.size v6 D:=by rw[←HD.out];exact (Below.refl _ _).drew
    replace HV:=Lib.hid (HV.out.below hb)
    replace HB:=Lib.hid (below_step HB.out hb)
    replace Rb1:=Lib.hid ((hb.block _ (row_lt Rb1.out)).trans Rb1.out)
    replace Rb2:=Lib.hid ((hb.block _ (row_lt Rb2.out)).trans Rb2.out)
    replace Rb5:=Lib.hid ((hb.block _ (row_lt Rb5.out)).trans Rb5.out)
    clear hb
    replace HG:=Lib.hid (hg.out.below (HB.out.mono (Nat.le_refl _)))
    have hne:Nonempty {w':World // Row2H b1 b2 #[.slice lo1 l1.length lc1,.int .u64 (a1:Int),.int .u64 (t1:Int),.int .u64 (k1:Int),.bool ph1,.int .u64 (pn1:Int),.bool mh1,.int .u64 (mn1:Int),.bool gh1,.int .u64 (gn1:Int),.slice nco1 nc1.length ncc1,.slice nbo1 nb1.length nbc1,.slice eo1 es1.length ec1,.int .u32 (f1:Int),strV u1] #[.slice lo2 l2.length lc2,.int .u64 (a2:Int),.int .u64 (t2:Int),.int .u64 (k2:Int),.bool ph2,.int .u64 (pn2:Int),.bool mh2,.int .u64 (mn2:Int),.bool gh2,.int .u64 (gn2:Int),.slice nco2 nc2.length ncc2,.slice nbo2 nb2.length nbc2,.slice eo2 es2.length ec2,.int .u32 (f2:Int),strV u2] w'}:=⟨⟨_,Rb1.out,Rb2.out⟩⟩
    have i1:∀ s:{w':World // Row2H b1 b2 #[.slice lo1 l1.length lc1,.int .u64 (a1:Int),.int .u64 (t1:Int),.int .u64 (k1:Int),.bool ph1,.int .u64 (pn1:Int),.bool mh1,.int .u64 (mn1:Int),.bool gh1,.int .u64 (gn1:Int),.slice nco1 nc1.length ncc1,.slice nbo1 nb1.length nbc1,.slice eo1 es1.length ec1,.int .u32 (f1:Int),strV u1] #[.slice lo2 l2.length lc2,.int .u64 (a2:Int),.int .u64 (t2:Int),.int .u64 (k2:Int),.bool ph2,.int .u64 (pn2:Int),.bool mh2,.int .u64 (mn2:Int),.bool gh2,.int .u64 (gn2:Int),.slice nco2 nc2.length ncc2,.slice nbo2 nb2.length nbc2,.slice eo2 es2.length ec2,.int .u32 (f2:Int),strV u2] w'},s.1.cell? ⟨b1,11,none⟩=some (.slice nbo1 nb1.length nbc1):=fun s=>row_cell s.2.1 (j:=11) rfl
    have i2:∀ s:{w':World // Row2H b1 b2 #[.slice lo1 l1.length lc1,.int .u64 (a1:Int),.int .u64 (t1:Int),.int .u64 (k1:Int),.bool ph1,.int .u64 (pn1:Int),.bool mh1,.int .u64 (mn1:Int),.bool gh1,.int .u64 (gn1:Int),.slice nco1 nc1.length ncc1,.slice nbo1 nb1.length nbc1,.slice eo1 es1.length ec1,.int .u32 (f1:Int),strV u1] #[.slice lo2 l2.length lc2,.int .u64 (a2:Int),.int .u64 (t2:Int),.int .u64 (k2:Int),.bool ph2,.int .u64 (pn2:Int),.bool mh2,.int .u64 (mn2:Int),.bool gh2,.int .u64 (gn2:Int),.slice nco2 nc2.length ncc2,.slice nbo2 nb2.length nbc2,.slice eo2 es2.length ec2,.int .u32 (f2:Int),strV u2] w'},s.1.cell? ⟨b1,10,none⟩=some (.slice nco1 nc1.length ncc1):=fun s=>row_cell s.2.1 (j:=10) rfl
    have i3:∀ s:{w':World // Row2H b1 b2 #[.slice lo1 l1.length lc1,.int .u64 (a1:Int),.int .u64 (t1:Int),.int .u64 (k1:Int),.bool ph1,.int .u64 (pn1:Int),.bool mh1,.int .u64 (mn1:Int),.bool gh1,.int .u64 (gn1:Int),.slice nco1 nc1.length ncc1,.slice nbo1 nb1.length nbc1,.slice eo1 es1.length ec1,.int .u32 (f1:Int),strV u1] #[.slice lo2 l2.length lc2,.int .u64 (a2:Int),.int .u64 (t2:Int),.int .u64 (k2:Int),.bool ph2,.int .u64 (pn2:Int),.bool mh2,.int .u64 (mn2:Int),.bool gh2,.int .u64 (gn2:Int),.slice nco2 nc2.length ncc2,.slice nbo2 nb2.length nbc2,.slice eo2 es2.length ec2,.int .u32 (f2:Int),strV u2] w'},s.1.cell? ⟨b2,11,none⟩=some (.slice nbo2 nb2.length nbc2):=fun s=>row_cell s.2.2 (j:=11) rfl
    have i4:∀ s:{w':World // Row2H b1 b2 #[.slice lo1 l1.length lc1,.int .u64 (a1:Int),.int .u64 (t1:Int),.int .u64 (k1:Int),.bool ph1,.int .u64 (pn1:Int),.bool mh1,.int .u64 (mn1:Int),.bool gh1,.int .u64 (gn1:Int),.slice nco1 nc1.length ncc1,.slice nbo1 nb1.length nbc1,.slice eo1 es1.length ec1,.int .u32 (f1:Int),strV u1] #[.slice lo2 l2.length lc2,.int .u64 (a2:Int),.int .u64 (t2:Int),.int .u64 (k2:Int),.bool ph2,.int .u64 (pn2:Int),.bool mh2,.int .u64 (mn2:Int),.bool gh2,.int .u64 (gn2:Int),.slice nco2 nc2.length ncc2,.slice nbo2 nb2.length nbc2,.slice eo2 es2.length ec2,.int .u32 (f2:Int),strV u2] w'},s.1.cell? ⟨b2,10,none⟩=some (.slice nco2 nc2.length ncc2):=fun s=>row_cell s.2.2 (j:=10) rfl
    refine wp_region_seq (S:=Row2H b1 b2 #[.slice lo1 l1.length lc1,.int .u64 (a1:Int),.int .u64 (t1:Int),.int .u64 (k1:Int),.bool ph1,.int .u64 (pn1:Int),.bool mh1,.int .u64 (mn1:Int),.bool gh1,.int .u64 (gn1:Int),.slice nco1 nc1.length ncc1,.slice nbo1 nb1.length nbc1,.slice eo1 es1.length ec1,.int .u32 (f1:Int),strV u1] #[.slice lo2 l2.length lc2,.int .u64 (a2:Int),.int .u64 (t2:Int),.int .u64 (k2:Int),.bool ph2,.int .u64 (pn2:Int),.bool mh2,.int .u64 (mn2:Int),.bool gh2,.int .u64 (gn2:Int),.slice nco2 nc2.length ncc2,.slice nbo2 nb2.length nbc2,.slice eo2 es2.length ec2,.int .u32 (f2:Int),strV u2]) [(0,false),(1,true),(2,true),(5,true),(6,true),(7,true),(8,true),(3,false),(4,true),(9,false),(10,true),(11,true),(12,true),(13,true),(14,true),(15,true),(16,true),(17,true),(18,true),(19,true),(20,true),(21,true),(22,true)] (by kernel_rfl) (by kernel_rfl) (by kernel_rfl) (by kernel_rfl) (by rw[HD.out];exact ⟨Rb1.out,Rb2.out⟩) ?_
    rw[HD.out]
    refine seq_come _ rfl (fun KC hK=>?_);go_simp
    refine (first25 D HG).mono ?_
    rintro E d1 ⟨rfl,hb⟩
    replace HV:=Lib.hid (HV.out.below hb)
    replace HB:=Lib.hid (below_step HB.out hb)
    replace Rb1:=Lib.hid ((hb.block _ (row_lt Rb1.out)).trans Rb1.out)
    replace Rb2:=Lib.hid ((hb.block _ (row_lt Rb2.out)).trans Rb2.out)
    replace Rb5:=Lib.hid ((hb.block _ (row_lt Rb5.out)).trans Rb5.out)
    clear hb
    replace HG:=Lib.hid (hg.out.below (HB.out.mono (Nat.le_refl _)))
    go_simp
    refine hK.out _ _ ⟨Rb1.out,Rb2.out⟩ ?_;clear hK KC
    iterate 6 (refine seq_take _ rfl (fun KC hK=>?_);go_simp;(first|refine hK _ ?_|refine ⟨_,fun _ _=>rfl,hK _ ?_⟩);clear hK KC)
    refine seq_come _ rfl (fun KC hK=>?_);go_simp
    refine (codev_any (.inr HV.out) HG.out).mono ?_
    rintro E d2 ⟨rfl,hb⟩
    replace HB:=Lib.hid (below_step HB.out hb)
    replace Rb1:=Lib.hid ((hb.block _ (row_lt Rb1.out)).trans Rb1.out)
    replace Rb2:=Lib.hid ((hb.block _ (row_lt Rb2.out)).trans Rb2.out)
    replace Rb5:=Lib.hid ((hb.block _ (row_lt Rb5.out)).trans Rb5.out)
    clear hb
    go_simp
    refine hK.out _ _ ⟨Rb1.out,Rb2.out⟩ ?_;clear hK KC
    refine seq_take _ rfl (fun KC hK=>?_);go_simp;(first|refine hK _ ?_|refine ⟨_,fun _ _=>rfl,hK _ ?_⟩);clear hK KC
    obtain ⟨q,HQ⟩:∃ q,Hid (decide (nb1=nb2)=q):=⟨_,Lib.hid rfl⟩
    refine seq_come _ rfl (fun KC hK=>?_);go_simp
    refine (nums_any nbo1 nbo2 nbc1 nbc2 nb1 nb2 d2 (Lib.hid (HN1.out.below HB.out)) (Lib.hid (HN2.out.below HB.out)) (by have:=HL1.out;omega) HQ).mono ?_
    rintro E d3 ⟨rfl,hb⟩
    replace HB:=Lib.hid (below_step HB.out hb)
    replace Rb1:=Lib.hid ((hb.block _ (row_lt Rb1.out)).trans Rb1.out)
    replace Rb2:=Lib.hid ((hb.block _ (row_lt Rb2.out)).trans Rb2.out)
    replace Rb5:=Lib.hid ((hb.block _ (row_lt Rb5.out)).trans Rb5.out)
    clear hb
    go_simp
    refine hK.out _ _ ⟨Rb1.out,Rb2.out⟩ ?_;clear hK KC
    have HLL:Hid (decide (nb1=nb2∧nc1.length=nc2.length)=true):=HLK
    obtain rfl:q=true:=HQ.out.symm.trans (decide_eq_true (of_decide_eq_true HLL.out).1)
    have d1:((nc1.length:Int) != (nc2.length:Int))=false:=by rw[bne_eq_false_iff_eq,(of_decide_eq_true HLL.out).2]
    iterate 13 (refine seq_take _ rfl (fun KC hK=>?_);go_simp;(first|refine hK _ ?_|refine ⟨_,fun _ _=>rfl,hK _ ?_⟩);clear hK KC)
    refine seq_done ?_
    clear i1 i2 i3 i4 hne
    go_wp2_with fail
    go_ret
    exact ⟨rfl,HB.out⟩
   | false =>
    obtain ⟨lo,lc,nco,ncc,nbo,nbc,eo,ec,hE,hkr,hnm,hnb,hex⟩:=m3 rfl rfl
    clear m1 m2 m3
    obtain ⟨ks,HKS⟩:∃ k,Hid (usum k1 k2=k):=⟨_,Lib.hid rfl⟩
    obtain ⟨pv,HPV⟩:∃ k,Hid ((bothO Fm.add (ph1,pn1) (ph2,pn2)).2=k):=⟨_,Lib.hid rfl⟩
    have hbp:(bothO Fm.add (ph1,pn1) (ph2,pn2)).1=(ph1&&ph2):=both_has _ _ _
    obtain ⟨mv,HMV⟩:∃ k,Hid ((bothO minF (mh1,mn1) (mh2,mn2)).2=k):=⟨_,Lib.hid rfl⟩
    have hbm:(bothO minF (mh1,mn1) (mh2,mn2)).1=(mh1&&mh2):=both_has _ _ _
    obtain ⟨gv,HGV⟩:∃ k,Hid ((bothO maxF (gh1,gn1) (gh2,gn2)).2=k):=⟨_,Lib.hid rfl⟩
    have hbg:(bothO maxF (gh1,gn1) (gh2,gn2)).1=(gh1&&gh2):=both_has _ _ _
    have hE2:E = .returned (.tuple #[.agg #[.slice lo l2.length lc,.int .u64 (a1:Int),.int .u64 (t2:Int),.int .u64 (ks:Int),.bool (ph1&&ph2),.int .u64 (pv:Int),.bool (mh1&&mh2),.int .u64 (mv:Int),.bool (gh1&&gh2),.int .u64 (gv:Int),.slice nco nc2.length ncc,.slice nbo nb2.length nbc,.slice eo es2.length ec,.int .u32 (f2:Int),strV u2],.nilIface]):=by
     rw[hE,←HKS.out,←HPV.out,←HMV.out,←HGV.out,←hbp,←hbm,←hbg]
    subst hE2
    have HKR:=Lib.hid hkr
    have HNM:=Lib.hid hnm
    have HNB:=Lib.hid hnb
    have HEX:=Lib.hid hex
    clear hE hkr hnm hnb hex hbp hbm hbg
    go_simp
    refine hKK _ _ ?_;clear hKK K
    iterate 4 (refine wpList_plain rfl (fun K hK=>?_);go_simp;refine hK _ _ ?_;clear hK K)
    obtain ⟨b5,HN5⟩:∃ x,Hid (v4.heap.size=x):=⟨_,Lib.hid rfl⟩
    obtain ⟨v5,HW5⟩:∃ X,Hid (v4.alloc (.cells #[.slice none 0 0,.int .u64 0,.int .u64 0,.int .u64 0,.bool false,.int .u64 0,.bool false,.int .u64 0,.bool false,.int .u64 0,.slice none 0 0,.slice none 0 0,.slice none 0 0,.int .u32 0,.string ⟨#[]⟩] 56)=X):=⟨_,Lib.hid rfl⟩
    rw[HW5.out,HN5.out]
    have hb:Below v4.heap.size v4 v5:=by rw[←HW5.out];exact below_new _ _
    have hr:v5.heap[b5]? = some (.cells #[.slice none 0 0,.int .u64 0,.int .u64 0,.int .u64 0,.bool false,.int .u64 0,.bool false,.int .u64 0,.bool false,.int .u64 0,.slice none 0 0,.slice none 0 0,.slice none 0 0,.int .u32 0,.string ⟨#[]⟩] 56 (0,0)):=by rw[←HW5.out,←HN5.out];exact heap_alloc_new v4 _
    have HGEn:Hid ((w.heap.size≤b1∧b1<b2)∧b2<b5):=Lib.hid ⟨HGE.out,by have h1:=row_lt Rb2.out;have h2:=HN5.out;omega⟩
    replace HB:=Lib.hid (below_step HB.out hb)
    replace Rb1:=Lib.hid ((hb.block _ (row_lt Rb1.out)).trans Rb1.out)
    replace Rb2:=Lib.hid ((hb.block _ (row_lt Rb2.out)).trans Rb2.out)
    have Rb5:=Lib.hid hr
    clear hb hr
    have hbz:Below v4.heap.size v4 v5:=by rw[←HW5.out];exact below_new _ _
    refine wpList_store_row rfl 56 (.tmp 5) (.tmp 21) rfl b5 #[.slice lo l2.length lc,.int .u64 (a1:Int),.int .u64 (t2:Int),.int .u64 (ks:Int),.bool (ph1&&ph2),.int .u64 (pv:Int),.bool (mh1&&mh2),.int .u64 (mv:Int),.bool (gh1&&gh2),.int .u64 (gv:Int),.slice nco nc2.length ncc,.slice nbo nb2.length nbc,.slice eo es2.length ec,.int .u32 (f2:Int),strV u2] rfl rfl 56 _ Rb5.out (by kernel_rfl) rfl (by simp[Value.oneCell',strV]) ?_
    obtain ⟨v6,HW6⟩:∃ X,Hid (v5.setRow b5 #[.slice lo l2.length lc,.int .u64 (a1:Int),.int .u64 (t2:Int),.int .u64 (ks:Int),.bool (ph1&&ph2),.int .u64 (pv:Int),.bool (mh1&&mh2),.int .u64 (mv:Int),.bool (gh1&&gh2),.int .u64 (gv:Int),.slice nco nc2.length ncc,.slice nbo nb2.length nbc,.slice eo es2.length ec,.int .u32 (f2:Int),strV u2]=X):=⟨_,Lib.hid rfl⟩
    rw[HW6.out]
    have hu:Upd (fun k=>k=b5) v5 v6:=by rw[←HW6.out];exact upd_setRow _ _ _
    have hr:v6.heap[b5]? = some (.cells #[.slice lo l2.length lc,.int .u64 (a1:Int),.int .u64 (t2:Int),.int .u64 (ks:Int),.bool (ph1&&ph2),.int .u64 (pv:Int),.bool (mh1&&mh2),.int .u64 (mv:Int),.bool (gh1&&gh2),.int .u64 (gv:Int),.slice nco nc2.length ncc,.slice nbo nb2.length nbc,.slice eo es2.length ec,.int .u32 (f2:Int),strV u2] 56 (0,0)):=by rw[←HW6.out];exact setRow_heap _ _ _ _ _ _ Rb5.out
    replace HB:=Lib.hid (HB.out.trans (hu.below HB.out.size (fun k _ hk=>by have hk:k=b5:=hk;have:=HGEn.out;omega)))
    replace Rb1:=Lib.hid ((hu.block _ (row_lt Rb1.out) (fun h=>by have h:b1=b5:=h;have:=HGEn.out;omega)).trans Rb1.out)
    replace Rb2:=Lib.hid ((hu.block _ (row_lt Rb2.out) (fun h=>by have h:b2=b5:=h;have:=HGEn.out;omega)).trans Rb2.out)
    replace Rb5:=Lib.hid (hr)
    have HB46:Hid (Below v4.heap.size v4 v6):=Lib.hid (hbz.trans (hu.below hbz.size (fun k _ hk=>by have hk:k=b5:=hk;have:=HN5.out;omega)))
    clear hu hr hbz
    replace HG:=Lib.hid (hg.out.below (HB.out.mono (Nat.le_refl _)))
    have HLN:Hid (nb1=nb2∧nc1.length=nc2.length):=Lib.hid (of_decide_eq_true HLK.out)
    have HOV2:Hid (k1+k2<18446744073709551616∧mhOv nc1 nc2 nc1.length=false):=Lib.hid (by
     have h:=HOV.out
     unfold MhIn.over at h
     rw[Bool.or_eq_false_iff,decide_eq_false_iff_not] at h
     have h1:¬18446744073709551616≤k1+k2:=h.1
     exact ⟨by omega,h.2⟩)
    have HKV:Hid (ks=k1+k2):=Lib.hid (by rw[←HKS.out];exact usum_no HOV2.out.1)
    go_upto_region 8 with fail
    have x3:v6.cell? ⟨b1,3,none⟩=some (.int .u64 (k1:Int)):=row_cell Rb1.out (j:=3) rfl
    have x4:v6.cell? ⟨b1,4,none⟩=some (.bool ph1):=row_cell Rb1.out (j:=4) rfl
    have x6:v6.cell? ⟨b1,6,none⟩=some (.bool mh1):=row_cell Rb1.out (j:=6) rfl
    have x8:v6.cell? ⟨b1,8,none⟩=some (.bool gh1):=row_cell Rb1.out (j:=8) rfl
    have x10:v6.cell? ⟨b1,10,none⟩=some (.slice nco1 nc1.length ncc1):=row_cell Rb1.out (j:=10) rfl
    have y3:v6.cell? ⟨b2,3,none⟩=some (.int .u64 (k2:Int)):=row_cell Rb2.out (j:=3) rfl
    have y4:v6.cell? ⟨b2,4,none⟩=some (.bool ph2):=row_cell Rb2.out (j:=4) rfl
    have y6:v6.cell? ⟨b2,6,none⟩=some (.bool mh2):=row_cell Rb2.out (j:=6) rfl
    have y8:v6.cell? ⟨b2,8,none⟩=some (.bool gh2):=row_cell Rb2.out (j:=8) rfl
    have y10:v6.cell? ⟨b2,10,none⟩=some (.slice nco2 nc2.length ncc2):=row_cell Rb2.out (j:=10) rfl
    have z3:v6.cell? ⟨b5,3,none⟩=some (.int .u64 (ks:Int)):=row_cell Rb5.out (j:=3) rfl
    have z4:v6.cell? ⟨b5,4,none⟩=some (.bool (ph1&&ph2)):=row_cell Rb5.out (j:=4) rfl
    have z6:v6.cell? ⟨b5,6,none⟩=some (.bool (mh1&&mh2)):=row_cell Rb5.out (j:=6) rfl
    have z8:v6.cell? ⟨b5,8,none⟩=some (.bool (gh1&&gh2)):=row_cell Rb5.out (j:=8) rfl
    have z10:v6.cell? ⟨b5,10,none⟩=some (.slice nco nc2.length ncc):=row_cell Rb5.out (j:=10) rfl
    have e1:decide ((ks:Int)<(k1:Int))=false:=decide_eq_false (by have:=HKV.out;omega)
    have e2:decide ((ks:Int)<(k2:Int))=false:=decide_eq_false (by have:=HKV.out;omega)
    have e3:((nc2.length:Int) != (nc1.length:Int))=false:=by rw[bne_eq_false_iff_eq];have:=HLN.out;omega
    have e4:(nc2.length != nc1.length)=false:=by rw[bne_eq_false_iff_eq];have:=HLN.out;omega
    have e7:decide (ks<k1)=false:=decide_eq_false (by have:=HKV.out;omega)
    have e8:decide (ks<k2)=false:=decide_eq_false (by have:=HKV.out;omega)
    have e9:¬ks<k1:=by have:=HKV.out;omega
    have e10:¬ks<k2:=by have:=HKV.out;omega
    have e5:k1≤ks:=by have:=HKV.out;omega
    have e6:k2≤ks:=by have:=HKV.out;omega
    refine wp_region_lit ?_
    iterate 7 (refine wpList_step fun K hK=>?_;go_simp;refine hK _ _ ?_;clear hK K)
    refine wpList_ite (b:=mh1) (v := .pointer (some ⟨b2,6,none⟩)) (by go_simp) (fun hb K hK=>by subst hb;(try simp only[iteV_true]);go_simp;exact hK) ?_
    go_simp
    refine wpList_ite (b:=mh1) (v := .pointer (some ⟨b2,6,none⟩)) (by go_simp) (fun hb K hK=>by subst hb;(try simp only[iteV_true]);go_simp;exact hK) ?_
    go_simp
    refine wpList_ite (b:=mh1) (v := .bool mh2) (by go_simp) (fun hb K hK=>by subst hb;(try simp only[iteV_true]);go_simp;exact hK) ?_
    go_simp
    refine wpList_val (v := .bool (mh1&&mh2)) (by go_simp) (fun K hK=>by cases mh1<;>(try simp only[iteV_true,iteV_false])<;>go_simp<;>exact hK) ?_
    go_simp
    iterate 9 (refine wpList_step fun K hK=>?_;go_simp;refine hK _ _ ?_;clear hK K)
    refine wpList_ite (b:=gh1) (v := .pointer (some ⟨b2,8,none⟩)) (by go_simp) (fun hb K hK=>by subst hb;(try simp only[iteV_true]);go_simp;exact hK) ?_
    go_simp
    refine wpList_ite (b:=gh1) (v := .pointer (some ⟨b2,8,none⟩)) (by go_simp) (fun hb K hK=>by subst hb;(try simp only[iteV_true]);go_simp;exact hK) ?_
    go_simp
    refine wpList_ite (b:=gh1) (v := .bool gh2) (by go_simp) (fun hb K hK=>by subst hb;(try simp only[iteV_true]);go_simp;exact hK) ?_
    go_simp
    refine wpList_val (v := .bool (gh1&&gh2)) (by go_simp) (fun K hK=>by cases gh1<;>(try simp only[iteV_true,iteV_false])<;>go_simp<;>exact hK) ?_
    go_simp
    iterate 10 (refine wpList_step fun K hK=>?_;go_simp;refine hK _ _ ?_;clear hK K)
    refine wpList_ite (b:=ph1) (v := .pointer (some ⟨b2,4,none⟩)) (by go_simp) (fun hb K hK=>by subst hb;(try simp only[iteV_true]);go_simp;exact hK) ?_
    go_simp
    refine wpList_ite (b:=ph1) (v := .pointer (some ⟨b2,4,none⟩)) (by go_simp) (fun hb K hK=>by subst hb;(try simp only[iteV_true]);go_simp;exact hK) ?_
    go_simp
    refine wpList_ite (b:=ph1) (v := .bool ph2) (by go_simp) (fun hb K hK=>by subst hb;(try simp only[iteV_true]);go_simp;exact hK) ?_
    go_simp
    refine wpList_val (v := .bool (ph1&&ph2)) (by go_simp) (fun K hK=>by cases ph1<;>(try simp only[iteV_true,iteV_false])<;>go_simp<;>exact hK) ?_
    go_simp
    iterate 34 (refine wpList_step fun K hK=>?_;go_simp;refine hK _ _ ?_;clear hK K)
    clear x3 x4 x6 x8 x10 y3 y4 y6 y8 y10 z3 z4 z6 z8 z10 e1 e2 e3 e4 e5 e6 e7 e8 e9 e10
    go_upto_region 10 with fail
    have HZL:Hid ((mhSum nc1 nc2).length=nc2.length):=Lib.hid (by rw[mhsum_len];exact HLN.out.2)
    have HNM2:=Lib.hid (HNM.out.below HB46.out)
    have HMVL:Hid (pv<18446744073709551616∧mv<18446744073709551616∧gv<18446744073709551616):=Lib.hid (by
     have h:=HU64.out
     refine ⟨?_,?_,?_⟩
     ·rw[←HPV.out];exact both_lt (Fm.add_lt (by omega) (by omega))
     ·rw[←HMV.out];exact both_lt (min_lt (by omega) (by omega))
     ·rw[←HGV.out];exact both_lt (max_lt (by omega) (by omega)))
    have HZR:Hid (hiCel.R v6 (fun k=>w.heap.size≤k∨True) ((a1,(t2,(ks,((ph1&&ph2,pv),(mhSum nc1 nc2,(nb2,(es2,(l2,(f2,((mh1&&mh2,mv),(gh1&&gh2,gv))))))))))),u2) [.slice lo l2.length lc,.int .u64 (a1:Int),.int .u64 (t2:Int),.int .u64 (ks:Int),.bool (ph1&&ph2),.int .u64 (pv:Int),.bool (mh1&&mh2),.int .u64 (mv:Int),.bool (gh1&&gh2),.int .u64 (gv:Int),.slice nco nc2.length ncc,.slice nbo nb2.length nbc,.slice eo es2.length ec,.int .u32 (f2:Int),strV u2]):=Lib.hid (by
     have hu:Upd (fun _=>False) v4 v6:=Upd.of_new HB46.out
     refine ⟨lo,lc,nco,ncc,nbo,nbc,eo,ec,by rw[HZL.out],KRels.upd hu (fun _ _ h=>h) (fun _ _ => .inr trivial) _ _ _ HKR.out,?_,CRels.upd hu (fun _ _ h=>h) (fun _ _ => .inr trivial) HNB.out,CRels.upd hu (fun _ _ h=>h) (fun _ _ => .inr trivial) HEX.out⟩
     exact rels_of_nats HNM2.out (fun _ _ _ _ => .inr trivial))
    have HZA:Hid (hi_arg ((a1,(t2,(ks,((ph1&&ph2,pv),(mhSum nc1 nc2,(nb2,(es2,(l2,(f2,((mh1&&mh2,mv),(gh1&&gh2,gv))))))))))),u2)):=Lib.hid (by
     have h:=HQ2.out
     have h2:=HMVL.out
     have h3:=HL1.out
     exact ⟨h.1,h.2.1,by have:=HKV.out;have:=HOV2.out.1;omega,h2.1,mhsum_each,by rw[HZL.out];omega,h.2.2.1,by omega,h.2.2.2.1,by omega,h.2.2.2.2.1,h.2.2.2.2.2.1,by omega,h.2.2.2.2.2.2.1,h2.2.1,h2.2.2,h.2.2.2.2.2.2.2⟩)
    obtain ⟨xm,HXM⟩:∃ x,Hid ((mh1&&mh2)=x):=⟨_,Lib.hid rfl⟩
    obtain ⟨xg,HXG⟩:∃ x,Hid ((gh1&&gh2)=x):=⟨_,Lib.hid rfl⟩
    have z6:v6.cell? ⟨b5,6,none⟩=some (.bool xm):=by rw[←HXM.out];exact row_cell Rb5.out (j:=6) rfl
    have z8:v6.cell? ⟨b5,8,none⟩=some (.bool xg):=by rw[←HXG.out];exact row_cell Rb5.out (j:=8) rfl
    have x7:v6.cell? ⟨b1,7,none⟩=some (.int .u64 (mn1:Int)):=row_cell Rb1.out (j:=7) rfl
    have x9:v6.cell? ⟨b1,9,none⟩=some (.int .u64 (gn1:Int)):=row_cell Rb1.out (j:=9) rfl
    have y7:v6.cell? ⟨b2,7,none⟩=some (.int .u64 (mn2:Int)):=row_cell Rb2.out (j:=7) rfl
    have y9:v6.cell? ⟨b2,9,none⟩=some (.int .u64 (gn2:Int)):=row_cell Rb2.out (j:=9) rfl
    have z7:v6.cell? ⟨b5,7,none⟩=some (.int .u64 (mv:Int)):=row_cell Rb5.out (j:=7) rfl
    have z9:v6.cell? ⟨b5,9,none⟩=some (.int .u64 (gv:Int)):=row_cell Rb5.out (j:=9) rfl
    have HLM:Hid (xm=true→lessF mn1 mv=false∧lessF mn2 mv=false):=Lib.hid (fun h=>by
     have h2:(bothO minF (mh1,mn1) (mh2,mn2)).2=minF mn1 mn2:=both_num _ (HXM.out.trans h)
     rw[←HMV.out,h2];exact min_least _ _)
    have HLG:Hid (xg=true→lessF gv gn1=false∧lessF gv gn2=false):=Lib.hid (fun h=>by
     have h2:(bothO maxF (gh1,gn1) (gh2,gn2)).2=maxF gn1 gn2:=both_num _ (HXG.out.trans h)
     rw[←HGV.out,h2];exact max_most _ _)
    cases xm with
    | false =>
     cases xg with
     | false =>
      go_wp2_with fail
      clear x7 x9 y7 y9 z6 z7 z8 z9
      go_loopg [7] nc2.length (fun k i wr=>∃ j:Nat,i = .int .i64 (j:Int)∧j+k=nc2.length∧Hid (Below v6.heap.size v6 wr))
      case atStart=>exact ⟨0,rfl,by omega,Lib.hid (Below.refl _ _)⟩
      case round =>
       obtain ⟨j,rfl,hj,HW⟩:=hrel
       have HJ:=Lib.hid hj
       clear hj
       have HBW:=Lib.hid (below_step HB.out HW.out)
       have Tb1:=Lib.hid ((HW.out.block _ (row_lt Rb1.out)).trans Rb1.out)
       have Tb2:=Lib.hid ((HW.out.block _ (row_lt Rb2.out)).trans Rb2.out)
       have Tb5:=Lib.hid ((HW.out.block _ (row_lt Rb5.out)).trans Rb5.out)
       have z10:wr.cell? ⟨b5,10,none⟩=some (.slice nco nc2.length ncc):=row_cell Tb5.out (j:=10) rfl
       by_cases hlt:j<nc2.length
       ·
        have hlt1:j<nc1.length:=by have:=HLN.out;omega
        obtain ⟨D,HD⟩:∃ D,Hid (wr.drew=D):=⟨_,Lib.hid rfl⟩
        have hb:Below wr.heap.size wr D:=by rw[←HD.out];exact (Below.refl _ _).drew
        have HWD:=Lib.hid (below_step HW.out hb)
        have HBD:=Lib.hid (below_step HBW.out hb)
        have Ub1:=Lib.hid ((hb.block _ (row_lt Tb1.out)).trans Tb1.out)
        have Ub2:=Lib.hid ((hb.block _ (row_lt Tb2.out)).trans Tb2.out)
        have Ub5:=Lib.hid ((hb.block _ (row_lt Tb5.out)).trans Tb5.out)
        clear hb
        obtain ⟨g3,o3,z,HZZ,rfl,_,hc3⟩:=(HNM2.out.below HWD.out).at (by rw[HZL.out];exact hlt)
        obtain ⟨g1,o1,x,HXX,rfl,_,hc1⟩:=(HC1.out.below HBD.out).at hlt1
        obtain ⟨g2,o2,y,HYY,rfl,_,hc2⟩:=(HC2.out.below HBD.out).at hlt
        have HSX:Hid (z=x+y∧x+y<18446744073709551616):=Lib.hid (by
         have h1:=mhsum_getD nc1 nc2 hlt1
         have h2:=mhOv_no HOV2.out.2 hlt1
         rw[List.getD_eq_getElem?_getD,List.getElem?_eq_getElem (by rw[HZL.out];exact hlt)] at h1
         rw[List.getD_eq_getElem?_getD,List.getElem?_eq_getElem hlt1,List.getD_eq_getElem?_getD,List.getElem?_eq_getElem hlt] at h1 h2
         have h3:z=usum x y:=by rw[HZZ.out,HXX.out,HYY.out];exact h1
         have h4:x+y<18446744073709551616:=by rw[HXX.out,HYY.out];exact h2
         exact ⟨by rw[h3];exact usum_no h4,h4⟩)
        have hne:Nonempty {w':World // w'=D}:=⟨⟨D,rfl⟩⟩
        have j0:∀ s:{w':World // w'=D},s.1.cell? ⟨b5,10,none⟩=some (.slice (some ⟨g3,o3,none⟩) nc2.length ncc):=fun s=>by rw[s.2];exact row_cell Ub5.out (j:=10) rfl
        have j1:∀ s:{w':World // w'=D},s.1.cell? ⟨b1,10,none⟩=some (.slice (some ⟨g1,o1,none⟩) nc1.length ncc1):=fun s=>by rw[s.2];exact row_cell Ub1.out (j:=10) rfl
        have j2:∀ s:{w':World // w'=D},s.1.cell? ⟨b2,10,none⟩=some (.slice (some ⟨g2,o2,none⟩) nc2.length ncc2):=fun s=>by rw[s.2];exact row_cell Ub2.out (j:=10) rfl
        have j3:∀ s:{w':World // w'=D},s.1.cell? ⟨g3,o3+j,none⟩=some (.int .u64 (z:Int)):=fun s=>by rw[s.2];exact hc3
        have j4:∀ s:{w':World // w'=D},s.1.cell? ⟨g1,o1+j,none⟩=some (.int .u64 (x:Int)):=fun s=>by rw[s.2];exact hc1
        have j5:∀ s:{w':World // w'=D},s.1.cell? ⟨g2,o2+j,none⟩=some (.int .u64 (y:Int)):=fun s=>by rw[s.2];exact hc2
        have i1:(j:Int)<(nc1.length:Int):=by omega
        have i2:(j:Int)<(nc2.length:Int):=by omega
        have i0:(0:Int)≤(j:Int):=by omega
        have q1:IntKind.u64.wrap ((z:Int) - (x:Int))=(y:Int):=by have h:=HSX.out;rw[show (z:Int) - (x:Int)=(y:Int) by omega];unfold IntKind.wrap;simp[IntKind.signed,IntKind.bits];omega
        have e1:decide ((z:Int)<(x:Int))=false:=decide_eq_false (by have:=HSX.out;omega)
        have e2:decide (z<x)=false:=decide_eq_false (by have:=HSX.out;omega)
        have e3:¬z<x:=by have:=HSX.out;omega
        have e4:x≤z:=by have:=HSX.out;omega
        go_upto_region 15 with fail
        refine wp_region_seq (S:=fun w':World=>w'=D) [(0,true),(1,true),(2,true),(3,true),(4,true),(5,true),(6,true),(7,true),(8,true),(9,true),(10,true),(11,true),(12,true),(13,true),(14,true),(15,true),(16,true),(17,true),(18,true),(19,true),(20,true),(21,true),(22,true),(23,true),(24,true),(25,true),(26,true),(27,true),(28,true),(29,true)] (by kernel_rfl) (by kernel_rfl) (by kernel_rfl) (by kernel_rfl) HD.out ?_
        rw[HD.out]
        iterate 30 (refine seq_take _ rfl (fun KC hK=>?_);go_simp;(first|refine hK _ ?_|refine ⟨_,fun _ _=>rfl,hK _ ?_⟩);clear hK KC)
        refine seq_done ?_
        clear j0 j1 j2 j3 j4 j5 hne i1 i2 i0 q1 e1 e2 e3 e4 hc1 hc2 hc3 z10
        have q2:IntKind.i64.wrap ((j:Int)+1)=(j:Int)+1:=IntWalk.i64_in _ (by have:=HL1.out;omega)
        go_wp2_with fail
        have hj:=HJ.out
        go_roundg (gk - 1)
        case measure=>omega
        case rel=>exact ⟨j+1,by simp,by omega,HWD⟩
       ·
        have hje:j=nc2.length:=by have:=HJ.out;omega
        subst hje
        go_upto_region 17 with fail
        clear z10
        have HGW:=Lib.hid (hg.out.below (HBW.out.mono (Nat.le_refl _)))
        replace Rb1:=Tb1
        replace Rb2:=Tb2
        replace Rb5:=Tb5
        replace HB:=HBW
        obtain ⟨r1,HR1⟩:∃ r,Hid (histR ((a1,(t1,(k1,((ph1,pn1),(nc1,(nb1,(es1,(l1,(f1,((mh1,mn1),(gh1,gn1))))))))))),u1)=r):=⟨_,Lib.hid rfl⟩
        obtain ⟨r2,HR2⟩:∃ r,Hid (histR ((a2,(t2,(k2,((ph2,pn2),(nc2,(nb2,(es2,(l2,(f2,((mh2,mn2),(gh2,gn2))))))))))),u2)=r):=⟨_,Lib.hid rfl⟩
        obtain ⟨r3,HR3⟩:∃ r,Hid (histR ((a1,(t2,(ks,((ph1&&ph2,pv),(mhSum nc1 nc2,(nb2,(es2,(l2,(f2,((mh1&&mh2,mv),(gh1&&gh2,gv))))))))))),u2)=r):=⟨_,Lib.hid rfl⟩
        have HRZ:=Lib.hid (hiCel.upd (Upd.of_new (S:=fun _=>False) HW.out) (fun _ _ h=>h) (fun _ h=>h) HZR.out)
        refine wp_region_lit ?_
        refine wpList_load_mid rfl 56 (.tmp 2) rfl b1 0 rfl [.slice lo1 l1.length lc1,.int .u64 (a1:Int),.int .u64 (t1:Int),.int .u64 (k1:Int),.bool ph1,.int .u64 (pn1:Int),.bool mh1,.int .u64 (mn1:Int),.bool gh1,.int .u64 (gn1:Int),.slice nco1 nc1.length ncc1,.slice nbo1 nb1.length nbc1,.slice eo1 es1.length ec1,.int .u32 (f1:Int),strV u1] _ (range_rowf Rb1.out) Tryd.underlying56 rfl (by kernel_rfl) ?_
        refine wpList_plain rfl (fun K hK=>?_);go_simp
        refine (rhist_any ((a1,(t1,(k1,((ph1,pn1),(nc1,(nb1,(es1,(l1,(f1,((mh1,mn1),(gh1,gn1))))))))))),u1) [.slice lo1 l1.length lc1,.int .u64 (a1:Int),.int .u64 (t1:Int),.int .u64 (k1:Int),.bool ph1,.int .u64 (pn1:Int),.bool mh1,.int .u64 (mn1:Int),.bool gh1,.int .u64 (gn1:Int),.slice nco1 nc1.length ncc1,.slice nbo1 nb1.length nbc1,.slice eo1 es1.length ec1,.int .u32 (f1:Int),strV u1] _ wr hA1.out (hiCel.upd (Upd.of_new (S:=fun _=>False) HB.out) (fun _ _ h=>h) (fun _ h=>h) hR1.out) ⟨(by have h:=HL1.out;show nc1.length≤1000000;omega),(by have h:=HL1.out;show nb1.length≤1000000;omega),(by have h:=HL1.out;show l1.length≤1000000;omega)⟩ HR1).mono ?_
        rintro E f1w ⟨rfl,hb⟩
        replace HB:=Lib.hid (below_step HB.out hb)
        replace Rb1:=Lib.hid ((hb.block _ (row_lt Rb1.out)).trans Rb1.out)
        replace Rb2:=Lib.hid ((hb.block _ (row_lt Rb2.out)).trans Rb2.out)
        replace Rb5:=Lib.hid ((hb.block _ (row_lt Rb5.out)).trans Rb5.out)
        replace HRZ:=Lib.hid (hiCel.upd (Upd.of_new (S:=fun _=>False) hb) (fun _ _ h=>h) (fun _ h=>h) HRZ.out)
        clear hb
        replace HG:=Lib.hid (hg.out.below (HB.out.mono (Nat.le_refl _)))
        go_simp
        refine hK _ _ ?_;clear hK K
        by_cases h1:r1=0
        ·
         subst h1
         refine wpList_step fun K hK=>?_;go_simp;refine hK _ _ ?_;clear hK K
         refine wpList_step fun K hK=>?_;go_simp;refine hK _ _ ?_;clear hK K
         refine wpList_unguard (by go_simp) ?_
         refine wpList_load_mid rfl 56 (.tmp 3) rfl b2 0 rfl [.slice lo2 l2.length lc2,.int .u64 (a2:Int),.int .u64 (t2:Int),.int .u64 (k2:Int),.bool ph2,.int .u64 (pn2:Int),.bool mh2,.int .u64 (mn2:Int),.bool gh2,.int .u64 (gn2:Int),.slice nco2 nc2.length ncc2,.slice nbo2 nb2.length nbc2,.slice eo2 es2.length ec2,.int .u32 (f2:Int),strV u2] _ (range_rowf Rb2.out) Tryd.underlying56 rfl (by kernel_rfl) ?_
         refine wpList_unguard (by go_simp) ?_
         refine wpList_plain rfl (fun K hK=>?_);go_simp
         refine (rhist_any ((a2,(t2,(k2,((ph2,pn2),(nc2,(nb2,(es2,(l2,(f2,((mh2,mn2),(gh2,gn2))))))))))),u2) [.slice lo2 l2.length lc2,.int .u64 (a2:Int),.int .u64 (t2:Int),.int .u64 (k2:Int),.bool ph2,.int .u64 (pn2:Int),.bool mh2,.int .u64 (mn2:Int),.bool gh2,.int .u64 (gn2:Int),.slice nco2 nc2.length ncc2,.slice nbo2 nb2.length nbc2,.slice eo2 es2.length ec2,.int .u32 (f2:Int),strV u2] _ f1w hA2.out (hiCel.upd (Upd.of_new (S:=fun _=>False) HB.out) (fun _ _ h=>h) (fun _ h=>h) hR2.out) ⟨(by have h:=HL1.out;show nc2.length≤1000000;omega),(by have h:=HL1.out;show nb2.length≤1000000;omega),(by have h:=HL1.out;show l2.length≤1000000;omega)⟩ HR2).mono ?_
         rintro E f2w ⟨rfl,hb⟩
         replace HB:=Lib.hid (below_step HB.out hb)
         replace Rb1:=Lib.hid ((hb.block _ (row_lt Rb1.out)).trans Rb1.out)
         replace Rb2:=Lib.hid ((hb.block _ (row_lt Rb2.out)).trans Rb2.out)
         replace Rb5:=Lib.hid ((hb.block _ (row_lt Rb5.out)).trans Rb5.out)
         replace HRZ:=Lib.hid (hiCel.upd (Upd.of_new (S:=fun _=>False) hb) (fun _ _ h=>h) (fun _ h=>h) HRZ.out)
         clear hb
         replace HG:=Lib.hid (hg.out.below (HB.out.mono (Nat.le_refl _)))
         go_simp
         refine hK _ _ ?_;clear hK K
         by_cases h2:r2=0
         ·
          subst h2
          have z10:f2w.cell? ⟨b5,10,none⟩=some (.slice nco nc2.length ncc):=row_cell Rb5.out (j:=10) rfl
          by_cases h0:nc2.length=0
          ·
           have e1:((nc2.length:Int) == 0)=true:=by rw[beq_iff_eq];omega
           have e2:(nc2.length == 0)=true:=by rw[beq_iff_eq];exact h0
           replace h0:=Lib.hid h0
           go_wp2_with fail
           refine (first25 f2w HG).mono ?_
           rintro E f3w ⟨rfl,hb⟩
           replace HB:=Lib.hid (below_step HB.out hb)
           replace Rb1:=Lib.hid ((hb.block _ (row_lt Rb1.out)).trans Rb1.out)
           replace Rb2:=Lib.hid ((hb.block _ (row_lt Rb2.out)).trans Rb2.out)
           replace Rb5:=Lib.hid ((hb.block _ (row_lt Rb5.out)).trans Rb5.out)
           have hbk:=Lib.hid hb
           clear hb
           replace HG:=Lib.hid (hg.out.below (HB.out.mono (Nat.le_refl _)))
           have z10:f3w.cell? ⟨b5,10,none⟩=some (.slice nco nc2.length ncc):=row_cell Rb5.out (j:=10) rfl
           go_wp2_with fail
           go_ret
           exact ⟨rfl,HB.out⟩
          ·
           have e1:((nc2.length:Int) == 0)=false:=by rw[beq_eq_false_iff_ne];omega
           have e2:(nc2.length == 0)=false:=by rw[beq_eq_false_iff_ne];exact h0
           have HR8:Hid (r3≠8):=Lib.hid (by
            have hb1:histT k1 nc1 nb1=false:=hist_0 (x:=((a1,(t1,(k1,((ph1,pn1),(nc1,(nb1,(es1,(l1,(f1,((mh1,mn1),(gh1,gn1))))))))))),u1)) HR1.out
            have hb2:histT k2 nc2 nb2=false:=hist_0 (x:=((a2,(t2,(k2,((ph2,pn2),(nc2,(nb2,(es2,(l2,(f2,((mh2,mn2),(gh2,gn2))))))))))),u2)) HR2.out
            rw[HLN.out.1] at hb1
            rw[←HR3.out]
            exact hist_n8 (x:=((a1,(t2,(ks,((ph1&&ph2,pv),(mhSum nc1 nc2,(nb2,(es2,(l2,(f2,((mh1&&mh2,mv),(gh1&&gh2,gv))))))))))),u2)) (histT_sum HLN.out.2 hb1 hb2 (by omega) HOV2.out.2 HKV.out))
           have e3:((r3:Int) != 8)=true:=by rw[bne_iff_ne];have:=HR8.out;omega
           have e4:(r3 != 8)=true:=by rw[bne_iff_ne];exact HR8.out
           replace h0:=Lib.hid h0
           go_upto_region 18 with fail
           refine wp_region_lit ?_
           refine wpList_plain rfl (fun K hK=>?_);go_simp
           refine (first25 f2w HG).mono ?_
           rintro E f3w ⟨rfl,hb⟩
           replace HB:=Lib.hid (below_step HB.out hb)
           replace Rb1:=Lib.hid ((hb.block _ (row_lt Rb1.out)).trans Rb1.out)
           replace Rb2:=Lib.hid ((hb.block _ (row_lt Rb2.out)).trans Rb2.out)
           replace Rb5:=Lib.hid ((hb.block _ (row_lt Rb5.out)).trans Rb5.out)
           have hbk:=Lib.hid hb
           clear hb
           replace HG:=Lib.hid (hg.out.below (HB.out.mono (Nat.le_refl _)))
           replace HRZ:=Lib.hid (hiCel.upd (Upd.of_new (S:=fun _=>False) hbk.out) (fun _ _ h=>h) (fun _ h=>h) HRZ.out)
           have z10:f3w.cell? ⟨b5,10,none⟩=some (.slice nco nc2.length ncc):=row_cell Rb5.out (j:=10) rfl
           go_simp
           refine hK _ _ ?_;clear hK K
           iterate 10 (refine wpList_step fun K hK=>?_;go_simp;refine hK _ _ ?_;clear hK K)
           refine wpList_unguard (by go_simp) ?_
           refine wpList_load_mid rfl 56 (.tmp 5) rfl b5 0 rfl [.slice lo l2.length lc,.int .u64 (a1:Int),.int .u64 (t2:Int),.int .u64 (ks:Int),.bool (ph1&&ph2),.int .u64 (pv:Int),.bool (mh1&&mh2),.int .u64 (mv:Int),.bool (gh1&&gh2),.int .u64 (gv:Int),.slice nco nc2.length ncc,.slice nbo nb2.length nbc,.slice eo es2.length ec,.int .u32 (f2:Int),strV u2] _ (range_rowf Rb5.out) Tryd.underlying56 rfl (by kernel_rfl) ?_
           refine wpList_unguard (by go_simp) ?_
           refine wpList_plain rfl (fun K hK=>?_);go_simp
           refine (rhist_any ((a1,(t2,(ks,((ph1&&ph2,pv),(mhSum nc1 nc2,(nb2,(es2,(l2,(f2,((mh1&&mh2,mv),(gh1&&gh2,gv))))))))))),u2) [.slice lo l2.length lc,.int .u64 (a1:Int),.int .u64 (t2:Int),.int .u64 (ks:Int),.bool (ph1&&ph2),.int .u64 (pv:Int),.bool (mh1&&mh2),.int .u64 (mv:Int),.bool (gh1&&gh2),.int .u64 (gv:Int),.slice nco nc2.length ncc,.slice nbo nb2.length nbc,.slice eo es2.length ec,.int .u32 (f2:Int),strV u2] _ f3w HZA.out (HRZ.out) ⟨(by have h:=HL1.out;show (mhSum nc1 nc2).length≤1000000;rw[HZL.out];omega),(by have h:=HL1.out;show nb2.length≤1000000;omega),(by have h:=HL1.out;show l2.length≤1000000;omega)⟩ HR3).mono ?_
           rintro E f4w ⟨rfl,hb⟩
           replace HB:=Lib.hid (below_step HB.out hb)
           replace Rb1:=Lib.hid ((hb.block _ (row_lt Rb1.out)).trans Rb1.out)
           replace Rb2:=Lib.hid ((hb.block _ (row_lt Rb2.out)).trans Rb2.out)
           replace Rb5:=Lib.hid ((hb.block _ (row_lt Rb5.out)).trans Rb5.out)
           clear hb
           go_simp
           refine hK _ _ ?_;clear hK K
           go_wp2_with fail
           go_ret
           exact ⟨rfl,HB.out⟩
         ·
          have e1:((r2:Int) == 0)=false:=by rw[beq_eq_false_iff_ne];omega
          have e2:(r2 == 0)=false:=by rw[beq_eq_false_iff_ne];exact h2
          replace h2:=Lib.hid h2
          go_wp2_with fail
          refine (first25 f2w HG).mono ?_
          rintro E f3w ⟨rfl,hb⟩
          replace HB:=Lib.hid (below_step HB.out hb)
          replace Rb1:=Lib.hid ((hb.block _ (row_lt Rb1.out)).trans Rb1.out)
          replace Rb2:=Lib.hid ((hb.block _ (row_lt Rb2.out)).trans Rb2.out)
          replace Rb5:=Lib.hid ((hb.block _ (row_lt Rb5.out)).trans Rb5.out)
          have hbk:=Lib.hid hb
          clear hb
          replace HG:=Lib.hid (hg.out.below (HB.out.mono (Nat.le_refl _)))
          go_wp2_with fail
          go_ret
          exact ⟨rfl,HB.out⟩
        ·
         have e1:((r1:Int) == 0)=false:=by rw[beq_eq_false_iff_ne];omega
         have e2:(r1 == 0)=false:=by rw[beq_eq_false_iff_ne];exact h1
         replace h1:=Lib.hid h1
         go_wp2_with fail
         refine (first25 f1w HG).mono ?_
         rintro E f3w ⟨rfl,hb⟩
         replace HB:=Lib.hid (below_step HB.out hb)
         replace Rb1:=Lib.hid ((hb.block _ (row_lt Rb1.out)).trans Rb1.out)
         replace Rb2:=Lib.hid ((hb.block _ (row_lt Rb2.out)).trans Rb2.out)
         replace Rb5:=Lib.hid ((hb.block _ (row_lt Rb5.out)).trans Rb5.out)
         have hbk:=Lib.hid hb
         clear hb
         replace HG:=Lib.hid (hg.out.below (HB.out.mono (Nat.le_refl _)))
         go_wp2_with fail
         go_ret
         exact ⟨rfl,HB.out⟩
     | true =>
      go_wp2_with fail
      refine (less_any gv gn1 _ (by have h1:=HU64.out;have h2:=HMVL.out;omega) (by have h1:=HU64.out;have h2:=HMVL.out;omega) (Lib.hid ((HLG.out (by trivial)).1))).mono ?_;rintro _ _ ⟨rfl,rfl⟩
      go_wp2_with fail
      refine (less_any gv gn2 _ (by have h1:=HU64.out;have h2:=HMVL.out;omega) (by have h1:=HU64.out;have h2:=HMVL.out;omega) (Lib.hid ((HLG.out (by trivial)).2))).mono ?_;rintro _ _ ⟨rfl,rfl⟩
      go_wp2_with fail
      clear x7 x9 y7 y9 z6 z7 z8 z9
      go_loopg [7] nc2.length (fun k i wr=>∃ j:Nat,i = .int .i64 (j:Int)∧j+k=nc2.length∧Hid (Below v6.heap.size v6 wr))
      case atStart=>exact ⟨0,rfl,by omega,Lib.hid (Below.refl _ _)⟩
      case round =>
       obtain ⟨j,rfl,hj,HW⟩:=hrel
       have HJ:=Lib.hid hj
       clear hj
       have HBW:=Lib.hid (below_step HB.out HW.out)
       have Tb1:=Lib.hid ((HW.out.block _ (row_lt Rb1.out)).trans Rb1.out)
       have Tb2:=Lib.hid ((HW.out.block _ (row_lt Rb2.out)).trans Rb2.out)
       have Tb5:=Lib.hid ((HW.out.block _ (row_lt Rb5.out)).trans Rb5.out)
       have z10:wr.cell? ⟨b5,10,none⟩=some (.slice nco nc2.length ncc):=row_cell Tb5.out (j:=10) rfl
       by_cases hlt:j<nc2.length
       ·
        have hlt1:j<nc1.length:=by have:=HLN.out;omega
        obtain ⟨D,HD⟩:∃ D,Hid (wr.drew=D):=⟨_,Lib.hid rfl⟩
        have hb:Below wr.heap.size wr D:=by rw[←HD.out];exact (Below.refl _ _).drew
        have HWD:=Lib.hid (below_step HW.out hb)
        have HBD:=Lib.hid (below_step HBW.out hb)
        have Ub1:=Lib.hid ((hb.block _ (row_lt Tb1.out)).trans Tb1.out)
        have Ub2:=Lib.hid ((hb.block _ (row_lt Tb2.out)).trans Tb2.out)
        have Ub5:=Lib.hid ((hb.block _ (row_lt Tb5.out)).trans Tb5.out)
        clear hb
        obtain ⟨g3,o3,z,HZZ,rfl,_,hc3⟩:=(HNM2.out.below HWD.out).at (by rw[HZL.out];exact hlt)
        obtain ⟨g1,o1,x,HXX,rfl,_,hc1⟩:=(HC1.out.below HBD.out).at hlt1
        obtain ⟨g2,o2,y,HYY,rfl,_,hc2⟩:=(HC2.out.below HBD.out).at hlt
        have HSX:Hid (z=x+y∧x+y<18446744073709551616):=Lib.hid (by
         have h1:=mhsum_getD nc1 nc2 hlt1
         have h2:=mhOv_no HOV2.out.2 hlt1
         rw[List.getD_eq_getElem?_getD,List.getElem?_eq_getElem (by rw[HZL.out];exact hlt)] at h1
         rw[List.getD_eq_getElem?_getD,List.getElem?_eq_getElem hlt1,List.getD_eq_getElem?_getD,List.getElem?_eq_getElem hlt] at h1 h2
         have h3:z=usum x y:=by rw[HZZ.out,HXX.out,HYY.out];exact h1
         have h4:x+y<18446744073709551616:=by rw[HXX.out,HYY.out];exact h2
         exact ⟨by rw[h3];exact usum_no h4,h4⟩)
        have hne:Nonempty {w':World // w'=D}:=⟨⟨D,rfl⟩⟩
        have j0:∀ s:{w':World // w'=D},s.1.cell? ⟨b5,10,none⟩=some (.slice (some ⟨g3,o3,none⟩) nc2.length ncc):=fun s=>by rw[s.2];exact row_cell Ub5.out (j:=10) rfl
        have j1:∀ s:{w':World // w'=D},s.1.cell? ⟨b1,10,none⟩=some (.slice (some ⟨g1,o1,none⟩) nc1.length ncc1):=fun s=>by rw[s.2];exact row_cell Ub1.out (j:=10) rfl
        have j2:∀ s:{w':World // w'=D},s.1.cell? ⟨b2,10,none⟩=some (.slice (some ⟨g2,o2,none⟩) nc2.length ncc2):=fun s=>by rw[s.2];exact row_cell Ub2.out (j:=10) rfl
        have j3:∀ s:{w':World // w'=D},s.1.cell? ⟨g3,o3+j,none⟩=some (.int .u64 (z:Int)):=fun s=>by rw[s.2];exact hc3
        have j4:∀ s:{w':World // w'=D},s.1.cell? ⟨g1,o1+j,none⟩=some (.int .u64 (x:Int)):=fun s=>by rw[s.2];exact hc1
        have j5:∀ s:{w':World // w'=D},s.1.cell? ⟨g2,o2+j,none⟩=some (.int .u64 (y:Int)):=fun s=>by rw[s.2];exact hc2
        have i1:(j:Int)<(nc1.length:Int):=by omega
        have i2:(j:Int)<(nc2.length:Int):=by omega
        have i0:(0:Int)≤(j:Int):=by omega
        have q1:IntKind.u64.wrap ((z:Int) - (x:Int))=(y:Int):=by have h:=HSX.out;rw[show (z:Int) - (x:Int)=(y:Int) by omega];unfold IntKind.wrap;simp[IntKind.signed,IntKind.bits];omega
        have e1:decide ((z:Int)<(x:Int))=false:=decide_eq_false (by have:=HSX.out;omega)
        have e2:decide (z<x)=false:=decide_eq_false (by have:=HSX.out;omega)
        have e3:¬z<x:=by have:=HSX.out;omega
        have e4:x≤z:=by have:=HSX.out;omega
        go_upto_region 15 with fail
        refine wp_region_seq (S:=fun w':World=>w'=D) [(0,true),(1,true),(2,true),(3,true),(4,true),(5,true),(6,true),(7,true),(8,true),(9,true),(10,true),(11,true),(12,true),(13,true),(14,true),(15,true),(16,true),(17,true),(18,true),(19,true),(20,true),(21,true),(22,true),(23,true),(24,true),(25,true),(26,true),(27,true),(28,true),(29,true)] (by kernel_rfl) (by kernel_rfl) (by kernel_rfl) (by kernel_rfl) HD.out ?_
        rw[HD.out]
        iterate 30 (refine seq_take _ rfl (fun KC hK=>?_);go_simp;(first|refine hK _ ?_|refine ⟨_,fun _ _=>rfl,hK _ ?_⟩);clear hK KC)
        refine seq_done ?_
        clear j0 j1 j2 j3 j4 j5 hne i1 i2 i0 q1 e1 e2 e3 e4 hc1 hc2 hc3 z10
        have q2:IntKind.i64.wrap ((j:Int)+1)=(j:Int)+1:=IntWalk.i64_in _ (by have:=HL1.out;omega)
        go_wp2_with fail
        have hj:=HJ.out
        go_roundg (gk - 1)
        case measure=>omega
        case rel=>exact ⟨j+1,by simp,by omega,HWD⟩
       ·
        have hje:j=nc2.length:=by have:=HJ.out;omega
        subst hje
        go_upto_region 17 with fail
        clear z10
        have HGW:=Lib.hid (hg.out.below (HBW.out.mono (Nat.le_refl _)))
        replace Rb1:=Tb1
        replace Rb2:=Tb2
        replace Rb5:=Tb5
        replace HB:=HBW
        obtain ⟨r1,HR1⟩:∃ r,Hid (histR ((a1,(t1,(k1,((ph1,pn1),(nc1,(nb1,(es1,(l1,(f1,((mh1,mn1),(gh1,gn1))))))))))),u1)=r):=⟨_,Lib.hid rfl⟩
        obtain ⟨r2,HR2⟩:∃ r,Hid (histR ((a2,(t2,(k2,((ph2,pn2),(nc2,(nb2,(es2,(l2,(f2,((mh2,mn2),(gh2,gn2))))))))))),u2)=r):=⟨_,Lib.hid rfl⟩
        obtain ⟨r3,HR3⟩:∃ r,Hid (histR ((a1,(t2,(ks,((ph1&&ph2,pv),(mhSum nc1 nc2,(nb2,(es2,(l2,(f2,((mh1&&mh2,mv),(gh1&&gh2,gv))))))))))),u2)=r):=⟨_,Lib.hid rfl⟩
        have HRZ:=Lib.hid (hiCel.upd (Upd.of_new (S:=fun _=>False) HW.out) (fun _ _ h=>h) (fun _ h=>h) HZR.out)
        refine wp_region_lit ?_
        refine wpList_load_mid rfl 56 (.tmp 2) rfl b1 0 rfl [.slice lo1 l1.length lc1,.int .u64 (a1:Int),.int .u64 (t1:Int),.int .u64 (k1:Int),.bool ph1,.int .u64 (pn1:Int),.bool mh1,.int .u64 (mn1:Int),.bool gh1,.int .u64 (gn1:Int),.slice nco1 nc1.length ncc1,.slice nbo1 nb1.length nbc1,.slice eo1 es1.length ec1,.int .u32 (f1:Int),strV u1] _ (range_rowf Rb1.out) Tryd.underlying56 rfl (by kernel_rfl) ?_
        refine wpList_plain rfl (fun K hK=>?_);go_simp
        refine (rhist_any ((a1,(t1,(k1,((ph1,pn1),(nc1,(nb1,(es1,(l1,(f1,((mh1,mn1),(gh1,gn1))))))))))),u1) [.slice lo1 l1.length lc1,.int .u64 (a1:Int),.int .u64 (t1:Int),.int .u64 (k1:Int),.bool ph1,.int .u64 (pn1:Int),.bool mh1,.int .u64 (mn1:Int),.bool gh1,.int .u64 (gn1:Int),.slice nco1 nc1.length ncc1,.slice nbo1 nb1.length nbc1,.slice eo1 es1.length ec1,.int .u32 (f1:Int),strV u1] _ wr hA1.out (hiCel.upd (Upd.of_new (S:=fun _=>False) HB.out) (fun _ _ h=>h) (fun _ h=>h) hR1.out) ⟨(by have h:=HL1.out;show nc1.length≤1000000;omega),(by have h:=HL1.out;show nb1.length≤1000000;omega),(by have h:=HL1.out;show l1.length≤1000000;omega)⟩ HR1).mono ?_
        rintro E f1w ⟨rfl,hb⟩
        replace HB:=Lib.hid (below_step HB.out hb)
        replace Rb1:=Lib.hid ((hb.block _ (row_lt Rb1.out)).trans Rb1.out)
        replace Rb2:=Lib.hid ((hb.block _ (row_lt Rb2.out)).trans Rb2.out)
        replace Rb5:=Lib.hid ((hb.block _ (row_lt Rb5.out)).trans Rb5.out)
        replace HRZ:=Lib.hid (hiCel.upd (Upd.of_new (S:=fun _=>False) hb) (fun _ _ h=>h) (fun _ h=>h) HRZ.out)
        clear hb
        replace HG:=Lib.hid (hg.out.below (HB.out.mono (Nat.le_refl _)))
        go_simp
        refine hK _ _ ?_;clear hK K
        by_cases h1:r1=0
        ·
         subst h1
         refine wpList_step fun K hK=>?_;go_simp;refine hK _ _ ?_;clear hK K
         refine wpList_step fun K hK=>?_;go_simp;refine hK _ _ ?_;clear hK K
         refine wpList_unguard (by go_simp) ?_
         refine wpList_load_mid rfl 56 (.tmp 3) rfl b2 0 rfl [.slice lo2 l2.length lc2,.int .u64 (a2:Int),.int .u64 (t2:Int),.int .u64 (k2:Int),.bool ph2,.int .u64 (pn2:Int),.bool mh2,.int .u64 (mn2:Int),.bool gh2,.int .u64 (gn2:Int),.slice nco2 nc2.length ncc2,.slice nbo2 nb2.length nbc2,.slice eo2 es2.length ec2,.int .u32 (f2:Int),strV u2] _ (range_rowf Rb2.out) Tryd.underlying56 rfl (by kernel_rfl) ?_
         refine wpList_unguard (by go_simp) ?_
         refine wpList_plain rfl (fun K hK=>?_);go_simp
         refine (rhist_any ((a2,(t2,(k2,((ph2,pn2),(nc2,(nb2,(es2,(l2,(f2,((mh2,mn2),(gh2,gn2))))))))))),u2) [.slice lo2 l2.length lc2,.int .u64 (a2:Int),.int .u64 (t2:Int),.int .u64 (k2:Int),.bool ph2,.int .u64 (pn2:Int),.bool mh2,.int .u64 (mn2:Int),.bool gh2,.int .u64 (gn2:Int),.slice nco2 nc2.length ncc2,.slice nbo2 nb2.length nbc2,.slice eo2 es2.length ec2,.int .u32 (f2:Int),strV u2] _ f1w hA2.out (hiCel.upd (Upd.of_new (S:=fun _=>False) HB.out) (fun _ _ h=>h) (fun _ h=>h) hR2.out) ⟨(by have h:=HL1.out;show nc2.length≤1000000;omega),(by have h:=HL1.out;show nb2.length≤1000000;omega),(by have h:=HL1.out;show l2.length≤1000000;omega)⟩ HR2).mono ?_
         rintro E f2w ⟨rfl,hb⟩
         replace HB:=Lib.hid (below_step HB.out hb)
         replace Rb1:=Lib.hid ((hb.block _ (row_lt Rb1.out)).trans Rb1.out)
         replace Rb2:=Lib.hid ((hb.block _ (row_lt Rb2.out)).trans Rb2.out)
         replace Rb5:=Lib.hid ((hb.block _ (row_lt Rb5.out)).trans Rb5.out)
         replace HRZ:=Lib.hid (hiCel.upd (Upd.of_new (S:=fun _=>False) hb) (fun _ _ h=>h) (fun _ h=>h) HRZ.out)
         clear hb
         replace HG:=Lib.hid (hg.out.below (HB.out.mono (Nat.le_refl _)))
         go_simp
         refine hK _ _ ?_;clear hK K
         by_cases h2:r2=0
         ·
          subst h2
          have z10:f2w.cell? ⟨b5,10,none⟩=some (.slice nco nc2.length ncc):=row_cell Rb5.out (j:=10) rfl
          by_cases h0:nc2.length=0
          ·
           have e1:((nc2.length:Int) == 0)=true:=by rw[beq_iff_eq];omega
           have e2:(nc2.length == 0)=true:=by rw[beq_iff_eq];exact h0
           replace h0:=Lib.hid h0
           go_wp2_with fail
           refine (first25 f2w HG).mono ?_
           rintro E f3w ⟨rfl,hb⟩
           replace HB:=Lib.hid (below_step HB.out hb)
           replace Rb1:=Lib.hid ((hb.block _ (row_lt Rb1.out)).trans Rb1.out)
           replace Rb2:=Lib.hid ((hb.block _ (row_lt Rb2.out)).trans Rb2.out)
           replace Rb5:=Lib.hid ((hb.block _ (row_lt Rb5.out)).trans Rb5.out)
           have hbk:=Lib.hid hb
           clear hb
           replace HG:=Lib.hid (hg.out.below (HB.out.mono (Nat.le_refl _)))
           have z10:f3w.cell? ⟨b5,10,none⟩=some (.slice nco nc2.length ncc):=row_cell Rb5.out (j:=10) rfl
           go_wp2_with fail
           go_ret
           exact ⟨rfl,HB.out⟩
          ·
           have e1:((nc2.length:Int) == 0)=false:=by rw[beq_eq_false_iff_ne];omega
           have e2:(nc2.length == 0)=false:=by rw[beq_eq_false_iff_ne];exact h0
           have HR8:Hid (r3≠8):=Lib.hid (by
            have hb1:histT k1 nc1 nb1=false:=hist_0 (x:=((a1,(t1,(k1,((ph1,pn1),(nc1,(nb1,(es1,(l1,(f1,((mh1,mn1),(gh1,gn1))))))))))),u1)) HR1.out
            have hb2:histT k2 nc2 nb2=false:=hist_0 (x:=((a2,(t2,(k2,((ph2,pn2),(nc2,(nb2,(es2,(l2,(f2,((mh2,mn2),(gh2,gn2))))))))))),u2)) HR2.out
            rw[HLN.out.1] at hb1
            rw[←HR3.out]
            exact hist_n8 (x:=((a1,(t2,(ks,((ph1&&ph2,pv),(mhSum nc1 nc2,(nb2,(es2,(l2,(f2,((mh1&&mh2,mv),(gh1&&gh2,gv))))))))))),u2)) (histT_sum HLN.out.2 hb1 hb2 (by omega) HOV2.out.2 HKV.out))
           have e3:((r3:Int) != 8)=true:=by rw[bne_iff_ne];have:=HR8.out;omega
           have e4:(r3 != 8)=true:=by rw[bne_iff_ne];exact HR8.out
           replace h0:=Lib.hid h0
           go_upto_region 18 with fail
           refine wp_region_lit ?_
           refine wpList_plain rfl (fun K hK=>?_);go_simp
           refine (first25 f2w HG).mono ?_
           rintro E f3w ⟨rfl,hb⟩
           replace HB:=Lib.hid (below_step HB.out hb)
           replace Rb1:=Lib.hid ((hb.block _ (row_lt Rb1.out)).trans Rb1.out)
           replace Rb2:=Lib.hid ((hb.block _ (row_lt Rb2.out)).trans Rb2.out)
           replace Rb5:=Lib.hid ((hb.block _ (row_lt Rb5.out)).trans Rb5.out)
           have hbk:=Lib.hid hb
           clear hb
           replace HG:=Lib.hid (hg.out.below (HB.out.mono (Nat.le_refl _)))
           replace HRZ:=Lib.hid (hiCel.upd (Upd.of_new (S:=fun _=>False) hbk.out) (fun _ _ h=>h) (fun _ h=>h) HRZ.out)
           have z10:f3w.cell? ⟨b5,10,none⟩=some (.slice nco nc2.length ncc):=row_cell Rb5.out (j:=10) rfl
           go_simp
           refine hK _ _ ?_;clear hK K
           iterate 10 (refine wpList_step fun K hK=>?_;go_simp;refine hK _ _ ?_;clear hK K)
           refine wpList_unguard (by go_simp) ?_
           refine wpList_load_mid rfl 56 (.tmp 5) rfl b5 0 rfl [.slice lo l2.length lc,.int .u64 (a1:Int),.int .u64 (t2:Int),.int .u64 (ks:Int),.bool (ph1&&ph2),.int .u64 (pv:Int),.bool (mh1&&mh2),.int .u64 (mv:Int),.bool (gh1&&gh2),.int .u64 (gv:Int),.slice nco nc2.length ncc,.slice nbo nb2.length nbc,.slice eo es2.length ec,.int .u32 (f2:Int),strV u2] _ (range_rowf Rb5.out) Tryd.underlying56 rfl (by kernel_rfl) ?_
           refine wpList_unguard (by go_simp) ?_
           refine wpList_plain rfl (fun K hK=>?_);go_simp
           refine (rhist_any ((a1,(t2,(ks,((ph1&&ph2,pv),(mhSum nc1 nc2,(nb2,(es2,(l2,(f2,((mh1&&mh2,mv),(gh1&&gh2,gv))))))))))),u2) [.slice lo l2.length lc,.int .u64 (a1:Int),.int .u64 (t2:Int),.int .u64 (ks:Int),.bool (ph1&&ph2),.int .u64 (pv:Int),.bool (mh1&&mh2),.int .u64 (mv:Int),.bool (gh1&&gh2),.int .u64 (gv:Int),.slice nco nc2.length ncc,.slice nbo nb2.length nbc,.slice eo es2.length ec,.int .u32 (f2:Int),strV u2] _ f3w HZA.out (HRZ.out) ⟨(by have h:=HL1.out;show (mhSum nc1 nc2).length≤1000000;rw[HZL.out];omega),(by have h:=HL1.out;show nb2.length≤1000000;omega),(by have h:=HL1.out;show l2.length≤1000000;omega)⟩ HR3).mono ?_
           rintro E f4w ⟨rfl,hb⟩
           replace HB:=Lib.hid (below_step HB.out hb)
           replace Rb1:=Lib.hid ((hb.block _ (row_lt Rb1.out)).trans Rb1.out)
           replace Rb2:=Lib.hid ((hb.block _ (row_lt Rb2.out)).trans Rb2.out)
           replace Rb5:=Lib.hid ((hb.block _ (row_lt Rb5.out)).trans Rb5.out)
           clear hb
           go_simp
           refine hK _ _ ?_;clear hK K
           go_wp2_with fail
           go_ret
           exact ⟨rfl,HB.out⟩
         ·
          have e1:((r2:Int) == 0)=false:=by rw[beq_eq_false_iff_ne];omega
          have e2:(r2 == 0)=false:=by rw[beq_eq_false_iff_ne];exact h2
          replace h2:=Lib.hid h2
          go_wp2_with fail
          refine (first25 f2w HG).mono ?_
          rintro E f3w ⟨rfl,hb⟩
          replace HB:=Lib.hid (below_step HB.out hb)
          replace Rb1:=Lib.hid ((hb.block _ (row_lt Rb1.out)).trans Rb1.out)
          replace Rb2:=Lib.hid ((hb.block _ (row_lt Rb2.out)).trans Rb2.out)
          replace Rb5:=Lib.hid ((hb.block _ (row_lt Rb5.out)).trans Rb5.out)
          have hbk:=Lib.hid hb
          clear hb
          replace HG:=Lib.hid (hg.out.below (HB.out.mono (Nat.le_refl _)))
          go_wp2_with fail
          go_ret
          exact ⟨rfl,HB.out⟩
        ·
         have e1:((r1:Int) == 0)=false:=by rw[beq_eq_false_iff_ne];omega
         have e2:(r1 == 0)=false:=by rw[beq_eq_false_iff_ne];exact h1
         replace h1:=Lib.hid h1
         go_wp2_with fail
         refine (first25 f1w HG).mono ?_
         rintro E f3w ⟨rfl,hb⟩
         replace HB:=Lib.hid (below_step HB.out hb)
         replace Rb1:=Lib.hid ((hb.block _ (row_lt Rb1.out)).trans Rb1.out)
         replace Rb2:=Lib.hid ((hb.block _ (row_lt Rb2.out)).trans Rb2.out)
         replace Rb5:=Lib.hid ((hb.block _ (row_lt Rb5.out)).trans Rb5.out)
         have hbk:=Lib.hid hb
         clear hb
         replace HG:=Lib.hid (hg.out.below (HB.out.mono (Nat.le_refl _)))
         go_wp2_with fail
         go_ret
         exact ⟨rfl,HB.out⟩
    | true =>
     cases xg with
     | false =>
      go_wp2_with fail
      refine (less_any mn1 mv _ (by have h1:=HU64.out;have h2:=HMVL.out;omega) (by have h1:=HU64.out;have h2:=HMVL.out;omega) (Lib.hid ((HLM.out (by trivial)).1))).mono ?_;rintro _ _ ⟨rfl,rfl⟩
      go_wp2_with fail
      refine (less_any mn2 mv _ (by have h1:=HU64.out;have h2:=HMVL.out;omega) (by have h1:=HU64.out;have h2:=HMVL.out;omega) (Lib.hid ((HLM.out (by trivial)).2))).mono ?_;rintro _ _ ⟨rfl,rfl⟩
      go_wp2_with fail
      clear x7 x9 y7 y9 z6 z7 z8 z9
      go_loopg [7] nc2.length (fun k i wr=>∃ j:Nat,i = .int .i64 (j:Int)∧j+k=nc2.length∧Hid (Below v6.heap.size v6 wr))
      case atStart=>exact ⟨0,rfl,by omega,Lib.hid (Below.refl _ _)⟩
      case round =>
       obtain ⟨j,rfl,hj,HW⟩:=hrel
       have HJ:=Lib.hid hj
       clear hj
       have HBW:=Lib.hid (below_step HB.out HW.out)
       have Tb1:=Lib.hid ((HW.out.block _ (row_lt Rb1.out)).trans Rb1.out)
       have Tb2:=Lib.hid ((HW.out.block _ (row_lt Rb2.out)).trans Rb2.out)
       have Tb5:=Lib.hid ((HW.out.block _ (row_lt Rb5.out)).trans Rb5.out)
       have z10:wr.cell? ⟨b5,10,none⟩=some (.slice nco nc2.length ncc):=row_cell Tb5.out (j:=10) rfl
       by_cases hlt:j<nc2.length
       ·
        have hlt1:j<nc1.length:=by have:=HLN.out;omega
        obtain ⟨D,HD⟩:∃ D,Hid (wr.drew=D):=⟨_,Lib.hid rfl⟩
        have hb:Below wr.heap.size wr D:=by rw[←HD.out];exact (Below.refl _ _).drew
        have HWD:=Lib.hid (below_step HW.out hb)
        have HBD:=Lib.hid (below_step HBW.out hb)
        have Ub1:=Lib.hid ((hb.block _ (row_lt Tb1.out)).trans Tb1.out)
        have Ub2:=Lib.hid ((hb.block _ (row_lt Tb2.out)).trans Tb2.out)
        have Ub5:=Lib.hid ((hb.block _ (row_lt Tb5.out)).trans Tb5.out)
        clear hb
        obtain ⟨g3,o3,z,HZZ,rfl,_,hc3⟩:=(HNM2.out.below HWD.out).at (by rw[HZL.out];exact hlt)
        obtain ⟨g1,o1,x,HXX,rfl,_,hc1⟩:=(HC1.out.below HBD.out).at hlt1
        obtain ⟨g2,o2,y,HYY,rfl,_,hc2⟩:=(HC2.out.below HBD.out).at hlt
        have HSX:Hid (z=x+y∧x+y<18446744073709551616):=Lib.hid (by
         have h1:=mhsum_getD nc1 nc2 hlt1
         have h2:=mhOv_no HOV2.out.2 hlt1
         rw[List.getD_eq_getElem?_getD,List.getElem?_eq_getElem (by rw[HZL.out];exact hlt)] at h1
         rw[List.getD_eq_getElem?_getD,List.getElem?_eq_getElem hlt1,List.getD_eq_getElem?_getD,List.getElem?_eq_getElem hlt] at h1 h2
         have h3:z=usum x y:=by rw[HZZ.out,HXX.out,HYY.out];exact h1
         have h4:x+y<18446744073709551616:=by rw[HXX.out,HYY.out];exact h2
         exact ⟨by rw[h3];exact usum_no h4,h4⟩)
        have hne:Nonempty {w':World // w'=D}:=⟨⟨D,rfl⟩⟩
        have j0:∀ s:{w':World // w'=D},s.1.cell? ⟨b5,10,none⟩=some (.slice (some ⟨g3,o3,none⟩) nc2.length ncc):=fun s=>by rw[s.2];exact row_cell Ub5.out (j:=10) rfl
        have j1:∀ s:{w':World // w'=D},s.1.cell? ⟨b1,10,none⟩=some (.slice (some ⟨g1,o1,none⟩) nc1.length ncc1):=fun s=>by rw[s.2];exact row_cell Ub1.out (j:=10) rfl
        have j2:∀ s:{w':World // w'=D},s.1.cell? ⟨b2,10,none⟩=some (.slice (some ⟨g2,o2,none⟩) nc2.length ncc2):=fun s=>by rw[s.2];exact row_cell Ub2.out (j:=10) rfl
        have j3:∀ s:{w':World // w'=D},s.1.cell? ⟨g3,o3+j,none⟩=some (.int .u64 (z:Int)):=fun s=>by rw[s.2];exact hc3
        have j4:∀ s:{w':World // w'=D},s.1.cell? ⟨g1,o1+j,none⟩=some (.int .u64 (x:Int)):=fun s=>by rw[s.2];exact hc1
        have j5:∀ s:{w':World // w'=D},s.1.cell? ⟨g2,o2+j,none⟩=some (.int .u64 (y:Int)):=fun s=>by rw[s.2];exact hc2
        have i1:(j:Int)<(nc1.length:Int):=by omega
        have i2:(j:Int)<(nc2.length:Int):=by omega
        have i0:(0:Int)≤(j:Int):=by omega
        have q1:IntKind.u64.wrap ((z:Int) - (x:Int))=(y:Int):=by have h:=HSX.out;rw[show (z:Int) - (x:Int)=(y:Int) by omega];unfold IntKind.wrap;simp[IntKind.signed,IntKind.bits];omega
        have e1:decide ((z:Int)<(x:Int))=false:=decide_eq_false (by have:=HSX.out;omega)
        have e2:decide (z<x)=false:=decide_eq_false (by have:=HSX.out;omega)
        have e3:¬z<x:=by have:=HSX.out;omega
        have e4:x≤z:=by have:=HSX.out;omega
        go_upto_region 15 with fail
        refine wp_region_seq (S:=fun w':World=>w'=D) [(0,true),(1,true),(2,true),(3,true),(4,true),(5,true),(6,true),(7,true),(8,true),(9,true),(10,true),(11,true),(12,true),(13,true),(14,true),(15,true),(16,true),(17,true),(18,true),(19,true),(20,true),(21,true),(22,true),(23,true),(24,true),(25,true),(26,true),(27,true),(28,true),(29,true)] (by kernel_rfl) (by kernel_rfl) (by kernel_rfl) (by kernel_rfl) HD.out ?_
        rw[HD.out]
        iterate 30 (refine seq_take _ rfl (fun KC hK=>?_);go_simp;(first|refine hK _ ?_|refine ⟨_,fun _ _=>rfl,hK _ ?_⟩);clear hK KC)
        refine seq_done ?_
        clear j0 j1 j2 j3 j4 j5 hne i1 i2 i0 q1 e1 e2 e3 e4 hc1 hc2 hc3 z10
        have q2:IntKind.i64.wrap ((j:Int)+1)=(j:Int)+1:=IntWalk.i64_in _ (by have:=HL1.out;omega)
        go_wp2_with fail
        have hj:=HJ.out
        go_roundg (gk - 1)
        case measure=>omega
        case rel=>exact ⟨j+1,by simp,by omega,HWD⟩
       ·
        have hje:j=nc2.length:=by have:=HJ.out;omega
        subst hje
        go_upto_region 17 with fail
        clear z10
        have HGW:=Lib.hid (hg.out.below (HBW.out.mono (Nat.le_refl _)))
        replace Rb1:=Tb1
        replace Rb2:=Tb2
        replace Rb5:=Tb5
        replace HB:=HBW
        obtain ⟨r1,HR1⟩:∃ r,Hid (histR ((a1,(t1,(k1,((ph1,pn1),(nc1,(nb1,(es1,(l1,(f1,((mh1,mn1),(gh1,gn1))))))))))),u1)=r):=⟨_,Lib.hid rfl⟩
        obtain ⟨r2,HR2⟩:∃ r,Hid (histR ((a2,(t2,(k2,((ph2,pn2),(nc2,(nb2,(es2,(l2,(f2,((mh2,mn2),(gh2,gn2))))))))))),u2)=r):=⟨_,Lib.hid rfl⟩
        obtain ⟨r3,HR3⟩:∃ r,Hid (histR ((a1,(t2,(ks,((ph1&&ph2,pv),(mhSum nc1 nc2,(nb2,(es2,(l2,(f2,((mh1&&mh2,mv),(gh1&&gh2,gv))))))))))),u2)=r):=⟨_,Lib.hid rfl⟩
        have HRZ:=Lib.hid (hiCel.upd (Upd.of_new (S:=fun _=>False) HW.out) (fun _ _ h=>h) (fun _ h=>h) HZR.out)
        refine wp_region_lit ?_
        refine wpList_load_mid rfl 56 (.tmp 2) rfl b1 0 rfl [.slice lo1 l1.length lc1,.int .u64 (a1:Int),.int .u64 (t1:Int),.int .u64 (k1:Int),.bool ph1,.int .u64 (pn1:Int),.bool mh1,.int .u64 (mn1:Int),.bool gh1,.int .u64 (gn1:Int),.slice nco1 nc1.length ncc1,.slice nbo1 nb1.length nbc1,.slice eo1 es1.length ec1,.int .u32 (f1:Int),strV u1] _ (range_rowf Rb1.out) Tryd.underlying56 rfl (by kernel_rfl) ?_
        refine wpList_plain rfl (fun K hK=>?_);go_simp
        refine (rhist_any ((a1,(t1,(k1,((ph1,pn1),(nc1,(nb1,(es1,(l1,(f1,((mh1,mn1),(gh1,gn1))))))))))),u1) [.slice lo1 l1.length lc1,.int .u64 (a1:Int),.int .u64 (t1:Int),.int .u64 (k1:Int),.bool ph1,.int .u64 (pn1:Int),.bool mh1,.int .u64 (mn1:Int),.bool gh1,.int .u64 (gn1:Int),.slice nco1 nc1.length ncc1,.slice nbo1 nb1.length nbc1,.slice eo1 es1.length ec1,.int .u32 (f1:Int),strV u1] _ wr hA1.out (hiCel.upd (Upd.of_new (S:=fun _=>False) HB.out) (fun _ _ h=>h) (fun _ h=>h) hR1.out) ⟨(by have h:=HL1.out;show nc1.length≤1000000;omega),(by have h:=HL1.out;show nb1.length≤1000000;omega),(by have h:=HL1.out;show l1.length≤1000000;omega)⟩ HR1).mono ?_
        rintro E f1w ⟨rfl,hb⟩
        replace HB:=Lib.hid (below_step HB.out hb)
        replace Rb1:=Lib.hid ((hb.block _ (row_lt Rb1.out)).trans Rb1.out)
        replace Rb2:=Lib.hid ((hb.block _ (row_lt Rb2.out)).trans Rb2.out)
        replace Rb5:=Lib.hid ((hb.block _ (row_lt Rb5.out)).trans Rb5.out)
        replace HRZ:=Lib.hid (hiCel.upd (Upd.of_new (S:=fun _=>False) hb) (fun _ _ h=>h) (fun _ h=>h) HRZ.out)
        clear hb
        replace HG:=Lib.hid (hg.out.below (HB.out.mono (Nat.le_refl _)))
        go_simp
        refine hK _ _ ?_;clear hK K
        by_cases h1:r1=0
        ·
         subst h1
         refine wpList_step fun K hK=>?_;go_simp;refine hK _ _ ?_;clear hK K
         refine wpList_step fun K hK=>?_;go_simp;refine hK _ _ ?_;clear hK K
         refine wpList_unguard (by go_simp) ?_
         refine wpList_load_mid rfl 56 (.tmp 3) rfl b2 0 rfl [.slice lo2 l2.length lc2,.int .u64 (a2:Int),.int .u64 (t2:Int),.int .u64 (k2:Int),.bool ph2,.int .u64 (pn2:Int),.bool mh2,.int .u64 (mn2:Int),.bool gh2,.int .u64 (gn2:Int),.slice nco2 nc2.length ncc2,.slice nbo2 nb2.length nbc2,.slice eo2 es2.length ec2,.int .u32 (f2:Int),strV u2] _ (range_rowf Rb2.out) Tryd.underlying56 rfl (by kernel_rfl) ?_
         refine wpList_unguard (by go_simp) ?_
         refine wpList_plain rfl (fun K hK=>?_);go_simp
         refine (rhist_any ((a2,(t2,(k2,((ph2,pn2),(nc2,(nb2,(es2,(l2,(f2,((mh2,mn2),(gh2,gn2))))))))))),u2) [.slice lo2 l2.length lc2,.int .u64 (a2:Int),.int .u64 (t2:Int),.int .u64 (k2:Int),.bool ph2,.int .u64 (pn2:Int),.bool mh2,.int .u64 (mn2:Int),.bool gh2,.int .u64 (gn2:Int),.slice nco2 nc2.length ncc2,.slice nbo2 nb2.length nbc2,.slice eo2 es2.length ec2,.int .u32 (f2:Int),strV u2] _ f1w hA2.out (hiCel.upd (Upd.of_new (S:=fun _=>False) HB.out) (fun _ _ h=>h) (fun _ h=>h) hR2.out) ⟨(by have h:=HL1.out;show nc2.length≤1000000;omega),(by have h:=HL1.out;show nb2.length≤1000000;omega),(by have h:=HL1.out;show l2.length≤1000000;omega)⟩ HR2).mono ?_
         rintro E f2w ⟨rfl,hb⟩
         replace HB:=Lib.hid (below_step HB.out hb)
         replace Rb1:=Lib.hid ((hb.block _ (row_lt Rb1.out)).trans Rb1.out)
         replace Rb2:=Lib.hid ((hb.block _ (row_lt Rb2.out)).trans Rb2.out)
         replace Rb5:=Lib.hid ((hb.block _ (row_lt Rb5.out)).trans Rb5.out)
         replace HRZ:=Lib.hid (hiCel.upd (Upd.of_new (S:=fun _=>False) hb) (fun _ _ h=>h) (fun _ h=>h) HRZ.out)
         clear hb
         replace HG:=Lib.hid (hg.out.below (HB.out.mono (Nat.le_refl _)))
         go_simp
         refine hK _ _ ?_;clear hK K
         by_cases h2:r2=0
         ·
          subst h2
          have z10:f2w.cell? ⟨b5,10,none⟩=some (.slice nco nc2.length ncc):=row_cell Rb5.out (j:=10) rfl
          by_cases h0:nc2.length=0
          ·
           have e1:((nc2.length:Int) == 0)=true:=by rw[beq_iff_eq];omega
           have e2:(nc2.length == 0)=true:=by rw[beq_iff_eq];exact h0
           replace h0:=Lib.hid h0
           go_wp2_with fail
           refine (first25 f2w HG).mono ?_
           rintro E f3w ⟨rfl,hb⟩
           replace HB:=Lib.hid (below_step HB.out hb)
           replace Rb1:=Lib.hid ((hb.block _ (row_lt Rb1.out)).trans Rb1.out)
           replace Rb2:=Lib.hid ((hb.block _ (row_lt Rb2.out)).trans Rb2.out)
           replace Rb5:=Lib.hid ((hb.block _ (row_lt Rb5.out)).trans Rb5.out)
           have hbk:=Lib.hid hb
           clear hb
           replace HG:=Lib.hid (hg.out.below (HB.out.mono (Nat.le_refl _)))
           have z10:f3w.cell? ⟨b5,10,none⟩=some (.slice nco nc2.length ncc):=row_cell Rb5.out (j:=10) rfl
           go_wp2_with fail
           go_ret
           exact ⟨rfl,HB.out⟩
          ·
           have e1:((nc2.length:Int) == 0)=false:=by rw[beq_eq_false_iff_ne];omega
           have e2:(nc2.length == 0)=false:=by rw[beq_eq_false_iff_ne];exact h0
           have HR8:Hid (r3≠8):=Lib.hid (by
            have hb1:histT k1 nc1 nb1=false:=hist_0 (x:=((a1,(t1,(k1,((ph1,pn1),(nc1,(nb1,(es1,(l1,(f1,((mh1,mn1),(gh1,gn1))))))))))),u1)) HR1.out
            have hb2:histT k2 nc2 nb2=false:=hist_0 (x:=((a2,(t2,(k2,((ph2,pn2),(nc2,(nb2,(es2,(l2,(f2,((mh2,mn2),(gh2,gn2))))))))))),u2)) HR2.out
            rw[HLN.out.1] at hb1
            rw[←HR3.out]
            exact hist_n8 (x:=((a1,(t2,(ks,((ph1&&ph2,pv),(mhSum nc1 nc2,(nb2,(es2,(l2,(f2,((mh1&&mh2,mv),(gh1&&gh2,gv))))))))))),u2)) (histT_sum HLN.out.2 hb1 hb2 (by omega) HOV2.out.2 HKV.out))
           have e3:((r3:Int) != 8)=true:=by rw[bne_iff_ne];have:=HR8.out;omega
           have e4:(r3 != 8)=true:=by rw[bne_iff_ne];exact HR8.out
           replace h0:=Lib.hid h0
           go_upto_region 18 with fail
           refine wp_region_lit ?_
           refine wpList_plain rfl (fun K hK=>?_);go_simp
           refine (first25 f2w HG).mono ?_
           rintro E f3w ⟨rfl,hb⟩
           replace HB:=Lib.hid (below_step HB.out hb)
           replace Rb1:=Lib.hid ((hb.block _ (row_lt Rb1.out)).trans Rb1.out)
           replace Rb2:=Lib.hid ((hb.block _ (row_lt Rb2.out)).trans Rb2.out)
           replace Rb5:=Lib.hid ((hb.block _ (row_lt Rb5.out)).trans Rb5.out)
           have hbk:=Lib.hid hb
           clear hb
           replace HG:=Lib.hid (hg.out.below (HB.out.mono (Nat.le_refl _)))
           replace HRZ:=Lib.hid (hiCel.upd (Upd.of_new (S:=fun _=>False) hbk.out) (fun _ _ h=>h) (fun _ h=>h) HRZ.out)
           have z10:f3w.cell? ⟨b5,10,none⟩=some (.slice nco nc2.length ncc):=row_cell Rb5.out (j:=10) rfl
           go_simp
           refine hK _ _ ?_;clear hK K
           iterate 10 (refine wpList_step fun K hK=>?_;go_simp;refine hK _ _ ?_;clear hK K)
           refine wpList_unguard (by go_simp) ?_
           refine wpList_load_mid rfl 56 (.tmp 5) rfl b5 0 rfl [.slice lo l2.length lc,.int .u64 (a1:Int),.int .u64 (t2:Int),.int .u64 (ks:Int),.bool (ph1&&ph2),.int .u64 (pv:Int),.bool (mh1&&mh2),.int .u64 (mv:Int),.bool (gh1&&gh2),.int .u64 (gv:Int),.slice nco nc2.length ncc,.slice nbo nb2.length nbc,.slice eo es2.length ec,.int .u32 (f2:Int),strV u2] _ (range_rowf Rb5.out) Tryd.underlying56 rfl (by kernel_rfl) ?_
           refine wpList_unguard (by go_simp) ?_
           refine wpList_plain rfl (fun K hK=>?_);go_simp
           refine (rhist_any ((a1,(t2,(ks,((ph1&&ph2,pv),(mhSum nc1 nc2,(nb2,(es2,(l2,(f2,((mh1&&mh2,mv),(gh1&&gh2,gv))))))))))),u2) [.slice lo l2.length lc,.int .u64 (a1:Int),.int .u64 (t2:Int),.int .u64 (ks:Int),.bool (ph1&&ph2),.int .u64 (pv:Int),.bool (mh1&&mh2),.int .u64 (mv:Int),.bool (gh1&&gh2),.int .u64 (gv:Int),.slice nco nc2.length ncc,.slice nbo nb2.length nbc,.slice eo es2.length ec,.int .u32 (f2:Int),strV u2] _ f3w HZA.out (HRZ.out) ⟨(by have h:=HL1.out;show (mhSum nc1 nc2).length≤1000000;rw[HZL.out];omega),(by have h:=HL1.out;show nb2.length≤1000000;omega),(by have h:=HL1.out;show l2.length≤1000000;omega)⟩ HR3).mono ?_
           rintro E f4w ⟨rfl,hb⟩
           replace HB:=Lib.hid (below_step HB.out hb)
           replace Rb1:=Lib.hid ((hb.block _ (row_lt Rb1.out)).trans Rb1.out)
           replace Rb2:=Lib.hid ((hb.block _ (row_lt Rb2.out)).trans Rb2.out)
           replace Rb5:=Lib.hid ((hb.block _ (row_lt Rb5.out)).trans Rb5.out)
           clear hb
           go_simp
           refine hK _ _ ?_;clear hK K
           go_wp2_with fail
           go_ret
           exact ⟨rfl,HB.out⟩
         ·
          have e1:((r2:Int) == 0)=false:=by rw[beq_eq_false_iff_ne];omega
          have e2:(r2 == 0)=false:=by rw[beq_eq_false_iff_ne];exact h2
          replace h2:=Lib.hid h2
          go_wp2_with fail
          refine (first25 f2w HG).mono ?_
          rintro E f3w ⟨rfl,hb⟩
          replace HB:=Lib.hid (below_step HB.out hb)
          replace Rb1:=Lib.hid ((hb.block _ (row_lt Rb1.out)).trans Rb1.out)
          replace Rb2:=Lib.hid ((hb.block _ (row_lt Rb2.out)).trans Rb2.out)
          replace Rb5:=Lib.hid ((hb.block _ (row_lt Rb5.out)).trans Rb5.out)
          have hbk:=Lib.hid hb
          clear hb
          replace HG:=Lib.hid (hg.out.below (HB.out.mono (Nat.le_refl _)))
          go_wp2_with fail
          go_ret
          exact ⟨rfl,HB.out⟩
        ·
         have e1:((r1:Int) == 0)=false:=by rw[beq_eq_false_iff_ne];omega
         have e2:(r1 == 0)=false:=by rw[beq_eq_false_iff_ne];exact h1
         replace h1:=Lib.hid h1
         go_wp2_with fail
         refine (first25 f1w HG).mono ?_
         rintro E f3w ⟨rfl,hb⟩
         replace HB:=Lib.hid (below_step HB.out hb)
         replace Rb1:=Lib.hid ((hb.block _ (row_lt Rb1.out)).trans Rb1.out)
         replace Rb2:=Lib.hid ((hb.block _ (row_lt Rb2.out)).trans Rb2.out)
         replace Rb5:=Lib.hid ((hb.block _ (row_lt Rb5.out)).trans Rb5.out)
         have hbk:=Lib.hid hb
         clear hb
         replace HG:=Lib.hid (hg.out.below (HB.out.mono (Nat.le_refl _)))
         go_wp2_with fail
         go_ret
         exact ⟨rfl,HB.out⟩
     | true =>
      go_wp2_with fail
      refine (less_any mn1 mv _ (by have h1:=HU64.out;have h2:=HMVL.out;omega) (by have h1:=HU64.out;have h2:=HMVL.out;omega) (Lib.hid ((HLM.out (by trivial)).1))).mono ?_;rintro _ _ ⟨rfl,rfl⟩
      go_wp2_with fail
      refine (less_any mn2 mv _ (by have h1:=HU64.out;have h2:=HMVL.out;omega) (by have h1:=HU64.out;have h2:=HMVL.out;omega) (Lib.hid ((HLM.out (by trivial)).2))).mono ?_;rintro _ _ ⟨rfl,rfl⟩
      go_wp2_with fail
      refine (less_any gv gn1 _ (by have h1:=HU64.out;have h2:=HMVL.out;omega) (by have h1:=HU64.out;have h2:=HMVL.out;omega) (Lib.hid ((HLG.out (by trivial)).1))).mono ?_;rintro _ _ ⟨rfl,rfl⟩
      go_wp2_with fail
      refine (less_any gv gn2 _ (by have h1:=HU64.out;have h2:=HMVL.out;omega) (by have h1:=HU64.out;have h2:=HMVL.out;omega) (Lib.hid ((HLG.out (by trivial)).2))).mono ?_;rintro _ _ ⟨rfl,rfl⟩
      go_wp2_with fail
      clear x7 x9 y7 y9 z6 z7 z8 z9
      go_loopg [7] nc2.length (fun k i wr=>∃ j:Nat,i = .int .i64 (j:Int)∧j+k=nc2.length∧Hid (Below v6.heap.size v6 wr))
      case atStart=>exact ⟨0,rfl,by omega,Lib.hid (Below.refl _ _)⟩
      case round =>
       obtain ⟨j,rfl,hj,HW⟩:=hrel
       have HJ:=Lib.hid hj
       clear hj
       have HBW:=Lib.hid (below_step HB.out HW.out)
       have Tb1:=Lib.hid ((HW.out.block _ (row_lt Rb1.out)).trans Rb1.out)
       have Tb2:=Lib.hid ((HW.out.block _ (row_lt Rb2.out)).trans Rb2.out)
       have Tb5:=Lib.hid ((HW.out.block _ (row_lt Rb5.out)).trans Rb5.out)
       have z10:wr.cell? ⟨b5,10,none⟩=some (.slice nco nc2.length ncc):=row_cell Tb5.out (j:=10) rfl
       by_cases hlt:j<nc2.length
       ·
        have hlt1:j<nc1.length:=by have:=HLN.out;omega
        obtain ⟨D,HD⟩:∃ D,Hid (wr.drew=D):=⟨_,Lib.hid rfl⟩
        have hb:Below wr.heap.size wr D:=by rw[←HD.out];exact (Below.refl _ _).drew
        have HWD:=Lib.hid (below_step HW.out hb)
        have HBD:=Lib.hid (below_step HBW.out hb)
        have Ub1:=Lib.hid ((hb.block _ (row_lt Tb1.out)).trans Tb1.out)
        have Ub2:=Lib.hid ((hb.block _ (row_lt Tb2.out)).trans Tb2.out)
        have Ub5:=Lib.hid ((hb.block _ (row_lt Tb5.out)).trans Tb5.out)
        clear hb
        obtain ⟨g3,o3,z,HZZ,rfl,_,hc3⟩:=(HNM2.out.below HWD.out).at (by rw[HZL.out];exact hlt)
        obtain ⟨g1,o1,x,HXX,rfl,_,hc1⟩:=(HC1.out.below HBD.out).at hlt1
        obtain ⟨g2,o2,y,HYY,rfl,_,hc2⟩:=(HC2.out.below HBD.out).at hlt
        have HSX:Hid (z=x+y∧x+y<18446744073709551616):=Lib.hid (by
         have h1:=mhsum_getD nc1 nc2 hlt1
         have h2:=mhOv_no HOV2.out.2 hlt1
         rw[List.getD_eq_getElem?_getD,List.getElem?_eq_getElem (by rw[HZL.out];exact hlt)] at h1
         rw[List.getD_eq_getElem?_getD,List.getElem?_eq_getElem hlt1,List.getD_eq_getElem?_getD,List.getElem?_eq_getElem hlt] at h1 h2
         have h3:z=usum x y:=by rw[HZZ.out,HXX.out,HYY.out];exact h1
         have h4:x+y<18446744073709551616:=by rw[HXX.out,HYY.out];exact h2
         exact ⟨by rw[h3];exact usum_no h4,h4⟩)
        have hne:Nonempty {w':World // w'=D}:=⟨⟨D,rfl⟩⟩
        have j0:∀ s:{w':World // w'=D},s.1.cell? ⟨b5,10,none⟩=some (.slice (some ⟨g3,o3,none⟩) nc2.length ncc):=fun s=>by rw[s.2];exact row_cell Ub5.out (j:=10) rfl
        have j1:∀ s:{w':World // w'=D},s.1.cell? ⟨b1,10,none⟩=some (.slice (some ⟨g1,o1,none⟩) nc1.length ncc1):=fun s=>by rw[s.2];exact row_cell Ub1.out (j:=10) rfl
        have j2:∀ s:{w':World // w'=D},s.1.cell? ⟨b2,10,none⟩=some (.slice (some ⟨g2,o2,none⟩) nc2.length ncc2):=fun s=>by rw[s.2];exact row_cell Ub2.out (j:=10) rfl
        have j3:∀ s:{w':World // w'=D},s.1.cell? ⟨g3,o3+j,none⟩=some (.int .u64 (z:Int)):=fun s=>by rw[s.2];exact hc3
        have j4:∀ s:{w':World // w'=D},s.1.cell? ⟨g1,o1+j,none⟩=some (.int .u64 (x:Int)):=fun s=>by rw[s.2];exact hc1
        have j5:∀ s:{w':World // w'=D},s.1.cell? ⟨g2,o2+j,none⟩=some (.int .u64 (y:Int)):=fun s=>by rw[s.2];exact hc2
        have i1:(j:Int)<(nc1.length:Int):=by omega
        have i2:(j:Int)<(nc2.length:Int):=by omega
        have i0:(0:Int)≤(j:Int):=by omega
        have q1:IntKind.u64.wrap ((z:Int) - (x:Int))=(y:Int):=by have h:=HSX.out;rw[show (z:Int) - (x:Int)=(y:Int) by omega];unfold IntKind.wrap;simp[IntKind.signed,IntKind.bits];omega
        have e1:decide ((z:Int)<(x:Int))=false:=decide_eq_false (by have:=HSX.out;omega)
        have e2:decide (z<x)=false:=decide_eq_false (by have:=HSX.out;omega)
        have e3:¬z<x:=by have:=HSX.out;omega
        have e4:x≤z:=by have:=HSX.out;omega
        go_upto_region 15 with fail
        refine wp_region_seq (S:=fun w':World=>w'=D) [(0,true),(1,true),(2,true),(3,true),(4,true),(5,true),(6,true),(7,true),(8,true),(9,true),(10,true),(11,true),(12,true),(13,true),(14,true),(15,true),(16,true),(17,true),(18,true),(19,true),(20,true),(21,true),(22,true),(23,true),(24,true),(25,true),(26,true),(27,true),(28,true),(29,true)] (by kernel_rfl) (by kernel_rfl) (by kernel_rfl) (by kernel_rfl) HD.out ?_
        rw[HD.out]
        iterate 30 (refine seq_take _ rfl (fun KC hK=>?_);go_simp;(first|refine hK _ ?_|refine ⟨_,fun _ _=>rfl,hK _ ?_⟩);clear hK KC)
        refine seq_done ?_
        clear j0 j1 j2 j3 j4 j5 hne i1 i2 i0 q1 e1 e2 e3 e4 hc1 hc2 hc3 z10
        have q2:IntKind.i64.wrap ((j:Int)+1)=(j:Int)+1:=IntWalk.i64_in _ (by have:=HL1.out;omega)
        go_wp2_with fail
        have hj:=HJ.out
        go_roundg (gk - 1)
        case measure=>omega
        case rel=>exact ⟨j+1,by simp,by omega,HWD⟩
       ·
        have hje:j=nc2.length:=by have:=HJ.out;omega
        subst hje
        go_upto_region 17 with fail
        clear z10
        have HGW:=Lib.hid (hg.out.below (HBW.out.mono (Nat.le_refl _)))
        replace Rb1:=Tb1
        replace Rb2:=Tb2
        replace Rb5:=Tb5
        replace HB:=HBW
        obtain ⟨r1,HR1⟩:∃ r,Hid (histR ((a1,(t1,(k1,((ph1,pn1),(nc1,(nb1,(es1,(l1,(f1,((mh1,mn1),(gh1,gn1))))))))))),u1)=r):=⟨_,Lib.hid rfl⟩
        obtain ⟨r2,HR2⟩:∃ r,Hid (histR ((a2,(t2,(k2,((ph2,pn2),(nc2,(nb2,(es2,(l2,(f2,((mh2,mn2),(gh2,gn2))))))))))),u2)=r):=⟨_,Lib.hid rfl⟩
        obtain ⟨r3,HR3⟩:∃ r,Hid (histR ((a1,(t2,(ks,((ph1&&ph2,pv),(mhSum nc1 nc2,(nb2,(es2,(l2,(f2,((mh1&&mh2,mv),(gh1&&gh2,gv))))))))))),u2)=r):=⟨_,Lib.hid rfl⟩
        have HRZ:=Lib.hid (hiCel.upd (Upd.of_new (S:=fun _=>False) HW.out) (fun _ _ h=>h) (fun _ h=>h) HZR.out)
        refine wp_region_lit ?_
        refine wpList_load_mid rfl 56 (.tmp 2) rfl b1 0 rfl [.slice lo1 l1.length lc1,.int .u64 (a1:Int),.int .u64 (t1:Int),.int .u64 (k1:Int),.bool ph1,.int .u64 (pn1:Int),.bool mh1,.int .u64 (mn1:Int),.bool gh1,.int .u64 (gn1:Int),.slice nco1 nc1.length ncc1,.slice nbo1 nb1.length nbc1,.slice eo1 es1.length ec1,.int .u32 (f1:Int),strV u1] _ (range_rowf Rb1.out) Tryd.underlying56 rfl (by kernel_rfl) ?_
        refine wpList_plain rfl (fun K hK=>?_);go_simp
        refine (rhist_any ((a1,(t1,(k1,((ph1,pn1),(nc1,(nb1,(es1,(l1,(f1,((mh1,mn1),(gh1,gn1))))))))))),u1) [.slice lo1 l1.length lc1,.int .u64 (a1:Int),.int .u64 (t1:Int),.int .u64 (k1:Int),.bool ph1,.int .u64 (pn1:Int),.bool mh1,.int .u64 (mn1:Int),.bool gh1,.int .u64 (gn1:Int),.slice nco1 nc1.length ncc1,.slice nbo1 nb1.length nbc1,.slice eo1 es1.length ec1,.int .u32 (f1:Int),strV u1] _ wr hA1.out (hiCel.upd (Upd.of_new (S:=fun _=>False) HB.out) (fun _ _ h=>h) (fun _ h=>h) hR1.out) ⟨(by have h:=HL1.out;show nc1.length≤1000000;omega),(by have h:=HL1.out;show nb1.length≤1000000;omega),(by have h:=HL1.out;show l1.length≤1000000;omega)⟩ HR1).mono ?_
        rintro E f1w ⟨rfl,hb⟩
        replace HB:=Lib.hid (below_step HB.out hb)
        replace Rb1:=Lib.hid ((hb.block _ (row_lt Rb1.out)).trans Rb1.out)
        replace Rb2:=Lib.hid ((hb.block _ (row_lt Rb2.out)).trans Rb2.out)
        replace Rb5:=Lib.hid ((hb.block _ (row_lt Rb5.out)).trans Rb5.out)
        replace HRZ:=Lib.hid (hiCel.upd (Upd.of_new (S:=fun _=>False) hb) (fun _ _ h=>h) (fun _ h=>h) HRZ.out)
        clear hb
        replace HG:=Lib.hid (hg.out.below (HB.out.mono (Nat.le_refl _)))
        go_simp
        refine hK _ _ ?_;clear hK K
        by_cases h1:r1=0
        ·
         subst h1
         refine wpList_step fun K hK=>?_;go_simp;refine hK _ _ ?_;clear hK K
         refine wpList_step fun K hK=>?_;go_simp;refine hK _ _ ?_;clear hK K
         refine wpList_unguard (by go_simp) ?_
         refine wpList_load_mid rfl 56 (.tmp 3) rfl b2 0 rfl [.slice lo2 l2.length lc2,.int .u64 (a2:Int),.int .u64 (t2:Int),.int .u64 (k2:Int),.bool ph2,.int .u64 (pn2:Int),.bool mh2,.int .u64 (mn2:Int),.bool gh2,.int .u64 (gn2:Int),.slice nco2 nc2.length ncc2,.slice nbo2 nb2.length nbc2,.slice eo2 es2.length ec2,.int .u32 (f2:Int),strV u2] _ (range_rowf Rb2.out) Tryd.underlying56 rfl (by kernel_rfl) ?_
         refine wpList_unguard (by go_simp) ?_
         refine wpList_plain rfl (fun K hK=>?_);go_simp
         refine (rhist_any ((a2,(t2,(k2,((ph2,pn2),(nc2,(nb2,(es2,(l2,(f2,((mh2,mn2),(gh2,gn2))))))))))),u2) [.slice lo2 l2.length lc2,.int .u64 (a2:Int),.int .u64 (t2:Int),.int .u64 (k2:Int),.bool ph2,.int .u64 (pn2:Int),.bool mh2,.int .u64 (mn2:Int),.bool gh2,.int .u64 (gn2:Int),.slice nco2 nc2.length ncc2,.slice nbo2 nb2.length nbc2,.slice eo2 es2.length ec2,.int .u32 (f2:Int),strV u2] _ f1w hA2.out (hiCel.upd (Upd.of_new (S:=fun _=>False) HB.out) (fun _ _ h=>h) (fun _ h=>h) hR2.out) ⟨(by have h:=HL1.out;show nc2.length≤1000000;omega),(by have h:=HL1.out;show nb2.length≤1000000;omega),(by have h:=HL1.out;show l2.length≤1000000;omega)⟩ HR2).mono ?_
         rintro E f2w ⟨rfl,hb⟩
         replace HB:=Lib.hid (below_step HB.out hb)
         replace Rb1:=Lib.hid ((hb.block _ (row_lt Rb1.out)).trans Rb1.out)
         replace Rb2:=Lib.hid ((hb.block _ (row_lt Rb2.out)).trans Rb2.out)
         replace Rb5:=Lib.hid ((hb.block _ (row_lt Rb5.out)).trans Rb5.out)
         replace HRZ:=Lib.hid (hiCel.upd (Upd.of_new (S:=fun _=>False) hb) (fun _ _ h=>h) (fun _ h=>h) HRZ.out)
         clear hb
         replace HG:=Lib.hid (hg.out.below (HB.out.mono (Nat.le_refl _)))
         go_simp
         refine hK _ _ ?_;clear hK K
         by_cases h2:r2=0
         ·
          subst h2
          have z10:f2w.cell? ⟨b5,10,none⟩=some (.slice nco nc2.length ncc):=row_cell Rb5.out (j:=10) rfl
          by_cases h0:nc2.length=0
          ·
           have e1:((nc2.length:Int) == 0)=true:=by rw[beq_iff_eq];omega
           have e2:(nc2.length == 0)=true:=by rw[beq_iff_eq];exact h0
           replace h0:=Lib.hid h0
           go_wp2_with fail
           refine (first25 f2w HG).mono ?_
           rintro E f3w ⟨rfl,hb⟩
           replace HB:=Lib.hid (below_step HB.out hb)
           replace Rb1:=Lib.hid ((hb.block _ (row_lt Rb1.out)).trans Rb1.out)
           replace Rb2:=Lib.hid ((hb.block _ (row_lt Rb2.out)).trans Rb2.out)
           replace Rb5:=Lib.hid ((hb.block _ (row_lt Rb5.out)).trans Rb5.out)
           have hbk:=Lib.hid hb
           clear hb
           replace HG:=Lib.hid (hg.out.below (HB.out.mono (Nat.le_refl _)))
           have z10:f3w.cell? ⟨b5,10,none⟩=some (.slice nco nc2.length ncc):=row_cell Rb5.out (j:=10) rfl
           go_wp2_with fail
           go_ret
           exact ⟨rfl,HB.out⟩
          ·
           have e1:((nc2.length:Int) == 0)=false:=by rw[beq_eq_false_iff_ne];omega
           have e2:(nc2.length == 0)=false:=by rw[beq_eq_false_iff_ne];exact h0
           have HR8:Hid (r3≠8):=Lib.hid (by
            have hb1:histT k1 nc1 nb1=false:=hist_0 (x:=((a1,(t1,(k1,((ph1,pn1),(nc1,(nb1,(es1,(l1,(f1,((mh1,mn1),(gh1,gn1))))))))))),u1)) HR1.out
            have hb2:histT k2 nc2 nb2=false:=hist_0 (x:=((a2,(t2,(k2,((ph2,pn2),(nc2,(nb2,(es2,(l2,(f2,((mh2,mn2),(gh2,gn2))))))))))),u2)) HR2.out
            rw[HLN.out.1] at hb1
            rw[←HR3.out]
            exact hist_n8 (x:=((a1,(t2,(ks,((ph1&&ph2,pv),(mhSum nc1 nc2,(nb2,(es2,(l2,(f2,((mh1&&mh2,mv),(gh1&&gh2,gv))))))))))),u2)) (histT_sum HLN.out.2 hb1 hb2 (by omega) HOV2.out.2 HKV.out))
           have e3:((r3:Int) != 8)=true:=by rw[bne_iff_ne];have:=HR8.out;omega
           have e4:(r3 != 8)=true:=by rw[bne_iff_ne];exact HR8.out
           replace h0:=Lib.hid h0
           go_upto_region 18 with fail
           refine wp_region_lit ?_
           refine wpList_plain rfl (fun K hK=>?_);go_simp
           refine (first25 f2w HG).mono ?_
           rintro E f3w ⟨rfl,hb⟩
           replace HB:=Lib.hid (below_step HB.out hb)
           replace Rb1:=Lib.hid ((hb.block _ (row_lt Rb1.out)).trans Rb1.out)
           replace Rb2:=Lib.hid ((hb.block _ (row_lt Rb2.out)).trans Rb2.out)
           replace Rb5:=Lib.hid ((hb.block _ (row_lt Rb5.out)).trans Rb5.out)
           have hbk:=Lib.hid hb
           clear hb
           replace HG:=Lib.hid (hg.out.below (HB.out.mono (Nat.le_refl _)))
           replace HRZ:=Lib.hid (hiCel.upd (Upd.of_new (S:=fun _=>False) hbk.out) (fun _ _ h=>h) (fun _ h=>h) HRZ.out)
           have z10:f3w.cell? ⟨b5,10,none⟩=some (.slice nco nc2.length ncc):=row_cell Rb5.out (j:=10) rfl
           go_simp
           refine hK _ _ ?_;clear hK K
           iterate 10 (refine wpList_step fun K hK=>?_;go_simp;refine hK _ _ ?_;clear hK K)
           refine wpList_unguard (by go_simp) ?_
           refine wpList_load_mid rfl 56 (.tmp 5) rfl b5 0 rfl [.slice lo l2.length lc,.int .u64 (a1:Int),.int .u64 (t2:Int),.int .u64 (ks:Int),.bool (ph1&&ph2),.int .u64 (pv:Int),.bool (mh1&&mh2),.int .u64 (mv:Int),.bool (gh1&&gh2),.int .u64 (gv:Int),.slice nco nc2.length ncc,.slice nbo nb2.length nbc,.slice eo es2.length ec,.int .u32 (f2:Int),strV u2] _ (range_rowf Rb5.out) Tryd.underlying56 rfl (by kernel_rfl) ?_
           refine wpList_unguard (by go_simp) ?_
           refine wpList_plain rfl (fun K hK=>?_);go_simp
           refine (rhist_any ((a1,(t2,(ks,((ph1&&ph2,pv),(mhSum nc1 nc2,(nb2,(es2,(l2,(f2,((mh1&&mh2,mv),(gh1&&gh2,gv))))))))))),u2) [.slice lo l2.length lc,.int .u64 (a1:Int),.int .u64 (t2:Int),.int .u64 (ks:Int),.bool (ph1&&ph2),.int .u64 (pv:Int),.bool (mh1&&mh2),.int .u64 (mv:Int),.bool (gh1&&gh2),.int .u64 (gv:Int),.slice nco nc2.length ncc,.slice nbo nb2.length nbc,.slice eo es2.length ec,.int .u32 (f2:Int),strV u2] _ f3w HZA.out (HRZ.out) ⟨(by have h:=HL1.out;show (mhSum nc1 nc2).length≤1000000;rw[HZL.out];omega),(by have h:=HL1.out;show nb2.length≤1000000;omega),(by have h:=HL1.out;show l2.length≤1000000;omega)⟩ HR3).mono ?_
           rintro E f4w ⟨rfl,hb⟩
           replace HB:=Lib.hid (below_step HB.out hb)
           replace Rb1:=Lib.hid ((hb.block _ (row_lt Rb1.out)).trans Rb1.out)
           replace Rb2:=Lib.hid ((hb.block _ (row_lt Rb2.out)).trans Rb2.out)
           replace Rb5:=Lib.hid ((hb.block _ (row_lt Rb5.out)).trans Rb5.out)
           clear hb
           go_simp
           refine hK _ _ ?_;clear hK K
           go_wp2_with fail
           go_ret
           exact ⟨rfl,HB.out⟩
         ·
          have e1:((r2:Int) == 0)=false:=by rw[beq_eq_false_iff_ne];omega
          have e2:(r2 == 0)=false:=by rw[beq_eq_false_iff_ne];exact h2
          replace h2:=Lib.hid h2
          go_wp2_with fail
          refine (first25 f2w HG).mono ?_
          rintro E f3w ⟨rfl,hb⟩
          replace HB:=Lib.hid (below_step HB.out hb)
          replace Rb1:=Lib.hid ((hb.block _ (row_lt Rb1.out)).trans Rb1.out)
          replace Rb2:=Lib.hid ((hb.block _ (row_lt Rb2.out)).trans Rb2.out)
          replace Rb5:=Lib.hid ((hb.block _ (row_lt Rb5.out)).trans Rb5.out)
          have hbk:=Lib.hid hb
          clear hb
          replace HG:=Lib.hid (hg.out.below (HB.out.mono (Nat.le_refl _)))
          go_wp2_with fail
          go_ret
          exact ⟨rfl,HB.out⟩
        ·
         have e1:((r1:Int) == 0)=false:=by rw[beq_eq_false_iff_ne];omega
         have e2:(r1 == 0)=false:=by rw[beq_eq_false_iff_ne];exact h1
         replace h1:=Lib.hid h1
         go_wp2_with fail
         refine (first25 f1w HG).mono ?_
         rintro E f3w ⟨rfl,hb⟩
         replace HB:=Lib.hid (below_step HB.out hb)
         replace Rb1:=Lib.hid ((hb.block _ (row_lt Rb1.out)).trans Rb1.out)
         replace Rb2:=Lib.hid ((hb.block _ (row_lt Rb2.out)).trans Rb2.out)
         replace Rb5:=Lib.hid ((hb.block _ (row_lt Rb5.out)).trans Rb5.out)
         have hbk:=Lib.hid hb
         clear hb
         replace HG:=Lib.hid (hg.out.below (HB.out.mono (Nat.le_refl _)))
         go_wp2_with fail
         go_ret
         exact ⟨rfl,HB.out⟩
end Go.Proofs.YtcblkndiclkacaaDoor
