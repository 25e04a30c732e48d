/-
  merge.Hist.
-/
import Derived.Test.YtoggpnfeioaidaaDoorMxTake
import Derived.Test.YtoggpnfeioaidaaDoorMxDoor
set_option maxRecDepth 1000000
set_option maxHeartbeats 16000000
namespace Go.Proofs.YtoggpnfeioaidaaDoor
open Go.RowKit
def mhOv (x y:List Nat) (j:Nat):Bool:=(List.range j).any fun i=>decide (18446744073709551616≤x.getD i 0+y.getD i 0)
theorem mhOv_step (x y:List Nat) (j:Nat):mhOv x y (j+1)=(mhOv x y j||decide (18446744073709551616≤x.getD j 0+y.getD j 0)):=by
 unfold mhOv
 rw[List.range_succ,List.any_append]
 simp
def mhSum (x y:List Nat):List Nat:=(List.range x.length).map fun i=>usum (x.getD i 0) (y.getD i 0)
structure MhIn where
 k1:Nat
 k2:Nat
 nc1:List Nat
 nc2:List Nat
 nb1:List Nat
 nb2:List Nat
def MhIn.like (x:MhIn):Bool:=decide (x.nb1=x.nb2∧x.nc1.length=x.nc2.length)
def MhIn.over (x:MhIn):Bool:=decide (18446744073709551616≤x.k1+x.k2)||mhOv x.nc1 x.nc2 x.nc1.length
def MhP (x:MhIn) (a1 t2:Nat) (p m g:Bool × Nat) (es2:List Ex) (l2:List KV) (f2:Nat) (u2:List UInt8) (w:World) (E:Ending) (w':World):Prop :=
 Below w.heap.size w w' ∧
 (x.like=false→∃ T v,E = .returned (.tuple #[.agg #[.slice none 0 0,.int .u64 0,.int .u64 0,.int .u64 0,.bool false,.int .u64 0,.bool false,.int .u64 0,.bool false,.int .u64 0,.slice none 0 0,.slice none 0 0,.slice none 0 0,.int .u32 0,.string ⟨#[]⟩],.iface T v])∧EC w' (.iface T v) 13) ∧
 (x.like=true→x.over=true→∃ T v,E = .returned (.tuple #[.agg #[.slice none 0 0,.int .u64 0,.int .u64 0,.int .u64 0,.bool false,.int .u64 0,.bool false,.int .u64 0,.bool false,.int .u64 0,.slice none 0 0,.slice none 0 0,.slice none 0 0,.int .u32 0,.string ⟨#[]⟩],.iface T v])∧EC w' (.iface T v) 9) ∧
 (x.like=true→x.over=false→∃ lo lc nco ncc nbo nbc eo ec,E = .returned (.tuple #[.agg #[.slice lo l2.length lc,.int .u64 (a1:Int),.int .u64 (t2:Int),.int .u64 (usum x.k1 x.k2:Int),.bool p.1,.int .u64 (p.2:Int),.bool m.1,.int .u64 (m.2:Int),.bool g.1,.int .u64 (g.2:Int),.slice nco x.nc2.length ncc,.slice nbo x.nb2.length nbc,.slice eo es2.length ec,.int .u32 (f2:Int),strV u2],.nilIface]) ∧
  KRels w' (fun k=>w.heap.size≤k) l2 lo 0∧Nats .u64 w' nco (mhSum x.nc1 x.nc2)∧CRels natCel w' (fun k=>w.heap.size≤k) x.nb2 nbo∧CRels exCel w' (fun k=>w.heap.size≤k) es2 eo)
theorem ec_upd15 {w w':World} {v:Value} {a c:Nat} {cs:Array Value} {T:TypeId} (h:EC w v c) (hu:Upd (fun k=>k=a) w w') (hr:w.heap[a]? = some (.cells cs T (0,0))) (hs:cs.size≠2:=by decide):EC w' v c:=by
 obtain ⟨ws,h⟩:=h
 refine ⟨ws,isErr_upd hu (fun k hk b n e he=>?_) h⟩
 have hk:k=a:=hk
 subst hk
 rw[hr] at he
 have h1:=congrArg (fun o:Option Obj=>match o with|some (.cells cs _ _)=>cs.size|_=>0) he
 exact hs h1
theorem own_not_field {w:World} {base g n cap:Nat} {xs:List Value} {m:Int} {v:Value} (h:w.ownsRow base 23 1 (.slice (some ⟨g,0,none⟩) n cap) n xs) (hr:w.heap[g]? = some (.cells #[.int .i64 m,v] 99 (0,0))):False:=by
 rcases h.2 with ⟨h,_⟩|⟨g',cap',cur,e,_,hh,_⟩
 ·simp at h
 ·simp only[Value.slice.injEq,Option.some.injEq,Addr.mk.injEq] at e
  obtain ⟨⟨rfl,_⟩,_⟩:=e
  rw[hh] at hr
  simp at hr
theorem EdgeRow.upd2 {lim c g:Nat} {e:Bool} {w w':World} (h:EdgeRow lim c e w) (hu:Upd (fun k=>k=g) w w') (hc:¬c=g) (hq:∀ q m,w.heap[q]? = some (.cells #[.int .i64 m,.iface 59 (.int .i64 9)] 99 (0,0))→q≠g):EdgeRow lim c e w':=by
 obtain ⟨v,h1,h2⟩:=h
 refine ⟨v,(hu.block _ (row_lt h1) hc).trans h1,?_⟩
 split at h2
 ·obtain ⟨q,m,h3,h4,h5⟩:=h2
  rw[if_pos (by assumption)]
  exact ⟨q,m,h3,h4,(hu.block _ (row_lt h5) (hq q m h5)).trans h5⟩
 ·rw[if_neg (by assumption)];exact h2
def MhS (b base g n cap:Nat) (cs:Array Value) (C:List Nat) (w':World):Prop:=w'.heap[b]? = some (.cells cs 48 (0,0))∧w'.ownsRow base 23 1 (.slice (some ⟨g,0,none⟩) n cap) n (nvals C)
theorem mhsum_is {x y C:List Nat} (h1:x.length=y.length) (h2:C.length=y.length) (h:∀ i,C.getD i 0=if i<x.length then usum (x.getD i 0) (y.getD i 0) else y.getD i 0):C=mhSum x y:=by
 have hl:C.length=(mhSum x y).length:=by unfold mhSum;rw[List.length_map,List.length_range];omega
 refine List.ext_getElem hl fun i h3 h4=>?_
 have h5:=h i
 rw[List.getD_eq_getElem?_getD,List.getElem?_eq_getElem h3,if_pos (by omega)] at h5
 have h6:(mhSum x y)[i]'h4=usum (x.getD i 0) (y.getD i 0):=by simp[mhSum]
 rw[h6]
 simpa using h5
theorem mhist_any (a1 t1 k1:Nat) (ph1:Bool) (pn1:Nat) (nc1 nb1:List Nat) (es1:List Ex) (l1:List KV) (f1:Nat) (mh1:Bool) (mn1:Nat) (gh1:Bool) (gn1:Nat) (u1:List UInt8) (lo1:Option Addr) (lc1:Nat) (nco1:Option Addr) (ncc1:Nat) (nbo1:Option Addr) (nbc1:Nat) (eo1:Option Addr) (ec1:Nat) (a2 t2 k2:Nat) (ph2:Bool) (pn2:Nat) (nc2 nb2:List Nat) (es2:List Ex) (l2:List KV) (f2:Nat) (mh2:Bool) (mn2:Nat) (gh2:Bool) (gn2:Nat) (u2:List UInt8) (lo2:Option Addr) (lc2:Nat) (nco2:Option Addr) (ncc2:Nat) (nbo2:Option Addr) (nbc2:Nat) (eo2:Option Addr) (ec2:Nat) (P:Nat→Prop) (w:World) (hN1:Hid (Nats .u64 w nbo1 nb1)) (hC1:Hid (Nats .u64 w nco1 nc1)) (hN2:Hid (Nats .u64 w nbo2 nb2)) (hC2:Hid (Nats .u64 w nco2 nc2)) (hK2:Hid (KRels w P l2 lo2 0)) (hE2:Hid (CRels exCel w P es2 eo2)) (hlb1:nb1.length≤1000000) (hlc1:nc1.length≤1000000) (hlb2:nb2.length≤1000000) (hlc2:nc2.length≤1000000) (hle2:es2.length≤1000000) (hw2:ksw l2≤1000000) (hew:Hid (∀ x∈es2,ksw x.1.2.2≤1000000)) (hu64:Hid (k1<2^64∧k2<2^64∧pn1<2^64∧pn2<2^64∧mn1<2^64∧mn2<2^64∧gn1<2^64∧gn2<2^64)) (hec:Hid ((∀ n∈nc1,n<18446744073709551616)∧∀ n∈nc2,n<18446744073709551616)) :
  Calls Tryd.prog 13 #[.agg #[.slice lo1 l1.length lc1,.int .u64 (a1:Int),.int .u64 (t1:Int),.int .u64 (k1:Int),.bool ph1,.int .u64 (pn1:Int),.bool mh1,.int .u64 (mn1:Int),.bool gh1,.int .u64 (gn1:Int),.slice nco1 nc1.length ncc1,.slice nbo1 nb1.length nbc1,.slice eo1 es1.length ec1,.int .u32 (f1:Int),strV u1],.agg #[.slice lo2 l2.length lc2,.int .u64 (a2:Int),.int .u64 (t2:Int),.int .u64 (k2:Int),.bool ph2,.int .u64 (pn2:Int),.bool mh2,.int .u64 (mn2:Int),.bool gh2,.int .u64 (gn2:Int),.slice nco2 nc2.length ncc2,.slice nbo2 nb2.length nbc2,.slice eo2 es2.length ec2,.int .u32 (f2:Int),strV u2]] w (MhP ⟨k1,k2,nc1,nc2,nb1,nb2⟩ a1 t2 (bothO Fm.add (ph1,pn1) (ph2,pn2)) (bothO minF (mh1,mn1) (mh2,mn2)) (bothO maxF (gh1,gn1) (gh2,gn2)) es2 l2 f2 u2 w):=by
 obtain ⟨b1,HNb1⟩:∃ b,Hid (w.heap.size=b):=⟨_,Lib.hid rfl⟩
 obtain ⟨b2,HNb2⟩:∃ b,Hid (b1+1=b):=⟨_,Lib.hid rfl⟩
 obtain ⟨b3,HNb3⟩:∃ b,Hid (b2+1=b):=⟨_,Lib.hid rfl⟩
 obtain ⟨W_0,HW_0⟩:∃ X,Hid (w.alloc (.cells #[.slice lo1 l1.length lc1,.int .u64 (a1:Int),.int .u64 (t1:Int),.int .u64 (k1:Int),.bool ph1,.int .u64 (pn1:Int),.bool mh1,.int .u64 (mn1:Int),.bool gh1,.int .u64 (gn1:Int),.slice nco1 nc1.length ncc1,.slice nbo1 nb1.length nbc1,.slice eo1 es1.length ec1,.int .u32 (f1:Int),strV u1] 48)=X):=⟨_,Lib.hid rfl⟩
 have hbW_0:Below w.heap.size w W_0:=by rw[←HW_0.out];exact below_new _ _
 have hzW_0:W_0.heap.size=b1+1:=by rw[←HW_0.out];simp;exact HNb1.out
 have hxb1:W_0.heap[b1]? = some (.cells #[.slice lo1 l1.length lc1,.int .u64 (a1:Int),.int .u64 (t1:Int),.int .u64 (k1:Int),.bool ph1,.int .u64 (pn1:Int),.bool mh1,.int .u64 (mn1:Int),.bool gh1,.int .u64 (gn1:Int),.slice nco1 nc1.length ncc1,.slice nbo1 nb1.length nbc1,.slice eo1 es1.length ec1,.int .u32 (f1:Int),strV u1] 48 (0,0)):=by rw[←HW_0.out,←HNb1.out];exact heap_alloc_new w _
 obtain ⟨W_1,HW_1⟩:∃ X,Hid (W_0.alloc (.cells #[.slice lo2 l2.length lc2,.int .u64 (a2:Int),.int .u64 (t2:Int),.int .u64 (k2:Int),.bool ph2,.int .u64 (pn2:Int),.bool mh2,.int .u64 (mn2:Int),.bool gh2,.int .u64 (gn2:Int),.slice nco2 nc2.length ncc2,.slice nbo2 nb2.length nbc2,.slice eo2 es2.length ec2,.int .u32 (f2:Int),strV u2] 48)=X):=⟨_,Lib.hid rfl⟩
 have hbW_1:Below W_0.heap.size W_0 W_1:=by rw[←HW_1.out];exact below_new _ _
 have hzW_1:W_1.heap.size=b1+1+1:=by rw[←HW_1.out];simp;exact hzW_0
 have hxb2:W_1.heap[b2]? = some (.cells #[.slice lo2 l2.length lc2,.int .u64 (a2:Int),.int .u64 (t2:Int),.int .u64 (k2:Int),.bool ph2,.int .u64 (pn2:Int),.bool mh2,.int .u64 (mn2:Int),.bool gh2,.int .u64 (gn2:Int),.slice nco2 nc2.length ncc2,.slice nbo2 nb2.length nbc2,.slice eo2 es2.length ec2,.int .u32 (f2:Int),strV u2] 48 (0,0)):=by rw[←HW_1.out,←HNb2.out,←hzW_0];exact heap_alloc_new W_0 _
 obtain ⟨W,HW⟩:∃ X,Hid (W_1.alloc (.cells #[.slice none 0 0,.int .u64 0,.int .u64 0,.int .u64 0,.bool false,.int .u64 0,.bool false,.int .u64 0,.bool false,.int .u64 0,.slice none 0 0,.slice none 0 0,.slice none 0 0,.int .u32 0,.string ⟨#[]⟩] 48)=X):=⟨_,Lib.hid rfl⟩
 have hbW:Below W_1.heap.size W_1 W:=by rw[←HW.out];exact below_new _ _
 have hzW:W.heap.size=b1+1+1+1:=by rw[←HW.out];simp;exact hzW_1
 have hxb3:W.heap[b3]? = some (.cells #[.slice none 0 0,.int .u64 0,.int .u64 0,.int .u64 0,.bool false,.int .u64 0,.bool false,.int .u64 0,.bool false,.int .u64 0,.slice none 0 0,.slice none 0 0,.slice none 0 0,.int .u32 0,.string ⟨#[]⟩] 48 (0,0)):=by rw[←HW.out,←HNb3.out,←HNb2.out,←hzW_1];exact heap_alloc_new W_1 _
 have hxb1':=(hbW_1.block _ (row_lt hxb1)).trans hxb1
 have hxb1'':=(hbW.block _ (row_lt hxb1')).trans hxb1'
 have HXb1:=Lib.hid hxb1''
 have hxb2':=(hbW.block _ (row_lt hxb2)).trans hxb2
 have HXb2:=Lib.hid hxb2'
 have HXb3:=Lib.hid hxb3
 have HBW:Hid (Below w.heap.size w W):=Lib.hid (below_step (below_step hbW_0 hbW_1) hbW)
 clear hbW_0 hzW_0 hbW_1 hzW_1 hbW hzW hxb1 hxb1' hxb1'' hxb2 hxb2' hxb3
 obtain ⟨r,HR⟩:∃ r,Hid (MhIn.like ⟨k1,k2,nc1,nc2,nb1,nb2⟩=r):=⟨_,Lib.hid rfl⟩
 have HGE:Hid (w.heap.size≤b1∧b1<b2∧b2<b3):=Lib.hid ⟨by have:=HNb1.out;omega,by have:=HNb2.out;omega,by have h2:=HNb3.out;omega⟩
 have HB:=HBW
 have Rb1:=HXb1
 have Rb2:=HXb2
 have Rb3:=HXb3
 clear HBW HXb1 HXb2 HXb3
 go_enter Tryd.func13,Tryd.ntmps13
 go_upto_region 1 with fail
 (try rw[HW_0.out])
 (try rw[HW_1.out])
 (try rw[HW.out])
 rw[HNb1.out,HNb2.out,HNb3.out]
 refine wp_region_lit ?_
 refine wpList_load_mid rfl 48 (.tmp 2) rfl b1 0 rfl [.slice lo1 l1.length lc1,.int .u64 (a1:Int),.int .u64 (t1:Int),.int .u64 (k1:Int),.bool ph1,.int .u64 (pn1:Int),.bool mh1,.int .u64 (mn1:Int),.bool gh1,.int .u64 (gn1:Int),.slice nco1 nc1.length ncc1,.slice nbo1 nb1.length nbc1,.slice eo1 es1.length ec1,.int .u32 (f1:Int),strV u1] _ (range_rowf Rb1.out) Tryd.underlying48 rfl (by kernel_rfl) ?_
 refine wpList_load_mid rfl 48 (.tmp 3) rfl b2 0 rfl [.slice lo2 l2.length lc2,.int .u64 (a2:Int),.int .u64 (t2:Int),.int .u64 (k2:Int),.bool ph2,.int .u64 (pn2:Int),.bool mh2,.int .u64 (mn2:Int),.bool gh2,.int .u64 (gn2:Int),.slice nco2 nc2.length ncc2,.slice nbo2 nb2.length nbc2,.slice eo2 es2.length ec2,.int .u32 (f2:Int),strV u2] _ (range_rowf Rb2.out) Tryd.underlying48 rfl (by kernel_rfl) ?_
 refine wpList_plain rfl (fun K hK=>?_);go_simp
 refine (alikeh_any a1 t1 k1 ph1 pn1 nc1 nb1 es1 l1 f1 mh1 mn1 gh1 gn1 u1 lo1 lc1 nco1 ncc1 nbo1 nbc1 eo1 ec1 a2 t2 k2 ph2 pn2 nc2 nb2 es2 l2 f2 mh2 mn2 gh2 gn2 u2 lo2 lc2 nco2 ncc2 nbo2 nbc2 eo2 ec2 W (Lib.hid (hN1.out.below HB.out)) (Lib.hid (hN2.out.below HB.out)) hlb1 HR).mono ?_
 rintro E v1 ⟨hb,hy,hn⟩
 replace HB:=Lib.hid (below_step HB.out hb)
 replace Rb1:=Lib.hid ((hb.block _ (row_lt Rb1.out)).trans Rb1.out)
 replace Rb2:=Lib.hid ((hb.block _ (row_lt Rb2.out)).trans Rb2.out)
 replace Rb3:=Lib.hid ((hb.block _ (row_lt Rb3.out)).trans Rb3.out)
 cases r with
 | false =>
  obtain ⟨T,v,rfl,hv⟩:=hn rfl
  have HV:=Lib.hid hv
  clear hb hy hn hv
  go_simp
  refine hK _ _ ?_;clear hK K
  go_upto_region 3 with fail
  refine wp_region_lit ?_
  refine wpList_plain rfl (fun K hK=>?_);go_simp;refine hK _ _ ?_;clear hK K
  refine wpList_plain rfl (fun K hK=>?_);go_simp;refine hK _ _ ?_;clear hK K
  refine wpList_store_row rfl 48 (.tmp 4) (.tmp 16) rfl b3 #[.slice none 0 0,.int .u64 0,.int .u64 0,.int .u64 0,.bool false,.int .u64 0,.bool false,.int .u64 0,.bool false,.int .u64 0,.slice none 0 0,.slice none 0 0,.slice none 0 0,.int .u32 0,.string ⟨#[]⟩] rfl rfl 48 _ Rb3.out (by kernel_rfl) rfl (by simp[Value.oneCell']) ?_
  obtain ⟨v2,HW2⟩:∃ X,Hid (v1.setRow b3 #[.slice none 0 0,.int .u64 0,.int .u64 0,.int .u64 0,.bool false,.int .u64 0,.bool false,.int .u64 0,.bool false,.int .u64 0,.slice none 0 0,.slice none 0 0,.slice none 0 0,.int .u32 0,.string ⟨#[]⟩]=X):=⟨_,Lib.hid rfl⟩
  rw[HW2.out]
  have hu:Upd (fun k=>k=b3) v1 v2:=by rw[←HW2.out];exact upd_setRow _ _ _
  have hr:v2.heap[b3]? = some (.cells #[.slice none 0 0,.int .u64 0,.int .u64 0,.int .u64 0,.bool false,.int .u64 0,.bool false,.int .u64 0,.bool false,.int .u64 0,.slice none 0 0,.slice none 0 0,.slice none 0 0,.int .u32 0,.string ⟨#[]⟩] 48 (0,0)):=by rw[←HW2.out];exact setRow_heap _ _ _ _ _ _ Rb3.out
  replace HV:Hid (EC v2 (.iface T v) 13):=Lib.hid (ec_upd15 HV.out hu Rb3.out)
  replace HB:=Lib.hid (HB.out.trans (hu.below HB.out.size (fun k _ hk=>by have hk:k=b3:=hk;have:=HGE.out;omega)))
  replace Rb1:=Lib.hid ((hu.block _ (row_lt Rb1.out) (fun h=>by have h:b1=b3:=h;have:=HGE.out;omega)).trans Rb1.out)
  replace Rb2:=Lib.hid ((hu.block _ (row_lt Rb2.out) (fun h=>by have h:b2=b3:=h;have:=HGE.out;omega)).trans Rb2.out)
  replace Rb3:=Lib.hid (hr)
  clear hu hr
  go_wp2_with fail
  (try simp only[Exit.inBlock,Exit.then])
  refine body_cell2v rfl rfl (run_loadVar_row _ b3 48 48 _ (0,0) _ Rb3.out Tryd.underlying48 rfl (by kernel_rfl)) rfl ?_
  exact ⟨HB.out,fun _=>⟨_,_,rfl,HV.out⟩,fun h=>(by rw[HR.out] at h;cases h),fun h=>(by rw[HR.out] at h;cases h)⟩
 | true =>
  obtain rfl:=hy rfl
  clear hb hy hn
  go_simp
  refine hK _ _ ?_;clear hK K
  have HLL:Hid (nb1=nb2∧nc1.length=nc2.length):=Lib.hid (of_decide_eq_true HR.out)
  go_upto_region 4 with fail
  refine wp_region_lit ?_
  refine wpList_load_mid rfl 48 (.tmp 3) rfl b2 0 rfl [.slice lo2 l2.length lc2,.int .u64 (a2:Int),.int .u64 (t2:Int),.int .u64 (k2:Int),.bool ph2,.int .u64 (pn2:Int),.bool mh2,.int .u64 (mn2:Int),.bool gh2,.int .u64 (gn2:Int),.slice nco2 nc2.length ncc2,.slice nbo2 nb2.length nbc2,.slice eo2 es2.length ec2,.int .u32 (f2:Int),strV u2] _ (range_rowf Rb2.out) Tryd.underlying48 rfl (by kernel_rfl) ?_
  refine wpList_plain rfl (fun K hK=>?_);go_simp;refine hK _ _ ?_;clear hK K
  obtain ⟨b4,HN4⟩:∃ x,Hid (v1.heap.size=x):=⟨_,Lib.hid rfl⟩
  obtain ⟨v2,HW2⟩:∃ X,Hid (v1.alloc (.cells #[.slice none 0 0,.int .u64 0,.int .u64 0,.int .u64 0,.bool false,.int .u64 0,.bool false,.int .u64 0,.bool false,.int .u64 0,.slice none 0 0,.slice none 0 0,.slice none 0 0,.int .u32 0,.string ⟨#[]⟩] 48)=X):=⟨_,Lib.hid rfl⟩
  rw[HW2.out,HN4.out]
  have hb:Below v1.heap.size v1 v2:=by rw[←HW2.out];exact below_new _ _
  have hr:v2.heap[b4]? = some (.cells #[.slice none 0 0,.int .u64 0,.int .u64 0,.int .u64 0,.bool false,.int .u64 0,.bool false,.int .u64 0,.bool false,.int .u64 0,.slice none 0 0,.slice none 0 0,.slice none 0 0,.int .u32 0,.string ⟨#[]⟩] 48 (0,0)):=by rw[←HW2.out,←HN4.out];exact heap_alloc_new v1 _
  have HGEn:Hid ((w.heap.size≤b1∧b1<b2∧b2<b3)∧b3<b4):=Lib.hid ⟨HGE.out,by have h1:=row_lt Rb3.out;have h2:=HN4.out;omega⟩
  replace HB:=Lib.hid (below_step HB.out hb)
  replace Rb1:=Lib.hid ((hb.block _ (row_lt Rb1.out)).trans Rb1.out)
  replace Rb2:=Lib.hid ((hb.block _ (row_lt Rb2.out)).trans Rb2.out)
  replace Rb3:=Lib.hid ((hb.block _ (row_lt Rb3.out)).trans Rb3.out)
  have Rb4:=Lib.hid hr
  clear hb hr
  refine wpList_store_row rfl 48 (.tmp 7) (.tmp 18) rfl b4 #[.slice lo2 l2.length lc2,.int .u64 (a2:Int),.int .u64 (t2:Int),.int .u64 (k2:Int),.bool ph2,.int .u64 (pn2:Int),.bool mh2,.int .u64 (mn2:Int),.bool gh2,.int .u64 (gn2:Int),.slice nco2 nc2.length ncc2,.slice nbo2 nb2.length nbc2,.slice eo2 es2.length ec2,.int .u32 (f2:Int),strV u2] rfl rfl 48 _ Rb4.out (by kernel_rfl) rfl (by simp[Value.oneCell',strV]) ?_
  obtain ⟨v3,HW3⟩:∃ X,Hid (v2.setRow b4 #[.slice lo2 l2.length lc2,.int .u64 (a2:Int),.int .u64 (t2:Int),.int .u64 (k2:Int),.bool ph2,.int .u64 (pn2:Int),.bool mh2,.int .u64 (mn2:Int),.bool gh2,.int .u64 (gn2:Int),.slice nco2 nc2.length ncc2,.slice nbo2 nb2.length nbc2,.slice eo2 es2.length ec2,.int .u32 (f2:Int),strV u2]=X):=⟨_,Lib.hid rfl⟩
  rw[HW3.out]
  have hu:Upd (fun k=>k=b4) v2 v3:=by rw[←HW3.out];exact upd_setRow _ _ _
  have hr:v3.heap[b4]? = some (.cells #[.slice lo2 l2.length lc2,.int .u64 (a2:Int),.int .u64 (t2:Int),.int .u64 (k2:Int),.bool ph2,.int .u64 (pn2:Int),.bool mh2,.int .u64 (mn2:Int),.bool gh2,.int .u64 (gn2:Int),.slice nco2 nc2.length ncc2,.slice nbo2 nb2.length nbc2,.slice eo2 es2.length ec2,.int .u32 (f2:Int),strV u2] 48 (0,0)):=by rw[←HW3.out];exact setRow_heap _ _ _ _ _ _ Rb4.out
  replace HB:=Lib.hid (HB.out.trans (hu.below HB.out.size (fun k _ hk=>by have hk:k=b4:=hk;have:=HGEn.out;omega)))
  replace Rb1:=Lib.hid ((hu.block _ (row_lt Rb1.out) (fun h=>by have h:b1=b4:=h;have:=HGEn.out;omega)).trans Rb1.out)
  replace Rb2:=Lib.hid ((hu.block _ (row_lt Rb2.out) (fun h=>by have h:b2=b4:=h;have:=HGEn.out;omega)).trans Rb2.out)
  replace Rb3:=Lib.hid ((hu.block _ (row_lt Rb3.out) (fun h=>by have h:b3=b4:=h;have:=HGEn.out;omega)).trans Rb3.out)
  replace Rb4:=Lib.hid (hr)
  clear hu hr
  go_upto_region 5 with fail
  have x1:v3.cell? ⟨b1,1,none⟩=some (.int .u64 (a1:Int)):=row_cell Rb1.out (j:=1) rfl
  have y1:v3.cell? ⟨b4,1,none⟩=some (.int .u64 (a2:Int)):=row_cell Rb4.out (j:=1) rfl
  have z1:v3.frozen? ⟨b4,1,none⟩=false:=row_thaw Rb4.out 1
  go_upto_region 6 with fail
  obtain ⟨v4,HW4⟩:∃ X,Hid (v3.setCell ⟨b4,1,none⟩ (.int .u64 (a1:Int))=X):=⟨_,Lib.hid rfl⟩
  rw[HW4.out]
  have hu:Upd (fun k=>k=b4) v3 v4:=by rw[←HW4.out];exact Upd.set v3 ⟨b4,1,none⟩ (.int .u64 (a1:Int))
  have hr:v4.heap[b4]? = some (.cells #[.slice lo2 l2.length lc2,.int .u64 (a1:Int),.int .u64 (t2:Int),.int .u64 (k2:Int),.bool ph2,.int .u64 (pn2:Int),.bool mh2,.int .u64 (mn2:Int),.bool gh2,.int .u64 (gn2:Int),.slice nco2 nc2.length ncc2,.slice nbo2 nb2.length nbc2,.slice eo2 es2.length ec2,.int .u32 (f2:Int),strV u2] 48 (0,0)):=by rw[←HW4.out];exact row_set Rb4.out 1 (.int .u64 (a1:Int))
  replace HB:=Lib.hid (HB.out.trans (hu.below HB.out.size (fun k _ hk=>by have hk:k=b4:=hk;have:=HGEn.out;omega)))
  replace Rb1:=Lib.hid ((hu.block _ (row_lt Rb1.out) (fun h=>by have h:b1=b4:=h;have:=HGEn.out;omega)).trans Rb1.out)
  replace Rb2:=Lib.hid ((hu.block _ (row_lt Rb2.out) (fun h=>by have h:b2=b4:=h;have:=HGEn.out;omega)).trans Rb2.out)
  replace Rb3:=Lib.hid ((hu.block _ (row_lt Rb3.out) (fun h=>by have h:b3=b4:=h;have:=HGEn.out;omega)).trans Rb3.out)
  replace Rb4:=Lib.hid (hr)
  clear hu hr
  clear x1 y1 z1
  obtain ⟨op,HOp⟩:∃ o,Hid (bothO Fm.add (ph1,pn1) (ph2,pn2)=o):=⟨_,Lib.hid rfl⟩
  have x4:v4.cell? ⟨b1,4,none⟩=some (.bool ph1):=row_cell Rb1.out (j:=4) rfl
  have x5:v4.cell? ⟨b1,5,none⟩=some (.int .u64 (pn1:Int)):=row_cell Rb1.out (j:=5) rfl
  have y4:v4.cell? ⟨b2,4,none⟩=some (.bool ph2):=row_cell Rb2.out (j:=4) rfl
  have y5:v4.cell? ⟨b2,5,none⟩=some (.int .u64 (pn2:Int)):=row_cell Rb2.out (j:=5) rfl
  have HF:=Lib.hid (both_o Fm.add 23 ph1 ph2 pn1 pn2 (Lib.hid (fun w=>add_at pn1 pn2 _ w (by have:=hu64.out;omega) (by have:=hu64.out;omega) (Lib.hid rfl))) (enters_of Tryd.func23 (by kernel_rfl) rfl) v4)
  rw[HOp.out] at HF
  go_wp2_with fail
  refine (HF.out).mono ?_
  rintro E wu0 ⟨rfl,hb⟩
  clear HF x4 x5 y4 y5
  replace HB:=Lib.hid (below_step HB.out hb)
  replace Rb1:=Lib.hid ((hb.block _ (row_lt Rb1.out)).trans Rb1.out)
  replace Rb2:=Lib.hid ((hb.block _ (row_lt Rb2.out)).trans Rb2.out)
  replace Rb3:=Lib.hid ((hb.block _ (row_lt Rb3.out)).trans Rb3.out)
  replace Rb4:=Lib.hid ((hb.block _ (row_lt Rb4.out)).trans Rb4.out)
  clear hb
  have y4:wu0.cell? ⟨b4,4,none⟩=some (.bool ph2):=row_cell Rb4.out (j:=4) rfl
  have y5:wu0.cell? ⟨b4,5,none⟩=some (.int .u64 (pn2:Int)):=row_cell Rb4.out (j:=5) rfl
  have z4:wu0.frozen? ⟨b4,4,none⟩=false:=row_thaw Rb4.out 4
  have z5:wu0.frozen? ⟨b4,5,none⟩=false:=row_thaw Rb4.out 5
  go_upto_region 7 with fail
  obtain ⟨s0,HS0⟩:∃ X,Hid ((wu0.setCell ⟨b4,4,none⟩ (.bool op.1)).setCell ⟨b4,5,none⟩ (.int .u64 (op.2:Int))=X):=⟨_,Lib.hid rfl⟩
  rw[HS0.out]
  have hu:Upd (fun k=>k=b4) wu0 s0:=by rw[←HS0.out];exact (Upd.set wu0 ⟨b4,4,none⟩ (.bool op.1)).trans (Upd.set _ ⟨b4,5,none⟩ (.int .u64 (op.2:Int)))
  have hr1:(wu0.setCell ⟨b4,4,none⟩ (.bool op.1)).heap[b4]? = some (.cells #[.slice lo2 l2.length lc2,.int .u64 (a1:Int),.int .u64 (t2:Int),.int .u64 (k2:Int),.bool op.1,.int .u64 (pn2:Int),.bool mh2,.int .u64 (mn2:Int),.bool gh2,.int .u64 (gn2:Int),.slice nco2 nc2.length ncc2,.slice nbo2 nb2.length nbc2,.slice eo2 es2.length ec2,.int .u32 (f2:Int),strV u2] 48 (0,0)):=row_set Rb4.out 4 (.bool op.1)
  have hr:s0.heap[b4]? = some (.cells #[.slice lo2 l2.length lc2,.int .u64 (a1:Int),.int .u64 (t2:Int),.int .u64 (k2:Int),.bool op.1,.int .u64 (op.2:Int),.bool mh2,.int .u64 (mn2:Int),.bool gh2,.int .u64 (gn2:Int),.slice nco2 nc2.length ncc2,.slice nbo2 nb2.length nbc2,.slice eo2 es2.length ec2,.int .u32 (f2:Int),strV u2] 48 (0,0)):=by rw[←HS0.out];exact row_set hr1 5 (.int .u64 (op.2:Int))
  replace HB:=Lib.hid (HB.out.trans (hu.below HB.out.size (fun k _ hk=>by have hk:k=b4:=hk;have:=HGEn.out;omega)))
  replace Rb1:=Lib.hid ((hu.block _ (row_lt Rb1.out) (fun h=>by have h:b1=b4:=h;have:=HGEn.out;omega)).trans Rb1.out)
  replace Rb2:=Lib.hid ((hu.block _ (row_lt Rb2.out) (fun h=>by have h:b2=b4:=h;have:=HGEn.out;omega)).trans Rb2.out)
  replace Rb3:=Lib.hid ((hu.block _ (row_lt Rb3.out) (fun h=>by have h:b3=b4:=h;have:=HGEn.out;omega)).trans Rb3.out)
  replace Rb4:=Lib.hid (hr)
  clear hu hr hr1
  clear y4 y5 z4 z5
  obtain ⟨om,HOm⟩:∃ o,Hid (bothO minF (mh1,mn1) (mh2,mn2)=o):=⟨_,Lib.hid rfl⟩
  have x6:s0.cell? ⟨b1,6,none⟩=some (.bool mh1):=row_cell Rb1.out (j:=6) rfl
  have x7:s0.cell? ⟨b1,7,none⟩=some (.int .u64 (mn1:Int)):=row_cell Rb1.out (j:=7) rfl
  have y6:s0.cell? ⟨b2,6,none⟩=some (.bool mh2):=row_cell Rb2.out (j:=6) rfl
  have y7:s0.cell? ⟨b2,7,none⟩=some (.int .u64 (mn2:Int)):=row_cell Rb2.out (j:=7) rfl
  have HF:=Lib.hid (both_o minF 24 mh1 mh2 mn1 mn2 (Lib.hid (fun w=>min_any mn1 mn2  w (by have:=hu64.out;omega) (by have:=hu64.out;omega) (Lib.hid rfl))) (enters_of Tryd.func24 (by kernel_rfl) rfl) s0)
  rw[HOm.out] at HF
  go_wp2_with fail
  refine (HF.out).mono ?_
  rintro E wu1 ⟨rfl,hb⟩
  clear HF x6 x7 y6 y7
  replace HB:=Lib.hid (below_step HB.out hb)
  replace Rb1:=Lib.hid ((hb.block _ (row_lt Rb1.out)).trans Rb1.out)
  replace Rb2:=Lib.hid ((hb.block _ (row_lt Rb2.out)).trans Rb2.out)
  replace Rb3:=Lib.hid ((hb.block _ (row_lt Rb3.out)).trans Rb3.out)
  replace Rb4:=Lib.hid ((hb.block _ (row_lt Rb4.out)).trans Rb4.out)
  clear hb
  have y6:wu1.cell? ⟨b4,6,none⟩=some (.bool mh2):=row_cell Rb4.out (j:=6) rfl
  have y7:wu1.cell? ⟨b4,7,none⟩=some (.int .u64 (mn2:Int)):=row_cell Rb4.out (j:=7) rfl
  have z6:wu1.frozen? ⟨b4,6,none⟩=false:=row_thaw Rb4.out 6
  have z7:wu1.frozen? ⟨b4,7,none⟩=false:=row_thaw Rb4.out 7
  go_upto_region 8 with fail
  obtain ⟨s1,HS1⟩:∃ X,Hid ((wu1.setCell ⟨b4,6,none⟩ (.bool om.1)).setCell ⟨b4,7,none⟩ (.int .u64 (om.2:Int))=X):=⟨_,Lib.hid rfl⟩
  rw[HS1.out]
  have hu:Upd (fun k=>k=b4) wu1 s1:=by rw[←HS1.out];exact (Upd.set wu1 ⟨b4,6,none⟩ (.bool om.1)).trans (Upd.set _ ⟨b4,7,none⟩ (.int .u64 (om.2:Int)))
  have hr1:(wu1.setCell ⟨b4,6,none⟩ (.bool om.1)).heap[b4]? = some (.cells #[.slice lo2 l2.length lc2,.int .u64 (a1:Int),.int .u64 (t2:Int),.int .u64 (k2:Int),.bool op.1,.int .u64 (op.2:Int),.bool om.1,.int .u64 (mn2:Int),.bool gh2,.int .u64 (gn2:Int),.slice nco2 nc2.length ncc2,.slice nbo2 nb2.length nbc2,.slice eo2 es2.length ec2,.int .u32 (f2:Int),strV u2] 48 (0,0)):=row_set Rb4.out 6 (.bool om.1)
  have hr:s1.heap[b4]? = some (.cells #[.slice lo2 l2.length lc2,.int .u64 (a1:Int),.int .u64 (t2:Int),.int .u64 (k2:Int),.bool op.1,.int .u64 (op.2:Int),.bool om.1,.int .u64 (om.2:Int),.bool gh2,.int .u64 (gn2:Int),.slice nco2 nc2.length ncc2,.slice nbo2 nb2.length nbc2,.slice eo2 es2.length ec2,.int .u32 (f2:Int),strV u2] 48 (0,0)):=by rw[←HS1.out];exact row_set hr1 7 (.int .u64 (om.2:Int))
  replace HB:=Lib.hid (HB.out.trans (hu.below HB.out.size (fun k _ hk=>by have hk:k=b4:=hk;have:=HGEn.out;omega)))
  replace Rb1:=Lib.hid ((hu.block _ (row_lt Rb1.out) (fun h=>by have h:b1=b4:=h;have:=HGEn.out;omega)).trans Rb1.out)
  replace Rb2:=Lib.hid ((hu.block _ (row_lt Rb2.out) (fun h=>by have h:b2=b4:=h;have:=HGEn.out;omega)).trans Rb2.out)
  replace Rb3:=Lib.hid ((hu.block _ (row_lt Rb3.out) (fun h=>by have h:b3=b4:=h;have:=HGEn.out;omega)).trans Rb3.out)
  replace Rb4:=Lib.hid (hr)
  clear hu hr hr1
  clear y6 y7 z6 z7
  obtain ⟨og,HOg⟩:∃ o,Hid (bothO maxF (gh1,gn1) (gh2,gn2)=o):=⟨_,Lib.hid rfl⟩
  have x8:s1.cell? ⟨b1,8,none⟩=some (.bool gh1):=row_cell Rb1.out (j:=8) rfl
  have x9:s1.cell? ⟨b1,9,none⟩=some (.int .u64 (gn1:Int)):=row_cell Rb1.out (j:=9) rfl
  have y8:s1.cell? ⟨b2,8,none⟩=some (.bool gh2):=row_cell Rb2.out (j:=8) rfl
  have y9:s1.cell? ⟨b2,9,none⟩=some (.int .u64 (gn2:Int)):=row_cell Rb2.out (j:=9) rfl
  have HF:=Lib.hid (both_o maxF 25 gh1 gh2 gn1 gn2 (Lib.hid (fun w=>max_any gn1 gn2  w (by have:=hu64.out;omega) (by have:=hu64.out;omega) (Lib.hid rfl))) (enters_of Tryd.func25 (by kernel_rfl) rfl) s1)
  rw[HOg.out] at HF
  go_wp2_with fail
  refine (HF.out).mono ?_
  rintro E wu2 ⟨rfl,hb⟩
  clear HF x8 x9 y8 y9
  replace HB:=Lib.hid (below_step HB.out hb)
  replace Rb1:=Lib.hid ((hb.block _ (row_lt Rb1.out)).trans Rb1.out)
  replace Rb2:=Lib.hid ((hb.block _ (row_lt Rb2.out)).trans Rb2.out)
  replace Rb3:=Lib.hid ((hb.block _ (row_lt Rb3.out)).trans Rb3.out)
  replace Rb4:=Lib.hid ((hb.block _ (row_lt Rb4.out)).trans Rb4.out)
  clear hb
  have y8:wu2.cell? ⟨b4,8,none⟩=some (.bool gh2):=row_cell Rb4.out (j:=8) rfl
  have y9:wu2.cell? ⟨b4,9,none⟩=some (.int .u64 (gn2:Int)):=row_cell Rb4.out (j:=9) rfl
  have z8:wu2.frozen? ⟨b4,8,none⟩=false:=row_thaw Rb4.out 8
  have z9:wu2.frozen? ⟨b4,9,none⟩=false:=row_thaw Rb4.out 9
  go_upto_region 9 with fail
  obtain ⟨s2,HS2⟩:∃ X,Hid ((wu2.setCell ⟨b4,8,none⟩ (.bool og.1)).setCell ⟨b4,9,none⟩ (.int .u64 (og.2:Int))=X):=⟨_,Lib.hid rfl⟩
  rw[HS2.out]
  have hu:Upd (fun k=>k=b4) wu2 s2:=by rw[←HS2.out];exact (Upd.set wu2 ⟨b4,8,none⟩ (.bool og.1)).trans (Upd.set _ ⟨b4,9,none⟩ (.int .u64 (og.2:Int)))
  have hr1:(wu2.setCell ⟨b4,8,none⟩ (.bool og.1)).heap[b4]? = some (.cells #[.slice lo2 l2.length lc2,.int .u64 (a1:Int),.int .u64 (t2:Int),.int .u64 (k2:Int),.bool op.1,.int .u64 (op.2:Int),.bool om.1,.int .u64 (om.2:Int),.bool og.1,.int .u64 (gn2:Int),.slice nco2 nc2.length ncc2,.slice nbo2 nb2.length nbc2,.slice eo2 es2.length ec2,.int .u32 (f2:Int),strV u2] 48 (0,0)):=row_set Rb4.out 8 (.bool og.1)
  have hr:s2.heap[b4]? = some (.cells #[.slice lo2 l2.length lc2,.int .u64 (a1:Int),.int .u64 (t2:Int),.int .u64 (k2:Int),.bool op.1,.int .u64 (op.2:Int),.bool om.1,.int .u64 (om.2:Int),.bool og.1,.int .u64 (og.2:Int),.slice nco2 nc2.length ncc2,.slice nbo2 nb2.length nbc2,.slice eo2 es2.length ec2,.int .u32 (f2:Int),strV u2] 48 (0,0)):=by rw[←HS2.out];exact row_set hr1 9 (.int .u64 (og.2:Int))
  replace HB:=Lib.hid (HB.out.trans (hu.below HB.out.size (fun k _ hk=>by have hk:k=b4:=hk;have:=HGEn.out;omega)))
  replace Rb1:=Lib.hid ((hu.block _ (row_lt Rb1.out) (fun h=>by have h:b1=b4:=h;have:=HGEn.out;omega)).trans Rb1.out)
  replace Rb2:=Lib.hid ((hu.block _ (row_lt Rb2.out) (fun h=>by have h:b2=b4:=h;have:=HGEn.out;omega)).trans Rb2.out)
  replace Rb3:=Lib.hid ((hu.block _ (row_lt Rb3.out) (fun h=>by have h:b3=b4:=h;have:=HGEn.out;omega)).trans Rb3.out)
  replace Rb4:=Lib.hid (hr)
  clear hu hr hr1
  clear y8 y9 z8 z9
  go_upto_region 10 with fail
  obtain ⟨b5,HN5⟩:∃ x,Hid (s2.heap.size=x):=⟨_,Lib.hid rfl⟩
  obtain ⟨q0,HQ0⟩:∃ X,Hid (s2.alloc (.cells #[.nilIface] 74)=X):=⟨_,Lib.hid rfl⟩
  rw[HQ0.out,HN5.out]
  have hb:Below s2.heap.size s2 q0:=by rw[←HQ0.out];exact below_new _ _
  have hr:q0.heap[b5]? = some (.cells #[.nilIface] 74 (0,0)):=by rw[←HQ0.out,←HN5.out];exact heap_alloc_new s2 _
  have HGEnn:Hid (((w.heap.size≤b1∧b1<b2∧b2<b3)∧b3<b4)∧b4<b5):=Lib.hid ⟨HGEn.out,by have h1:=row_lt Rb4.out;have h2:=HN5.out;omega⟩
  replace HB:=Lib.hid (below_step HB.out hb)
  replace Rb1:=Lib.hid ((hb.block _ (row_lt Rb1.out)).trans Rb1.out)
  replace Rb2:=Lib.hid ((hb.block _ (row_lt Rb2.out)).trans Rb2.out)
  replace Rb3:=Lib.hid ((hb.block _ (row_lt Rb3.out)).trans Rb3.out)
  replace Rb4:=Lib.hid ((hb.block _ (row_lt Rb4.out)).trans Rb4.out)
  have Rb5:=Lib.hid hr
  clear hb hr
  have RE:Hid (EdgeRow (b5+1) b5 false q0):=Lib.hid (EdgeRow.no Rb5.out)
  have HLT:Hid (b5<q0.heap.size):=Lib.hid (row_lt Rb5.out)
  clear Rb5
  have x3:q0.cell? ⟨b1,3,none⟩=some (.int .u64 (k1:Int)):=row_cell Rb1.out (j:=3) rfl
  have y3:q0.cell? ⟨b2,3,none⟩=some (.int .u64 (k2:Int)):=row_cell Rb2.out (j:=3) rfl
  obtain ⟨e0,HE0⟩:∃ e,Hid (decide (18446744073709551616≤k1+k2)=e):=⟨_,Lib.hid rfl⟩
  go_wp2_with fail
  refine (plus_any 4 k1 k2 (by have:=hu64.out;omega) (by have:=hu64.out;omega) (b5+1) b5 false q0 HLT.out RE (e':=e0) (Lib.hid (by rw[Bool.false_or];exact HE0.out))).mono ?_
  rintro E q1 ⟨rfl,hu,he⟩
  clear x3 y3
  replace HB:=Lib.hid (HB.out.trans (hu.below HB.out.size (fun k _ hk=>by have hk:k=b5:=hk;have:=HGEnn.out;omega)))
  replace Rb1:=Lib.hid ((hu.block _ (row_lt Rb1.out) (fun h=>by have h:b1=b5:=h;have:=HGEnn.out;omega)).trans Rb1.out)
  replace Rb2:=Lib.hid ((hu.block _ (row_lt Rb2.out) (fun h=>by have h:b2=b5:=h;have:=HGEnn.out;omega)).trans Rb2.out)
  replace Rb3:=Lib.hid ((hu.block _ (row_lt Rb3.out) (fun h=>by have h:b3=b5:=h;have:=HGEnn.out;omega)).trans Rb3.out)
  replace Rb4:=Lib.hid ((hu.block _ (row_lt Rb4.out) (fun h=>by have h:b4=b5:=h;have:=HGEnn.out;omega)).trans Rb4.out)
  replace RE:=Lib.hid he
  clear hu he
  have y3:q1.cell? ⟨b4,3,none⟩=some (.int .u64 (k2:Int)):=row_cell Rb4.out (j:=3) rfl
  have z3:q1.frozen? ⟨b4,3,none⟩=false:=row_thaw Rb4.out 3
  obtain ⟨ck,HCK⟩:∃ c,Hid (usum k1 k2=c):=⟨_,Lib.hid rfl⟩
  rw[HCK.out]
  go_upto_region 11 with fail
  obtain ⟨q2,HQ2⟩:∃ X,Hid (q1.setCell ⟨b4,3,none⟩ (.int .u64 (ck:Int))=X):=⟨_,Lib.hid rfl⟩
  rw[HQ2.out]
  have hu:Upd (fun k=>k=b4) q1 q2:=by rw[←HQ2.out];exact Upd.set q1 ⟨b4,3,none⟩ (.int .u64 (ck:Int))
  have hr:q2.heap[b4]? = some (.cells #[.slice lo2 l2.length lc2,.int .u64 (a1:Int),.int .u64 (t2:Int),.int .u64 (ck:Int),.bool op.1,.int .u64 (op.2:Int),.bool om.1,.int .u64 (om.2:Int),.bool og.1,.int .u64 (og.2:Int),.slice nco2 nc2.length ncc2,.slice nbo2 nb2.length nbc2,.slice eo2 es2.length ec2,.int .u32 (f2:Int),strV u2] 48 (0,0)):=by rw[←HQ2.out];exact row_set Rb4.out 3 (.int .u64 (ck:Int))
  replace HB:=Lib.hid (HB.out.trans (hu.below HB.out.size (fun k _ hk=>by have hk:k=b4:=hk;have:=HGEnn.out;omega)))
  replace Rb1:=Lib.hid ((hu.block _ (row_lt Rb1.out) (fun h=>by have h:b1=b4:=h;have:=HGEnn.out;omega)).trans Rb1.out)
  replace Rb2:=Lib.hid ((hu.block _ (row_lt Rb2.out) (fun h=>by have h:b2=b4:=h;have:=HGEnn.out;omega)).trans Rb2.out)
  replace Rb3:=Lib.hid ((hu.block _ (row_lt Rb3.out) (fun h=>by have h:b3=b4:=h;have:=HGEnn.out;omega)).trans Rb3.out)
  replace Rb4:=Lib.hid (hr)
  replace RE:=Lib.hid (RE.out.upd hu (fun h=>by have h:b5=b4:=h;have:=HGEnn.out;omega) (fun k hk=>by have hk:k=b4:=hk;have:=HGEnn.out;omega))
  clear hu hr
  clear y3 z3
  have HZ2:Hid (b5<q2.heap.size):=Lib.hid (by obtain ⟨v,h,_⟩:=RE.out;exact row_lt h)
  refine wp_region_lit ?_
  refine wpList_load_mid rfl 48 (.tmp 7) rfl b4 0 rfl [.slice lo2 l2.length lc2,.int .u64 (a1:Int),.int .u64 (t2:Int),.int .u64 (ck:Int),.bool op.1,.int .u64 (op.2:Int),.bool om.1,.int .u64 (om.2:Int),.bool og.1,.int .u64 (og.2:Int),.slice nco2 nc2.length ncc2,.slice nbo2 nb2.length nbc2,.slice eo2 es2.length ec2,.int .u32 (f2:Int),strV u2] _ (range_rowf Rb4.out) Tryd.underlying48 rfl (by kernel_rfl) ?_
  refine wpList_plain rfl (fun K hKK=>?_);go_simp
  refine (frhist_any a1 t2 ck op.1 op.2 nc2 nb2 es2 l2 f2 om.1 om.2 og.1 og.2 u2 lo2 lc2 nco2 ncc2 nbo2 nbc2 eo2 ec2 P q2 hw2 hlc2 hlb2 hle2 hew (Lib.hid (hK2.out.below HB.out)) (Lib.hid (hC2.out.below HB.out)) (Lib.hid (hN2.out.below HB.out)) (Lib.hid (hE2.out.below HB.out))).mono ?_
  rintro E q3 ⟨hb,lo,lc,nco,ncc,nbo,nbc,eo,ec,rfl,hO,hKR,hNB,hEX⟩
  go_simp
  refine hKK _ _ ?_;clear hKK K
  replace HB:=Lib.hid (below_step HB.out hb)
  replace Rb1:=Lib.hid ((hb.block _ (row_lt Rb1.out)).trans Rb1.out)
  replace Rb2:=Lib.hid ((hb.block _ (row_lt Rb2.out)).trans Rb2.out)
  replace Rb3:=Lib.hid ((hb.block _ (row_lt Rb3.out)).trans Rb3.out)
  replace Rb4:=Lib.hid ((hb.block _ (row_lt Rb4.out)).trans Rb4.out)
  replace RE:=Lib.hid (RE.out.upd (Upd.of_new (S:=fun _=>False) hb) (fun h=>h) (fun _ h=>h.elim))
  have HLQ:=Lib.hid hb.size
  have HO:=Lib.hid hO
  have HKR:=Lib.hid hKR
  have HNB:=Lib.hid hNB
  have HEX:=Lib.hid hEX
  clear hb hO hKR hNB hEX
  refine wpList_store_row rfl 48 (.tmp 7) (.tmp 47) rfl b4 #[.slice lo l2.length lc,.int .u64 (a1:Int),.int .u64 (t2:Int),.int .u64 (ck:Int),.bool op.1,.int .u64 (op.2:Int),.bool om.1,.int .u64 (om.2:Int),.bool og.1,.int .u64 (og.2:Int),.slice nco nc2.length ncc,.slice nbo nb2.length nbc,.slice eo es2.length ec,.int .u32 (f2:Int),strV u2] rfl rfl 48 _ Rb4.out (by kernel_rfl) rfl (by simp[Value.oneCell',strV]) ?_
  obtain ⟨q4,HQ4⟩:∃ X,Hid (q3.setRow b4 #[.slice lo l2.length lc,.int .u64 (a1:Int),.int .u64 (t2:Int),.int .u64 (ck:Int),.bool op.1,.int .u64 (op.2:Int),.bool om.1,.int .u64 (om.2:Int),.bool og.1,.int .u64 (og.2:Int),.slice nco nc2.length ncc,.slice nbo nb2.length nbc,.slice eo es2.length ec,.int .u32 (f2:Int),strV u2]=X):=⟨_,Lib.hid rfl⟩
  rw[HQ4.out]
  have hu:Upd (fun k=>k=b4) q3 q4:=by rw[←HQ4.out];exact upd_setRow _ _ _
  have hr:q4.heap[b4]? = some (.cells #[.slice lo l2.length lc,.int .u64 (a1:Int),.int .u64 (t2:Int),.int .u64 (ck:Int),.bool op.1,.int .u64 (op.2:Int),.bool om.1,.int .u64 (om.2:Int),.bool og.1,.int .u64 (og.2:Int),.slice nco nc2.length ncc,.slice nbo nb2.length nbc,.slice eo es2.length ec,.int .u32 (f2:Int),strV u2] 48 (0,0)):=by rw[←HQ4.out];exact setRow_heap _ _ _ _ _ _ Rb4.out
  replace HO:=Lib.hid (hu.own HO.out (fun k hk h=>by have h:k=b4:=h;have h1:=own_blk HO.out hk;have h2:=HGEnn.out;have h3:=HZ2.out;omega))
  replace HB:=Lib.hid (HB.out.trans (hu.below HB.out.size (fun k _ hk=>by have hk:k=b4:=hk;have:=HGEnn.out;omega)))
  replace Rb1:=Lib.hid ((hu.block _ (row_lt Rb1.out) (fun h=>by have h:b1=b4:=h;have:=HGEnn.out;omega)).trans Rb1.out)
  replace Rb2:=Lib.hid ((hu.block _ (row_lt Rb2.out) (fun h=>by have h:b2=b4:=h;have:=HGEnn.out;omega)).trans Rb2.out)
  replace Rb3:=Lib.hid ((hu.block _ (row_lt Rb3.out) (fun h=>by have h:b3=b4:=h;have:=HGEnn.out;omega)).trans Rb3.out)
  replace Rb4:=Lib.hid (hr)
  replace RE:=Lib.hid (RE.out.upd hu (fun h=>by have h:b5=b4:=h;have:=HGEnn.out;omega) (fun k hk=>by have hk:k=b4:=hk;have:=HGEnn.out;omega))
  have HU4:=Lib.hid hu
  clear hu hr
  go_upto_region 12 with fail
  have x10:q4.cell? ⟨b1,10,none⟩=some (.slice nco1 nc1.length ncc1):=row_cell Rb1.out (j:=10) rfl
  go_wp2_with fail
  clear x10
  have HOB:Hid (∀ k,(Value.slice nco nc2.length ncc).ownBlock=some k→q2.heap.size≤k):=Lib.hid (fun k hk=>(own_blk HO.out hk).1)
  have HBE:Hid (w.heap.size≤b1∧b1<b5∧b2<b5∧b3<b5∧b4<b5∧b5<q2.heap.size):=Lib.hid (by have h1:=HGEnn.out;have h2:=HZ2.out;omega)
  go_loopg [51] nc1.length (fun k i wr=>∃ (j:Nat) (C:List Nat) (eb:Bool),i = .int .i64 (j:Int)∧j+k=nc1.length∧C.length=nc2.length∧Hid (Upd (fun k=>(Value.slice nco nc2.length ncc).ownBlock=some k∨k=b5) q4 wr)∧Hid (wr.ownsRow q2.heap.size 23 1 (.slice nco nc2.length ncc) nc2.length (nvals C))∧Hid (EdgeRow (b5+1) b5 eb wr)∧Hid (∀ i,C.getD i 0=if i<j then usum (nc1.getD i 0) (nc2.getD i 0) else nc2.getD i 0)∧Hid (eb=(e0||mhOv nc1 nc2 j)))
  case atStart=>exact ⟨0,nc2,e0,rfl,by omega,rfl,Lib.hid (Upd.refl _ _),HO,RE,Lib.hid (fun i=>by rw[if_neg (by omega)]),Lib.hid (by unfold mhOv;simp)⟩
  case round =>
   obtain ⟨j,C,eb,rfl,hj,hcl,HU,HOW,HED,HCG,HEB⟩:=hrel
   have HJ:=Lib.hid hj
   have HCL:=Lib.hid hcl
   clear hj hcl
   have HNS:Hid (∀ k,k=b1∨k=b2∨k=b3∨k=b4→¬((Value.slice nco nc2.length ncc).ownBlock=some k∨k=b5)):=Lib.hid (fun k hk hh=>by have h1:=HBE.out;rcases hh with hh|hh;(have h2:=HOB.out k hh;omega);omega)
   have HBR:Hid (Below w.heap.size w wr):=Lib.hid (HB.out.trans (HU.out.below HB.out.size (fun k _ hk=>by have h1:=HBE.out;rcases hk with hk|hk;(have h2:=HOB.out k hk;omega);omega)))
   have Tb1:=Lib.hid ((HU.out.block _ (row_lt Rb1.out) (HNS.out _ (by omega))).trans Rb1.out)
   have Tb2:=Lib.hid ((HU.out.block _ (row_lt Rb2.out) (HNS.out _ (by omega))).trans Rb2.out)
   have Tb3:=Lib.hid ((HU.out.block _ (row_lt Rb3.out) (HNS.out _ (by omega))).trans Rb3.out)
   have Tb4:=Lib.hid ((HU.out.block _ (row_lt Rb4.out) (HNS.out _ (by omega))).trans Rb4.out)
   by_cases hlt:j<nc1.length
   ·have hltm:j<nc2.length:=by have:=HLL.out;omega
    obtain ⟨g1,o1,n,HNN,rfl,hg1,hc1⟩:=(hC1.out.below HBR.out).at hlt
    obtain ⟨g,cap',hv,hgb,hgl,-,-⟩:=own_some HOW.out (by omega)
    simp only[Value.slice.injEq] at hv
    obtain ⟨rfl,-,-⟩:=hv
    have HN9:Hid (n<18446744073709551616):=Lib.hid (by rw[HNN.out];exact hec.out.1 _ (List.getElem_mem hlt))
    have HX9:Hid (nc2.getD j 0<18446744073709551616):=Lib.hid (getD_lt9 hec.out.2 j)
    have HNG:Hid (n=nc1.getD j 0):=Lib.hid (by rw[HNN.out,List.getD_eq_getElem?_getD,List.getElem?_eq_getElem hlt];rfl)
    obtain ⟨x,HXX⟩:∃ x,Hid (nc2.getD j 0=x):=⟨_,Lib.hid rfl⟩
    have HCX:Hid (C.getD j 0=x):=Lib.hid (by have h:=HCG.out j;rw[if_neg (by omega)] at h;exact h.trans HXX.out)
    have HG9:=Lib.hid hgb
    have HGW:=Lib.hid hgl
    clear hgb hgl
    have i1:(j:Int)<(nc1.length:Int):=by omega
    have i0:(0:Int)≤(j:Int):=by omega
    have i3:(j:Int)<(nc2.length:Int):=by omega
    go_upto_region 15 with fail
    clear hc1
    obtain ⟨D,hD⟩:∃ D,wr.drew=D:=⟨_,rfl⟩
    have HUD:Hid (Upd (fun _=>False) wr D):=Lib.hid (by rw[←hD];exact Upd.drew _ _)
    have hS:MhS b4 q2.heap.size g nc2.length ncc #[.slice lo l2.length lc,.int .u64 (a1:Int),.int .u64 (t2:Int),.int .u64 (ck:Int),.bool op.1,.int .u64 (op.2:Int),.bool om.1,.int .u64 (om.2:Int),.bool og.1,.int .u64 (og.2:Int),.slice (some ⟨g,0,none⟩) nc2.length ncc,.slice nbo nb2.length nbc,.slice eo es2.length ec,.int .u32 (f2:Int),strV u2] C D:=⟨(HUD.out.block _ (row_lt Tb4.out) (fun h=>h)).trans Tb4.out,HUD.out.own HOW.out (fun _ _ h=>h)⟩
    have HED2:Hid (EdgeRow (b5+1) b5 eb D):=Lib.hid (HED.out.upd HUD.out (fun h=>h) (fun _ h=>h.elim))
    have HLD:Hid (b5+1≤D.heap.size):=Lib.hid (by obtain ⟨v,h,_⟩:=HED2.out;have:=row_lt h;omega)
    have hne:Nonempty {w':World // MhS b4 q2.heap.size g nc2.length ncc #[.slice lo l2.length lc,.int .u64 (a1:Int),.int .u64 (t2:Int),.int .u64 (ck:Int),.bool op.1,.int .u64 (op.2:Int),.bool om.1,.int .u64 (om.2:Int),.bool og.1,.int .u64 (og.2:Int),.slice (some ⟨g,0,none⟩) nc2.length ncc,.slice nbo nb2.length nbc,.slice eo es2.length ec,.int .u32 (f2:Int),strV u2] C w'}:=⟨⟨_,hS⟩⟩
    have hl:∀ s:{w':World // MhS b4 q2.heap.size g nc2.length ncc #[.slice lo l2.length lc,.int .u64 (a1:Int),.int .u64 (t2:Int),.int .u64 (ck:Int),.bool op.1,.int .u64 (op.2:Int),.bool om.1,.int .u64 (om.2:Int),.bool og.1,.int .u64 (og.2:Int),.slice (some ⟨g,0,none⟩) nc2.length ncc,.slice nbo nb2.length nbc,.slice eo es2.length ec,.int .u32 (f2:Int),strV u2] C w'},s.1.cell? ⟨b4,10,none⟩=some (.slice (some ⟨g,0,none⟩) nc2.length ncc):=fun s=>row_cell s.2.1 (j:=10) rfl
    have hle:∀ s:{w':World // MhS b4 q2.heap.size g nc2.length ncc #[.slice lo l2.length lc,.int .u64 (a1:Int),.int .u64 (t2:Int),.int .u64 (ck:Int),.bool op.1,.int .u64 (op.2:Int),.bool om.1,.int .u64 (om.2:Int),.bool og.1,.int .u64 (og.2:Int),.slice (some ⟨g,0,none⟩) nc2.length ncc,.slice nbo nb2.length nbc,.slice eo es2.length ec,.int .u32 (f2:Int),strV u2] C w'},s.1.cell? ⟨g,j,none⟩=some (.int .u64 (x:Int)):=fun s=>by
     rw[←HCX.out];exact (s.2.2.cellAt j (by omega)).trans (nvals_at C j (by have:=HCL.out;omega))
    refine wp_region_seqB (MhS b4 q2.heap.size g nc2.length ncc #[.slice lo l2.length lc,.int .u64 (a1:Int),.int .u64 (t2:Int),.int .u64 (ck:Int),.bool op.1,.int .u64 (op.2:Int),.bool om.1,.int .u64 (om.2:Int),.bool og.1,.int .u64 (og.2:Int),.slice (some ⟨g,0,none⟩) nc2.length ncc,.slice nbo nb2.length nbc,.slice eo es2.length ec,.int .u32 (f2:Int),strV u2] C) [11] [(0,true),(1,true),(2,true),(3,true),(4,true),(5,true),(6,true),(7,true),(8,true),(9,false),(10,true),(11,false)] (by kernel_rfl) (by kernel_rfl) (by kernel_rfl) (by kernel_rfl) ?_
    rw[hD]
    clear hD
    iterate 9 (refine seqB_take _ rfl hS (fun KC hK=>?_);go_simp;(first|refine hK _ ?_|refine ⟨_,fun _ _=>rfl,hK _ ?_⟩);clear hK KC)
    clear hl hle hne
    obtain ⟨e2,HE2⟩:∃ e,Hid ((eb||decide (18446744073709551616≤n+x))=e):=⟨_,Lib.hid rfl⟩
    refine seqB_come _ rfl (fun KC hK=>?_);go_simp
    refine (plus_any 6 n x HN9.out (by rw[←HXX.out];exact HX9.out) (b5+1) b5 eb D HLD.out HED2 HE2).mono ?_;rintro E w1 ⟨rfl,hu,her⟩
    have hgd:¬g=b5:=by have h1:=HBE.out;have h2:=HG9.out;omega
    have h45:¬b4=b5:=by have h1:=HBE.out;omega
    have hS1:MhS b4 q2.heap.size g nc2.length ncc #[.slice lo l2.length lc,.int .u64 (a1:Int),.int .u64 (t2:Int),.int .u64 (ck:Int),.bool op.1,.int .u64 (op.2:Int),.bool om.1,.int .u64 (om.2:Int),.bool og.1,.int .u64 (og.2:Int),.slice (some ⟨g,0,none⟩) nc2.length ncc,.slice nbo nb2.length nbc,.slice eo es2.length ec,.int .u32 (f2:Int),strV u2] C w1:=⟨(hu.block _ (row_lt hS.1) h45).trans hS.1,hu.own hS.2 (fun k hk hh=>by simp[Value.ownBlock] at hk;subst hk;exact hgd hh)⟩
    go_simp;refine hK.out _ _ (fun _=>hS1) ?_;clear hK KC
    refine seqB_take _ rfl hS1 (fun KC hK=>?_);go_simp;(first|refine hK _ ?_|refine ⟨_,fun _ _=>rfl,hK _ ?_⟩);clear hK KC
    have HU1:Hid (Upd (fun k=>(Value.slice (some ⟨g,0,none⟩) nc2.length ncc).ownBlock=some k∨k=b5) q4 w1):=Lib.hid (HU.out.trans ((HUD.out.mono (fun _ _ h=>h.elim)).trans (hu.mono (fun k _ h => .inr h))))
    have HS1:=Lib.hid hS1
    have HER:=Lib.hid her
    clear hu her hS hS1 hgd h45
    have hfz:w1.frozen? ⟨g,j,none⟩=false:=HS1.out.2.frozenAt j
    have hce:w1.cell? ⟨g,j,none⟩=some (.int .u64 (x:Int)):=by rw[←HCX.out];exact (HS1.out.2.cellAt j (by omega)).trans (nvals_at C j (by have:=HCL.out;omega))
    obtain ⟨z,HZ⟩:∃ z,Hid (usum n x=z):=⟨_,Lib.hid rfl⟩
    rw[HZ.out]
    refine seqB_come _ rfl (fun KC hK=>?_);go_simp
    refine hK.out _ _ (fun h=>by cases h) ?_;clear hK KC
    refine seqB_done ?_
    have HO4:=Lib.hid (HS1.out.2.stored j (.int .u64 (z:Int))).1
    have hu2:=Upd.set w1 ⟨g,j,none⟩ (.int .u64 (z:Int))
    rw[nvals_set] at HO4
    have HU2:Hid (Upd (fun k=>(Value.slice (some ⟨g,0,none⟩) nc2.length ncc).ownBlock=some k∨k=b5) q4 (w1.setCell ⟨g,j,none⟩ (.int .u64 (z:Int)))):=Lib.hid (HU1.out.trans (hu2.mono (fun k _ h => .inl (by have h:k=g:=h;subst h;rfl))))
    have HE4:Hid (EdgeRow (b5+1) b5 e2 (w1.setCell ⟨g,j,none⟩ (.int .u64 (z:Int)))):=Lib.hid (HER.out.upd2 hu2 (fun h=>by have h:b5=g:=h;have h1:=HBE.out;have h2:=HG9.out;omega) (fun q m hq he=>by subst he;exact own_not_field HS1.out.2 hq))
    have HCG2:Hid (∀ i,(C.set j z).getD i 0=if i<j+1 then usum (nc1.getD i 0) (nc2.getD i 0) else nc2.getD i 0):=Lib.hid (fun i=>by
     rw[set_getD C i j z (by have:=HCL.out;omega)]
     by_cases he:i=j
     ·rw[if_pos he,if_pos (by omega),he,←HZ.out,HNG.out,HXX.out]
     ·rw[if_neg he,HCG.out i]
      by_cases h2:i<j
      ·rw[if_pos h2,if_pos (by omega)]
      ·rw[if_neg h2,if_neg (by omega)])
    have HEB2:Hid (e2=(e0||mhOv nc1 nc2 (j+1))):=Lib.hid (by rw[←HE2.out,HEB.out,mhOv_step,←HNG.out,HXX.out,Bool.or_assoc])
    have hcl2:(C.set j z).length=nc2.length:=by rw[List.length_set];exact HCL.out
    clear hu2 hfz hce
    go_wp2_with fail
    have hj:=HJ.out
    go_roundg (gk - 1)
    case measure=>omega
    case rel=>exact ⟨j+1,C.set j z,e2,by simp,by omega,hcl2,HU2,HO4,HE4,HCG2,HEB2⟩
   ·have hje:j=nc1.length:=by have:=HJ.out;omega
    subst hje
    have HSUM:Hid (C=mhSum nc1 nc2):=Lib.hid (mhsum_is HLL.out.2 HCL.out HCG.out)
    have HOV:Hid (MhIn.over ⟨k1,k2,nc1,nc2,nb1,nb2⟩=eb):=Lib.hid (by unfold MhIn.over;rw[HEB.out,←HE0.out])
    cases eb with
    | false =>
     have hce:wr.cell? ⟨b5,0,none⟩=some .nilIface:=row_cell HED.out.row_no (j:=0) rfl
     go_upto_region 19 with fail
     clear hce
     refine wp_region_lit ?_
     refine wpList_load_mid rfl 48 (.tmp 7) rfl b4 0 rfl [.slice lo l2.length lc,.int .u64 (a1:Int),.int .u64 (t2:Int),.int .u64 (ck:Int),.bool op.1,.int .u64 (op.2:Int),.bool om.1,.int .u64 (om.2:Int),.bool og.1,.int .u64 (og.2:Int),.slice nco nc2.length ncc,.slice nbo nb2.length nbc,.slice eo es2.length ec,.int .u32 (f2:Int),strV u2] _ (range_rowf Tb4.out) Tryd.underlying48 rfl (by kernel_rfl) ?_
     refine wpList_store_row rfl 48 (.tmp 4) (.tmp 74) rfl b3 #[.slice lo l2.length lc,.int .u64 (a1:Int),.int .u64 (t2:Int),.int .u64 (ck:Int),.bool op.1,.int .u64 (op.2:Int),.bool om.1,.int .u64 (om.2:Int),.bool og.1,.int .u64 (og.2:Int),.slice nco nc2.length ncc,.slice nbo nb2.length nbc,.slice eo es2.length ec,.int .u32 (f2:Int),strV u2] rfl rfl 48 _ Tb3.out (by kernel_rfl) rfl (by simp[Value.oneCell',strV]) ?_
     obtain ⟨wz,HWZ⟩:∃ X,Hid (wr.setRow b3 #[.slice lo l2.length lc,.int .u64 (a1:Int),.int .u64 (t2:Int),.int .u64 (ck:Int),.bool op.1,.int .u64 (op.2:Int),.bool om.1,.int .u64 (om.2:Int),.bool og.1,.int .u64 (og.2:Int),.slice nco nc2.length ncc,.slice nbo nb2.length nbc,.slice eo es2.length ec,.int .u32 (f2:Int),strV u2]=X):=⟨_,Lib.hid rfl⟩
     rw[HWZ.out]
     have hu:Upd (fun k=>k=b3) wr wz:=by rw[←HWZ.out];exact upd_setRow _ _ _
     have hr:wz.heap[b3]? = some (.cells #[.slice lo l2.length lc,.int .u64 (a1:Int),.int .u64 (t2:Int),.int .u64 (ck:Int),.bool op.1,.int .u64 (op.2:Int),.bool om.1,.int .u64 (om.2:Int),.bool og.1,.int .u64 (og.2:Int),.slice nco nc2.length ncc,.slice nbo nb2.length nbc,.slice eo es2.length ec,.int .u32 (f2:Int),strV u2] 48 (0,0)):=by rw[←HWZ.out];exact setRow_heap _ _ _ _ _ _ Tb3.out
     have HUZ:=Lib.hid hu
     have HRZ:=Lib.hid hr
     clear hu hr
     go_wp2_with fail
     (try simp only[Exit.inBlock,Exit.then])
     refine body_cell2v rfl rfl (run_loadVar_row _ b3 48 48 _ (0,0) _ HRZ.out Tryd.underlying48 rfl (by kernel_rfl)) rfl ?_
     have hsz:w.heap.size≤q2.heap.size:=by have h1:=HBE.out;omega
     have HUA:Hid (Upd (fun k=>(Value.slice nco nc2.length ncc).ownBlock=some k∨k<q2.heap.size) q3 wz):=Lib.hid (((HU4.out.mono (fun k _ h => .inr (by have h:k=b4:=h;have h1:=HBE.out;omega))).trans (HU.out.mono (fun k _ h=>by rcases h with h|h;exact .inl h;exact .inr (by have h1:=HBE.out;omega)))).trans (HUZ.out.mono (fun k _ h => .inr (by have h:k=b3:=h;have h1:=HBE.out;omega))))
     refine ⟨HBR.out.trans (HUZ.out.below HBR.out.size (fun k _ hk=>by have hk:k=b3:=hk;have h1:=HBE.out;have h2:=HGEnn.out;omega)),fun h=>(by rw[HR.out] at h;cases h),fun _ h=>(by rw[HOV.out] at h;cases h),fun _ _=>?_⟩
     refine ⟨lo,lc,nco,ncc,nbo,nbc,eo,ec,(by rw[←HCK.out,←HOp.out,←HOm.out,←HOg.out];first|done|rfl),?_,?_,?_,?_⟩
     ·exact KRels.upd HUA.out (fun k hk hh=>by rcases hh with hh|hh;exact hk.2.2 hh;omega) (fun k hk=>by omega) _ _ _ HKR.out
     ·have h:=HUZ.out.own HOW.out (fun k hk hh=>by have hh:k=b3:=hh;have h1:=HOB.out k hk;have h2:=HBE.out;omega)
      rw[←HSUM.out]
      have h2:=HCL.out
      rw[←h2] at h
      exact nats_ownf h
     ·exact CRels.upd HUA.out (fun k hk hh=>by rcases hh with hh|hh;exact hk.2.2 hh;omega) (fun k hk=>by omega) HNB.out
     ·exact CRels.upd HUA.out (fun k hk hh=>by rcases hh with hh|hh;exact hk.2.2 hh;omega) (fun k hk=>by omega) HEX.out
    | true =>
     obtain ⟨p0,m0,hq,hre,hrq⟩:=HED.out.row_yes
     have hce:wr.cell? ⟨b5,0,none⟩=some (.iface 97 (.pointer (some ⟨p0,0,none⟩))):=row_cell hre (j:=0) rfl
     clear hq hre hrq
     go_wp2_with fail
     obtain ⟨D,hD⟩:∃ D,wr.drew=D:=⟨_,rfl⟩
     have hud:Upd (fun _=>False) wr D:=by rw[←hD];exact Upd.drew _ _
     have HBD:Hid (Below w.heap.size w D):=Lib.hid (HBR.out.trans (hud.below HBR.out.size (fun _ _ h=>h.elim)))
     have HRD:=Lib.hid ((hud.block _ (row_lt Tb3.out) (fun h=>h)).trans Tb3.out)
     have hS:EdgeRow (b5+1) b5 true D:=HED.out.upd hud (fun h=>h) (fun k h=>h.elim)
     obtain ⟨p1,m1,hq,hre,hrq⟩:=hS.row_yes
     have HRQ:=Lib.hid (And.intro hq hrq)
     clear hS hud hrq hq hce
     have hne:Nonempty {w':World // w'.heap[b5]? = some (.cells #[.iface 97 (.pointer (some ⟨p1,0,none⟩))] 74 (0,0))}:=⟨⟨_,hre⟩⟩
     have hlc:∀ s:{w':World // w'.heap[b5]? = some (.cells #[.iface 97 (.pointer (some ⟨p1,0,none⟩))] 74 (0,0))},s.1.cell? ⟨b5,0,none⟩=some (.iface 97 (.pointer (some ⟨p1,0,none⟩))):=fun s=>row_cell s.2 (j:=0) rfl
     refine wp_region_seq (S:=fun w':World=>w'.heap[b5]? = some (.cells #[.iface 97 (.pointer (some ⟨p1,0,none⟩))] 74 (0,0))) [(0,true),(1,true),(2,true),(3,false),(4,true)] (by kernel_rfl) (by kernel_rfl) (by kernel_rfl) (by kernel_rfl) (by rw[hD];exact hre) ?_
     rw[hD]
     clear hD
     iterate 3 (refine seq_take _ rfl (fun KC hK=>?_);go_simp;(first|refine hK _ ?_|refine ⟨_,fun _ _=>rfl,hK _ ?_⟩);clear hK KC)
     clear hlc hne
     refine seq_come _ rfl (fun KC hK=>?_)
     have h35:¬b5=b3:=by have h1:=HBE.out;omega
     rw[if_pos (by kernel_rfl)]
     refine wp_store_row 48 (.tmp 4) (.tmp 71) rfl b3 #[.slice none 0 0,.int .u64 0,.int .u64 0,.int .u64 0,.bool false,.int .u64 0,.bool false,.int .u64 0,.bool false,.int .u64 0,.slice none 0 0,.slice none 0 0,.slice none 0 0,.int .u32 0,.string ⟨#[]⟩] rfl rfl 48 _ HRD.out (by kernel_rfl) rfl (by simp[Value.oneCell']) ?_
     obtain ⟨wz,HWZ⟩:∃ X,Hid (D.setRow b3 #[.slice none 0 0,.int .u64 0,.int .u64 0,.int .u64 0,.bool false,.int .u64 0,.bool false,.int .u64 0,.bool false,.int .u64 0,.slice none 0 0,.slice none 0 0,.slice none 0 0,.int .u32 0,.string ⟨#[]⟩]=X):=⟨_,Lib.hid rfl⟩
     rw[HWZ.out]
     have hu:Upd (fun k=>k=b3) D wz:=by rw[←HWZ.out];exact upd_setRow _ _ _
     have hr:wz.heap[b3]? = some (.cells #[.slice none 0 0,.int .u64 0,.int .u64 0,.int .u64 0,.bool false,.int .u64 0,.bool false,.int .u64 0,.bool false,.int .u64 0,.slice none 0 0,.slice none 0 0,.slice none 0 0,.int .u32 0,.string ⟨#[]⟩] 48 (0,0)):=by rw[←HWZ.out];exact setRow_heap _ _ _ _ _ _ HRD.out
     have HUZ:=Lib.hid hu
     have HRZ:=Lib.hid hr
     refine hK.out _ _ ((hu.block _ (row_lt hre) h35).trans hre) ?_;clear hK KC
     clear hu hr
     refine seq_take _ rfl (fun KC hK=>?_);go_simp;(first|refine hK _ ?_|refine ⟨_,fun _ _=>rfl,hK _ ?_⟩);clear hK KC
     refine seq_done ?_
     go_wp2_with fail
     (try simp only[Exit.inBlock,Exit.then])
     refine body_cell2v rfl rfl (run_loadVar_row _ b3 48 48 _ (0,0) _ HRZ.out Tryd.underlying48 rfl (by kernel_rfl)) rfl ?_
     refine ⟨HBD.out.trans (HUZ.out.below HBD.out.size (fun k _ hk=>by have hk:k=b3:=hk;have h1:=HBE.out;have h2:=HGEnn.out;omega)),fun h=>(by rw[HR.out] at h;cases h),fun _ _=>⟨_,_,rfl,?_⟩,fun _ h=>(by rw[HOV.out] at h;cases h)⟩
     exact field_ec ((HUZ.out.block _ (row_lt HRQ.out.2) (fun hk=>by have hk:p1=b3:=hk;have h9:=HBE.out;have:=HRQ.out.1;omega)).trans HRQ.out.2)
end Go.Proofs.YtoggpnfeioaidaaDoor
