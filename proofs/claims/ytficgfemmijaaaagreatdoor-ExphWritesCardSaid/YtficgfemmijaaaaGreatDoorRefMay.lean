/-
 hygref8.MayValue, MayKey, MayKeys: may attributes be?
-/
import Derived.Test.YtficgfemmijaaaaGreatDoorRowL
import Derived.Test.YtficgfemmijaaaaGreatDoorValOut
set_option maxRecDepth 1000000
set_option maxHeartbeats 16000000
namespace Go.Proofs.YtficgfemmijaaaaGreatDoor
open Go.RowKit
open Lib (hid)
def MyPost (r:Bool)(w:World)(e:Ending)(w':World):Prop:=Below w.heap.size w w'∧∃ g:Bool,e = .returned (.bool g)∧g=r
def MyV (x:Val):Prop:=∀ (ca:List Value) (P:Nat→Prop) (w:World) (d:Int),vfit x→VRel w P x ca → -9223372036854775808≤d∧d≤9223372036854775807→vw x≤100000→Calls Tryz.prog 145 #[.agg ca.toArray,.int .i64 d] w (MyPost (vmayD x d) w)
def MyK (x:KV):Prop:=∀ (ca:List Value) (P:Nat→Prop) (w:World) (d:Int),kfit x→KRel w P x ca → -9223372036854775808≤d∧d≤9223372036854775807→kw x≤100000→Calls Tryz.prog 100 #[.agg ca.toArray,.int .i64 d] w (MyPost (kmayD x d) w)
def MyKs (l:List KV):Prop:=∀ (lo:Option Addr) (lc:Nat) (P:Nat→Prop) (w:World) (d:Int),ksfit l→KRels w P l lo 0 → -9223372036854775808≤d∧d≤9223372036854775807→ksw l≤100000→Calls Tryz.prog 47 #[.slice lo l.length lc,.int .i64 d] w (MyPost (l.all fun x=>kmayD x d) w)
structure Bx (p:Prop):Prop where
 out:p
theorem wpList_plainG {P:Program}{ops:Array Oper}{Q:Exit→Act→World→Prop}{a:Act}{w:World}{rest:List Oper}{o:Oper}(hg:o.guard=none)(h:∀ K:Act→World→Prop,(∀ a w,Bx (wpList P ops Q rest a w)→K a w)→o.wp P a w K Q):Bx (wpList P ops Q (o::rest) a w):=Bx.mk (wpList_plain hg fun K hK=>h K fun a w h=>hK a w h.out)
theorem wpList_yesG {P:Program}{ops:Array Oper}{Q:Exit→Act→World→Prop}{a:Act}{w:World}{rest:List Oper}{o:Oper}{g s:Nat}{b:Bool}{og:Oper}(hg:o.guard=some (g,b))(ho:ops[g]? = some og)(hd:og.dst=some s)(hv:a.tmps[s]? = some (.bool b))(h:∀ K:Act→World→Prop,(∀ a w,Bx (wpList P ops Q rest a w)→K a w)→o.wp P a w K Q):Bx (wpList P ops Q (o::rest) a w) :=
 Bx.mk (wpList_step fun K hK=>by
  have:Region.wanted o (yielded ops a.tmps)=true:=by simp[Region.wanted,hg,yielded,ho,hd,hv]
  rw[if_pos this];exact h K fun a w h=>hK a w h.out)
theorem wpList_noG {P:Program}{ops:Array Oper}{Q:Exit→Act→World→Prop}{a:Act}{w:World}{rest:List Oper}{o:Oper}{g s:Nat}{b c:Bool}{og:Oper}(hg:o.guard=some (g,b))(ho:ops[g]? = some og)(hd:og.dst=some s)(hv:a.tmps[s]? = some (.bool c))(hbc:b=!c)(h:∀ K:Act→World→Prop,(∀ a w,Bx (wpList P ops Q rest a w)→K a w)→K (a.put o.dst undef) w):Bx (wpList P ops Q (o::rest) a w) :=
 Bx.mk (wpList_step fun K hK=>by
  have:¬Region.wanted o (yielded ops a.tmps)=true:=by simp[Region.wanted,hg,yielded,ho,hd,hv,hbc]
  rw[if_neg this];exact h K fun a w h=>hK a w h.out)
theorem wpList_unG {P:Program}{ops:Array Oper}{Q:Exit→Act→World→Prop}{a:Act}{w:World}{rest:List Oper}{o:Oper}{g s:Nat}{b:Bool}{og:Oper}{v:Value}(hg:o.guard=some (g,b))(ho:ops[g]? = some og)(hd:og.dst=some s)(hv:a.tmps[s]? = some v)(hu:∀ c,v ≠ .bool c)(h:∀ K:Act→World→Prop,(∀ a w,Bx (wpList P ops Q rest a w)→K a w)→K (a.put o.dst undef) w):Bx (wpList P ops Q (o::rest) a w) :=
 Bx.mk (wpList_step fun K hK=>by
  have:¬Region.wanted o (yielded ops a.tmps)=true:=by
   simp only[Region.wanted,hg,yielded,ho,hd,hv,Option.bind_some]
   cases v<;>simp_all
  rw[if_neg this];exact h K fun a w h=>hK a w h.out)
theorem wpList_nilG {P:Program}{ops:Array Oper}{Q:Exit→Act→World→Prop}{a:Act}{w:World}(h:Q .normal a w):Bx (wpList P ops Q [] a w):=Bx.mk (wpList_nil h)
theorem wp_region_litG {P:Program}{Q:Exit→Act→World→Prop}{a:Act}{w:World}{id:Nat}{l:List Oper}(h:Bx (wpList P l.toArray Q l a w)):(Code.region id l.toArray false).wp P Q a w:=wp_region_lit h.out
def Row11 (w:World)(g:Nat)(c:List Value):Prop:=w.heap[g]? = some (.cells c.toArray 79 (0,0))
theorem mykeys_step (l:List KV)(hk:Hid (∀ x∈l,MyK x)):MyKs l:=by
 intro lo lc P w d hfit ha hd hsz;have HA:=hid ha;have HFIT:=hid hfit;have HD:=hid hd;have HSZ:=hid hsz;have hlen:l.length≤100000:=by have:=ksw_len l;omega
 clear ha hfit hd hsz;go_enter Tryz.func47,Tryz.ntmps47;go_wp2_with fail
 go_loopg [5] l.length (fun k i wr=>∃ (j:Nat),i = .int .i64 j∧j+k=l.length∧Below w.heap.size w wr∧Hid (((l.take j).all fun x=>kmayD x d)=true))
 case atStart=>exact ⟨0,rfl,by omega,Below.refl _ _,hid rfl⟩
 case round =>
  obtain ⟨j,rfl,hj,hbr,HRM⟩:=hrel;have HBR:=hid hbr;have HJ:=hid hj;clear hbr hj
  by_cases hlt:j<l.length
  ·obtain ⟨ga,oa,ca,rfl,hga,hca,hra⟩:=krels_at0 (HA.out.below HBR.out) j hlt
   have hmem:=List.getElem_mem hlt;obtain ⟨x,hx⟩:∃ x,l[j]=x:=⟨_,rfl⟩
   have HKX:=hid (hk.out x (hx ▸ hmem));have HFX:=hid (ksfit_at HFIT.out x (hx ▸ hmem));have HTK:Hid (((l.take (j+1)).all fun x=>kmayD x d)=(((l.take j).all fun x=>kmayD x d)&&kmayD x d)):=hid (by rw[List.take_succ_eq_append_getElem hlt,List.all_append,hx];simp);have HWX:Hid (kw x≤100000):=hid (by have:=ksw_at hlt;rw[hx] at this;have:=HSZ.out;omega)
   have HALL:Hid (kmayD x d=false→(l.all fun x=>kmayD x d)=false):=hid (fun h=>by
    cases hh:l.all fun x=>kmayD x d with
    | false=>rfl
    | true=>have:=List.all_eq_true.1 hh x (hx ▸ hmem);rw[h] at this;cases this)
   rw[hx] at hra;have HRA:=hid hra;obtain ⟨K0,h0,k1,S1,b1,n1,l1,ln1,lc1,m1,mn1,mc1,I1,U1,Y1,rfl⟩:=hra.form;have HCA:=hid hca;clear hx hmem hra hca;obtain ⟨ev0,ev1,ev2,ev3,ev4,ev5,ev6,ev7,ev8,ev9,ev10⟩:=cells11 HCA.out;go_wp2_with fail;refine (HKX.out _ P wr d HFX.out HRA.out HD.out HWX.out).mono ?_;intro e w5 hpost;obtain ⟨hb5,g,rfl,hg⟩:=hpost;have HBW:=hid (below_step HBR.out hb5);have HG:=hid hg;clear hb5 ev0 ev1 ev2 ev3 ev4 ev5 ev6 ev7 ev8 ev9 ev10 hg
   cases g with
   | false =>
    go_wp2_with fail;go_ret;exact ⟨HBW.out,false,rfl,(HALL.out HG.out.symm).symm⟩
   | true =>
    go_wp2_with fail;have hj:=HJ.out
    go_roundg (gk - 1)
    case measure=>omega
    case rel=>exact ⟨j+1,by simp,by omega,HBW.out,hid (by rw[HTK.out,HRM.out,←HG.out];rfl)⟩
  ·have hjn:j=l.length:=by have:=HJ.out;omega
   have HRE:Hid ((l.all fun x=>kmayD x d)=true):=hid (by have h:=HRM.out;rwa [hjn,List.take_length] at h);clear hjn;go_wp2_with fail;go_ret;exact ⟨HBR.out,true,rfl,HRE.out.symm⟩
theorem myv_neg (k:Int)(s:List UInt8)(b0:Bool)(n:Nat)(l:List Val)(m:List KV)(i u:List UInt8)(ca:List Value)(P:Nat→Prop)(w:World)(d:Int)(hfit:vfit (.mk k s b0 n l m i u))(ha:VRel w P (.mk k s b0 n l m i u) ca)(hd:-9223372036854775808≤d∧d≤9223372036854775807)(hsz:vw (.mk k s b0 n l m i u)≤100000)(h0:d<0) :
  Calls Tryz.prog 145 #[.agg ca.toArray,.int .i64 d] w (MyPost (vmayD (.mk k s b0 n l m i u) d) w):=by
 have HNO:Hid (vmayD (.mk k s b0 n l m i u) d=false):=hid (by rw[vmayD,decide_eq_false (by omega)];rfl);have d1:decide (d<0)=true:=decide_eq_true h0;clear h0;rw[VRel] at ha;rw[vfit] at hfit;obtain ⟨hkr,hn,_,_,_,hfl,hfm⟩:=hfit;obtain ⟨lo,lc,mo,mc,rfl,hal,ham⟩:=ha;rw[vw] at hsz;have HAL:=hid hal;have HAM:=hid ham;have HFL:=hid hfl;have HFM:=hid hfm;have HD:=hid hd;have HSZ:=hid hsz;obtain ⟨SA,hSA⟩:∃ Y:ByteArray,(⟨s.toArray⟩:ByteArray)=Y:=⟨_,rfl⟩
 obtain ⟨IA,hIA⟩:∃ Y:ByteArray,(⟨i.toArray⟩:ByteArray)=Y:=⟨_,rfl⟩
 obtain ⟨UA,hUA⟩:∃ Y:ByteArray,(⟨u.toArray⟩:ByteArray)=Y:=⟨_,rfl⟩
 have HSA:Hid (SA.data.toList=s):=hid (by rw[←hSA]);have HIA:Hid (IA.data.toList=i):=hid (by rw[←hIA]);have HUA:Hid (UA.data.toList=u):=hid (by rw[←hUA]);have HSS:Hid (SA.size≤100000):=hid (by rw[←hSA];simp[ByteArray.size];omega);have HIS:Hid (IA.size≤100000):=hid (by rw[←hIA];simp[ByteArray.size];omega);have HUS:Hid (UA.size≤100000):=hid (by rw[←hUA];simp[ByteArray.size];omega);unfold strV;rw[hSA,hIA,hUA];have hll:l.length≤100000:=by have:=vsw_len l;omega
 have hlm:m.length≤100000:=by have:=ksw_len m;omega
 obtain ⟨W,hW⟩:∃ W,w.alloc (.cells [.int .i64 k,.string SA,.bool b0,.int .u64 n,.slice lo l.length lc,.slice mo m.length mc,.string IA,.string UA].toArray 77)=W:=⟨_,rfl⟩
 obtain ⟨bx,hbx⟩:∃ bx,w.heap.size=bx:=⟨_,rfl⟩
 have HB0:Hid (Below w.heap.size w W):=hid (by rw[←hW];exact below_new _ _);have HX0:Hid (Row8 W bx [.int .i64 k,.string SA,.bool b0,.int .u64 n,.slice lo l.length lc,.slice mo m.length mc,.string IA,.string UA]):=hid (by rw[←hW,←hbx];exact heap_alloc_new w _);have HW:=hid hW;have HBX:=hid hbx;clear hW hbx hSA hIA hUA hal ham hfl hfm hn hkr hd hsz;go_enter Tryz.func145,Tryz.ntmps145;go_wp2_with fail;rw[show w.alloc (.cells #[.int .i64 k,.string SA,.bool b0,.int .u64 n,.slice lo l.length lc,.slice mo m.length mc,.string IA,.string UA] 77)=W from HW.out,HBX.out];obtain ⟨D,hD⟩:∃ D,W.drew=D:=⟨_,rfl⟩
 have HBD:Hid (Below W.heap.size W D):=hid (by rw[←hD];exact (Below.refl _ _).drew);have hS:Row8 D bx [.int .i64 k,.string SA,.bool b0,.int .u64 n,.slice lo l.length lc,.slice mo m.length mc,.string IA,.string UA]:=(HBD.out.block _ (row_lt HX0.out)).trans HX0.out;have hne:Nonempty {w':World // Row8 w' bx [.int .i64 k,.string SA,.bool b0,.int .u64 n,.slice lo l.length lc,.slice mo m.length mc,.string IA,.string UA]}:=⟨⟨_,hS⟩⟩
 have e0:∀ t:{w':World // Row8 w' bx [.int .i64 k,.string SA,.bool b0,.int .u64 n,.slice lo l.length lc,.slice mo m.length mc,.string IA,.string UA]},t.1.cell? ⟨bx,0,none⟩=some (.int .i64 k):=fun t=>row_cell t.2 (j:=0) rfl
 have e7:∀ t:{w':World // Row8 w' bx [.int .i64 k,.string SA,.bool b0,.int .u64 n,.slice lo l.length lc,.slice mo m.length mc,.string IA,.string UA]},t.1.cell? ⟨bx,7,none⟩=some (.string UA):=fun t=>row_cell t.2 (j:=7) rfl
 refine wp_region_seq (S:=fun w'=>Row8 w' bx [.int .i64 k,.string SA,.bool b0,.int .u64 n,.slice lo l.length lc,.slice mo m.length mc,.string IA,.string UA]) [(0,true),(1,true),(2,true),(3,true),(4,true),(5,true),(6,true),(7,true),(8,true),(9,true),(10,true),(11,true),(12,true),(13,true),(14,true),(15,true),(16,false),(17,false),(18,true),(19,true)] (by kernel_rfl) (by kernel_rfl) (by kernel_rfl) (by kernel_rfl) (by rw[hD];exact hS) ?_;rw[hD];clear hD
 iterate 16 (refine seq_take _ rfl (fun K2 hK=>?_);go_simp;(first|refine hK _ ?_|refine ⟨_,fun _ _=>rfl,hK _ ?_⟩|(refine ⟨undef,by rw[if_neg (by simp[undef])],?_⟩;refine hK _ ?_));clear hK K2)
 refine seq_come _ rfl (fun K2 hK=>?_);go_simp
 (first|refine hK.out _ _ hS ?_|(rw[if_neg (by simp[undef])];refine hK.out _ _ hS ?_));clear hK K2
 refine seq_come _ rfl (fun K2 hK=>?_);go_simp
 (first|refine hK.out _ _ hS ?_|(rw[if_neg (by simp[undef])];refine hK.out _ _ hS ?_));clear hK K2
 iterate 2 (refine seq_take _ rfl (fun K2 hK=>?_);go_simp;(first|refine hK _ ?_|refine ⟨_,fun _ _=>rfl,hK _ ?_⟩|(refine ⟨undef,by rw[if_neg (by simp[undef])],?_⟩;refine hK _ ?_));clear hK K2)
 refine seq_done ?_;clear e0 e7 hne hll hlm;go_wp2_with fail;go_ret;exact ⟨below_step HB0.out HBD.out,false,rfl,HNO.out.symm⟩
theorem myv_lo (k:Int)(s:List UInt8)(b0:Bool)(n:Nat)(l:List Val)(m:List KV)(i u:List UInt8)(ca:List Value)(P:Nat→Prop)(w:World)(d:Int)(hfit:vfit (.mk k s b0 n l m i u))(ha:VRel w P (.mk k s b0 n l m i u) ca)(hd:-9223372036854775808≤d∧d≤9223372036854775807)(hsz:vw (.mk k s b0 n l m i u)≤100000)(h0:0≤d)(h1:k<0) :
  Calls Tryz.prog 145 #[.agg ca.toArray,.int .i64 d] w (MyPost (vmayD (.mk k s b0 n l m i u) d) w):=by
 have HNO:Hid (vmayD (.mk k s b0 n l m i u) d=false):=hid (by rw[vmayD,vmay];simp[vpl,show ¬0≤k by omega]);have d1:decide (d<0)=false:=decide_eq_false (by omega);have d2:decide (k<0)=true:=decide_eq_true h1;clear h0 h1;rw[VRel] at ha;rw[vfit] at hfit;obtain ⟨hkr,hn,_,_,_,hfl,hfm⟩:=hfit;obtain ⟨lo,lc,mo,mc,rfl,hal,ham⟩:=ha;rw[vw] at hsz;have HAL:=hid hal;have HAM:=hid ham;have HFL:=hid hfl;have HFM:=hid hfm;have HD:=hid hd;have HSZ:=hid hsz;obtain ⟨SA,hSA⟩:∃ Y:ByteArray,(⟨s.toArray⟩:ByteArray)=Y:=⟨_,rfl⟩
 obtain ⟨IA,hIA⟩:∃ Y:ByteArray,(⟨i.toArray⟩:ByteArray)=Y:=⟨_,rfl⟩
 obtain ⟨UA,hUA⟩:∃ Y:ByteArray,(⟨u.toArray⟩:ByteArray)=Y:=⟨_,rfl⟩
 have HSA:Hid (SA.data.toList=s):=hid (by rw[←hSA]);have HIA:Hid (IA.data.toList=i):=hid (by rw[←hIA]);have HUA:Hid (UA.data.toList=u):=hid (by rw[←hUA]);have HSS:Hid (SA.size≤100000):=hid (by rw[←hSA];simp[ByteArray.size];omega);have HIS:Hid (IA.size≤100000):=hid (by rw[←hIA];simp[ByteArray.size];omega);have HUS:Hid (UA.size≤100000):=hid (by rw[←hUA];simp[ByteArray.size];omega);unfold strV;rw[hSA,hIA,hUA];have hll:l.length≤100000:=by have:=vsw_len l;omega
 have hlm:m.length≤100000:=by have:=ksw_len m;omega
 obtain ⟨W,hW⟩:∃ W,w.alloc (.cells [.int .i64 k,.string SA,.bool b0,.int .u64 n,.slice lo l.length lc,.slice mo m.length mc,.string IA,.string UA].toArray 77)=W:=⟨_,rfl⟩
 obtain ⟨bx,hbx⟩:∃ bx,w.heap.size=bx:=⟨_,rfl⟩
 have HB0:Hid (Below w.heap.size w W):=hid (by rw[←hW];exact below_new _ _);have HX0:Hid (Row8 W bx [.int .i64 k,.string SA,.bool b0,.int .u64 n,.slice lo l.length lc,.slice mo m.length mc,.string IA,.string UA]):=hid (by rw[←hW,←hbx];exact heap_alloc_new w _);have HW:=hid hW;have HBX:=hid hbx;clear hW hbx hSA hIA hUA hal ham hfl hfm hn hkr hd hsz;go_enter Tryz.func145,Tryz.ntmps145;go_wp2_with fail;rw[show w.alloc (.cells #[.int .i64 k,.string SA,.bool b0,.int .u64 n,.slice lo l.length lc,.slice mo m.length mc,.string IA,.string UA] 77)=W from HW.out,HBX.out];obtain ⟨D,hD⟩:∃ D,W.drew=D:=⟨_,rfl⟩
 have HBD:Hid (Below W.heap.size W D):=hid (by rw[←hD];exact (Below.refl _ _).drew);have hS:Row8 D bx [.int .i64 k,.string SA,.bool b0,.int .u64 n,.slice lo l.length lc,.slice mo m.length mc,.string IA,.string UA]:=(HBD.out.block _ (row_lt HX0.out)).trans HX0.out;have hne:Nonempty {w':World // Row8 w' bx [.int .i64 k,.string SA,.bool b0,.int .u64 n,.slice lo l.length lc,.slice mo m.length mc,.string IA,.string UA]}:=⟨⟨_,hS⟩⟩
 have e0:∀ t:{w':World // Row8 w' bx [.int .i64 k,.string SA,.bool b0,.int .u64 n,.slice lo l.length lc,.slice mo m.length mc,.string IA,.string UA]},t.1.cell? ⟨bx,0,none⟩=some (.int .i64 k):=fun t=>row_cell t.2 (j:=0) rfl
 have e7:∀ t:{w':World // Row8 w' bx [.int .i64 k,.string SA,.bool b0,.int .u64 n,.slice lo l.length lc,.slice mo m.length mc,.string IA,.string UA]},t.1.cell? ⟨bx,7,none⟩=some (.string UA):=fun t=>row_cell t.2 (j:=7) rfl
 refine wp_region_seq (S:=fun w'=>Row8 w' bx [.int .i64 k,.string SA,.bool b0,.int .u64 n,.slice lo l.length lc,.slice mo m.length mc,.string IA,.string UA]) [(0,true),(1,true),(2,true),(3,true),(4,true),(5,true),(6,true),(7,true),(8,true),(9,true),(10,true),(11,true),(12,true),(13,true),(14,true),(15,true),(16,false),(17,false),(18,true),(19,true)] (by kernel_rfl) (by kernel_rfl) (by kernel_rfl) (by kernel_rfl) (by rw[hD];exact hS) ?_;rw[hD];clear hD
 iterate 16 (refine seq_take _ rfl (fun K2 hK=>?_);go_simp;(first|refine hK _ ?_|refine ⟨_,fun _ _=>rfl,hK _ ?_⟩|(refine ⟨undef,by rw[if_neg (by simp[undef])],?_⟩;refine hK _ ?_));clear hK K2)
 refine seq_come _ rfl (fun K2 hK=>?_);go_simp
 (first|refine hK.out _ _ hS ?_|(rw[if_neg (by simp[undef])];refine hK.out _ _ hS ?_));clear hK K2
 refine seq_come _ rfl (fun K2 hK=>?_);go_simp
 (first|refine hK.out _ _ hS ?_|(rw[if_neg (by simp[undef])];refine hK.out _ _ hS ?_));clear hK K2
 iterate 2 (refine seq_take _ rfl (fun K2 hK=>?_);go_simp;(first|refine hK _ ?_|refine ⟨_,fun _ _=>rfl,hK _ ?_⟩|(refine ⟨undef,by rw[if_neg (by simp[undef])],?_⟩;refine hK _ ?_));clear hK K2)
 refine seq_done ?_;clear e0 e7 hne hll hlm;go_wp2_with fail;go_ret;exact ⟨below_step HB0.out HBD.out,false,rfl,HNO.out.symm⟩
theorem myv_hi (k:Int)(s:List UInt8)(b0:Bool)(n:Nat)(l:List Val)(m:List KV)(i u:List UInt8)(ca:List Value)(P:Nat→Prop)(w:World)(d:Int)(hfit:vfit (.mk k s b0 n l m i u))(ha:VRel w P (.mk k s b0 n l m i u) ca)(hd:-9223372036854775808≤d∧d≤9223372036854775807)(hsz:vw (.mk k s b0 n l m i u)≤100000)(h0:0≤d)(h1:7<k) :
  Calls Tryz.prog 145 #[.agg ca.toArray,.int .i64 d] w (MyPost (vmayD (.mk k s b0 n l m i u) d) w):=by
 have HNO:Hid (vmayD (.mk k s b0 n l m i u) d=false):=hid (by rw[vmayD,vmay];simp[vpl,show ¬k≤7 by omega]);have d1:decide (d<0)=false:=decide_eq_false (by omega);have d2:decide (k<0)=false:=decide_eq_false (by omega);have d3:decide (k>7)=true:=decide_eq_true h1;clear h0 h1;rw[VRel] at ha;rw[vfit] at hfit;obtain ⟨hkr,hn,_,_,_,hfl,hfm⟩:=hfit;obtain ⟨lo,lc,mo,mc,rfl,hal,ham⟩:=ha;rw[vw] at hsz;have HAL:=hid hal;have HAM:=hid ham;have HFL:=hid hfl;have HFM:=hid hfm;have HD:=hid hd;have HSZ:=hid hsz;obtain ⟨SA,hSA⟩:∃ Y:ByteArray,(⟨s.toArray⟩:ByteArray)=Y:=⟨_,rfl⟩
 obtain ⟨IA,hIA⟩:∃ Y:ByteArray,(⟨i.toArray⟩:ByteArray)=Y:=⟨_,rfl⟩
 obtain ⟨UA,hUA⟩:∃ Y:ByteArray,(⟨u.toArray⟩:ByteArray)=Y:=⟨_,rfl⟩
 have HSA:Hid (SA.data.toList=s):=hid (by rw[←hSA]);have HIA:Hid (IA.data.toList=i):=hid (by rw[←hIA]);have HUA:Hid (UA.data.toList=u):=hid (by rw[←hUA]);have HSS:Hid (SA.size≤100000):=hid (by rw[←hSA];simp[ByteArray.size];omega);have HIS:Hid (IA.size≤100000):=hid (by rw[←hIA];simp[ByteArray.size];omega);have HUS:Hid (UA.size≤100000):=hid (by rw[←hUA];simp[ByteArray.size];omega);unfold strV;rw[hSA,hIA,hUA];have hll:l.length≤100000:=by have:=vsw_len l;omega
 have hlm:m.length≤100000:=by have:=ksw_len m;omega
 obtain ⟨W,hW⟩:∃ W,w.alloc (.cells [.int .i64 k,.string SA,.bool b0,.int .u64 n,.slice lo l.length lc,.slice mo m.length mc,.string IA,.string UA].toArray 77)=W:=⟨_,rfl⟩
 obtain ⟨bx,hbx⟩:∃ bx,w.heap.size=bx:=⟨_,rfl⟩
 have HB0:Hid (Below w.heap.size w W):=hid (by rw[←hW];exact below_new _ _);have HX0:Hid (Row8 W bx [.int .i64 k,.string SA,.bool b0,.int .u64 n,.slice lo l.length lc,.slice mo m.length mc,.string IA,.string UA]):=hid (by rw[←hW,←hbx];exact heap_alloc_new w _);have HW:=hid hW;have HBX:=hid hbx;clear hW hbx hSA hIA hUA hal ham hfl hfm hn hkr hd hsz;go_enter Tryz.func145,Tryz.ntmps145;go_wp2_with fail;rw[show w.alloc (.cells #[.int .i64 k,.string SA,.bool b0,.int .u64 n,.slice lo l.length lc,.slice mo m.length mc,.string IA,.string UA] 77)=W from HW.out,HBX.out];obtain ⟨D,hD⟩:∃ D,W.drew=D:=⟨_,rfl⟩
 have HBD:Hid (Below W.heap.size W D):=hid (by rw[←hD];exact (Below.refl _ _).drew);have hS:Row8 D bx [.int .i64 k,.string SA,.bool b0,.int .u64 n,.slice lo l.length lc,.slice mo m.length mc,.string IA,.string UA]:=(HBD.out.block _ (row_lt HX0.out)).trans HX0.out;have hne:Nonempty {w':World // Row8 w' bx [.int .i64 k,.string SA,.bool b0,.int .u64 n,.slice lo l.length lc,.slice mo m.length mc,.string IA,.string UA]}:=⟨⟨_,hS⟩⟩
 have e0:∀ t:{w':World // Row8 w' bx [.int .i64 k,.string SA,.bool b0,.int .u64 n,.slice lo l.length lc,.slice mo m.length mc,.string IA,.string UA]},t.1.cell? ⟨bx,0,none⟩=some (.int .i64 k):=fun t=>row_cell t.2 (j:=0) rfl
 have e7:∀ t:{w':World // Row8 w' bx [.int .i64 k,.string SA,.bool b0,.int .u64 n,.slice lo l.length lc,.slice mo m.length mc,.string IA,.string UA]},t.1.cell? ⟨bx,7,none⟩=some (.string UA):=fun t=>row_cell t.2 (j:=7) rfl
 refine wp_region_seq (S:=fun w'=>Row8 w' bx [.int .i64 k,.string SA,.bool b0,.int .u64 n,.slice lo l.length lc,.slice mo m.length mc,.string IA,.string UA]) [(0,true),(1,true),(2,true),(3,true),(4,true),(5,true),(6,true),(7,true),(8,true),(9,true),(10,true),(11,true),(12,true),(13,true),(14,true),(15,true),(16,false),(17,false),(18,true),(19,true)] (by kernel_rfl) (by kernel_rfl) (by kernel_rfl) (by kernel_rfl) (by rw[hD];exact hS) ?_;rw[hD];clear hD
 iterate 16 (refine seq_take _ rfl (fun K2 hK=>?_);go_simp;(first|refine hK _ ?_|refine ⟨_,fun _ _=>rfl,hK _ ?_⟩|(refine ⟨undef,by rw[if_neg (by simp[undef])],?_⟩;refine hK _ ?_));clear hK K2)
 refine seq_come _ rfl (fun K2 hK=>?_);go_simp
 (first|refine hK.out _ _ hS ?_|(rw[if_neg (by simp[undef])];refine hK.out _ _ hS ?_));clear hK K2
 refine seq_come _ rfl (fun K2 hK=>?_);go_simp
 (first|refine hK.out _ _ hS ?_|(rw[if_neg (by simp[undef])];refine hK.out _ _ hS ?_));clear hK K2
 iterate 2 (refine seq_take _ rfl (fun K2 hK=>?_);go_simp;(first|refine hK _ ?_|refine ⟨_,fun _ _=>rfl,hK _ ?_⟩|(refine ⟨undef,by rw[if_neg (by simp[undef])],?_⟩;refine hK _ ?_));clear hK K2)
 refine seq_done ?_;clear e0 e7 hne hll hlm;go_wp2_with fail;go_ret;exact ⟨below_step HB0.out HBD.out,false,rfl,HNO.out.symm⟩
theorem myv_unk (k:Int)(s:List UInt8)(b0:Bool)(n:Nat)(l:List Val)(m:List KV)(i u:List UInt8)(ca:List Value)(P:Nat→Prop)(w:World)(d:Int)(hfit:vfit (.mk k s b0 n l m i u))(ha:VRel w P (.mk k s b0 n l m i u) ca)(hd:-9223372036854775808≤d∧d≤9223372036854775807)(hsz:vw (.mk k s b0 n l m i u)≤100000)(h0:0≤d)(h1:0≤k∧k≤7)(hu:munkOk vtk u d=false) :
  Calls Tryz.prog 145 #[.agg ca.toArray,.int .i64 d] w (MyPost (vmayD (.mk k s b0 n l m i u) d) w):=by
 have HNO:Hid (vmayD (.mk k s b0 n l m i u) d=false):=hid (by rw[vmayD,vmay,hu];simp);have HUKU:Hid ((decide (0≤d)&&munkOk (rtk [10,16,24,33,42,50,58]) u d)=false):=hid (by rw[decide_eq_true h0,←munkOk_rtk vtk_rtk,hu];rfl);have d1:decide (d<0)=false:=decide_eq_false (by omega);have d2:decide (k<0)=false:=decide_eq_false (by omega);have d3:decide (k>7)=false:=decide_eq_false (by omega);clear h0 h1 hu;rw[VRel] at ha;rw[vfit] at hfit;obtain ⟨hkr,hn,_,_,_,hfl,hfm⟩:=hfit;obtain ⟨lo,lc,mo,mc,rfl,hal,ham⟩:=ha;rw[vw] at hsz;have HAL:=hid hal;have HAM:=hid ham;have HFL:=hid hfl;have HFM:=hid hfm;have HD:=hid hd;have HSZ:=hid hsz;obtain ⟨SA,hSA⟩:∃ Y:ByteArray,(⟨s.toArray⟩:ByteArray)=Y:=⟨_,rfl⟩
 obtain ⟨IA,hIA⟩:∃ Y:ByteArray,(⟨i.toArray⟩:ByteArray)=Y:=⟨_,rfl⟩
 obtain ⟨UA,hUA⟩:∃ Y:ByteArray,(⟨u.toArray⟩:ByteArray)=Y:=⟨_,rfl⟩
 have HSA:Hid (SA.data.toList=s):=hid (by rw[←hSA]);have HIA:Hid (IA.data.toList=i):=hid (by rw[←hIA]);have HUA:Hid (UA.data.toList=u):=hid (by rw[←hUA]);have HSS:Hid (SA.size≤100000):=hid (by rw[←hSA];simp[ByteArray.size];omega);have HIS:Hid (IA.size≤100000):=hid (by rw[←hIA];simp[ByteArray.size];omega);have HUS:Hid (UA.size≤100000):=hid (by rw[←hUA];simp[ByteArray.size];omega);unfold strV;rw[hSA,hIA,hUA];have hll:l.length≤100000:=by have:=vsw_len l;omega
 have hlm:m.length≤100000:=by have:=ksw_len m;omega
 obtain ⟨W,hW⟩:∃ W,w.alloc (.cells [.int .i64 k,.string SA,.bool b0,.int .u64 n,.slice lo l.length lc,.slice mo m.length mc,.string IA,.string UA].toArray 77)=W:=⟨_,rfl⟩
 obtain ⟨bx,hbx⟩:∃ bx,w.heap.size=bx:=⟨_,rfl⟩
 have HB0:Hid (Below w.heap.size w W):=hid (by rw[←hW];exact below_new _ _);have HX0:Hid (Row8 W bx [.int .i64 k,.string SA,.bool b0,.int .u64 n,.slice lo l.length lc,.slice mo m.length mc,.string IA,.string UA]):=hid (by rw[←hW,←hbx];exact heap_alloc_new w _);have HW:=hid hW;have HBX:=hid hbx;clear hW hbx hSA hIA hUA hal ham hfl hfm hn hkr hd hsz;go_enter Tryz.func145,Tryz.ntmps145;go_wp2_with fail;rw[show w.alloc (.cells #[.int .i64 k,.string SA,.bool b0,.int .u64 n,.slice lo l.length lc,.slice mo m.length mc,.string IA,.string UA] 77)=W from HW.out,HBX.out];obtain ⟨D,hD⟩:∃ D,W.drew=D:=⟨_,rfl⟩
 have HBD:Hid (Below W.heap.size W D):=hid (by rw[←hD];exact (Below.refl _ _).drew);have hS:Row8 D bx [.int .i64 k,.string SA,.bool b0,.int .u64 n,.slice lo l.length lc,.slice mo m.length mc,.string IA,.string UA]:=(HBD.out.block _ (row_lt HX0.out)).trans HX0.out;have hne:Nonempty {w':World // Row8 w' bx [.int .i64 k,.string SA,.bool b0,.int .u64 n,.slice lo l.length lc,.slice mo m.length mc,.string IA,.string UA]}:=⟨⟨_,hS⟩⟩
 have e0:∀ t:{w':World // Row8 w' bx [.int .i64 k,.string SA,.bool b0,.int .u64 n,.slice lo l.length lc,.slice mo m.length mc,.string IA,.string UA]},t.1.cell? ⟨bx,0,none⟩=some (.int .i64 k):=fun t=>row_cell t.2 (j:=0) rfl
 have e7:∀ t:{w':World // Row8 w' bx [.int .i64 k,.string SA,.bool b0,.int .u64 n,.slice lo l.length lc,.slice mo m.length mc,.string IA,.string UA]},t.1.cell? ⟨bx,7,none⟩=some (.string UA):=fun t=>row_cell t.2 (j:=7) rfl
 refine wp_region_seq (S:=fun w'=>Row8 w' bx [.int .i64 k,.string SA,.bool b0,.int .u64 n,.slice lo l.length lc,.slice mo m.length mc,.string IA,.string UA]) [(0,true),(1,true),(2,true),(3,true),(4,true),(5,true),(6,true),(7,true),(8,true),(9,true),(10,true),(11,true),(12,true),(13,true),(14,true),(15,true),(16,false),(17,false),(18,true),(19,true)] (by kernel_rfl) (by kernel_rfl) (by kernel_rfl) (by kernel_rfl) (by rw[hD];exact hS) ?_;rw[hD];clear hD;have HUK:Hid ((decide (0≤d)&&munkOk (rtk [10,16,24,33,42,50,58]) UA.data.toList d)=false):=hid (by rw[HUA.out];exact HUKU.out)
 iterate 16 (refine seq_take _ rfl (fun K2 hK=>?_);go_simp;(first|refine hK _ ?_|refine ⟨_,fun _ _=>rfl,hK _ ?_⟩|(refine ⟨undef,by rw[if_neg (by simp[undef])],?_⟩;refine hK _ ?_));clear hK K2)
 refine seq_come _ rfl (fun K2 hK=>?_);go_simp;refine (tabV_any D).mono ?_;rintro e w4 ⟨to,rfl,HNT,hb4⟩;have hS4:Row8 w4 bx [.int .i64 k,.string SA,.bool b0,.int .u64 n,.slice lo l.length lc,.slice mo m.length mc,.string IA,.string UA]:=(hb4.block _ (row_lt hS)).trans hS;have HB4:=hid hb4;go_simp;refine hK.out _ _ hS4 ?_;clear hK K2 hb4;refine seq_come _ rfl (fun K2 hK=>?_);go_simp;refine (unknown8_any UA (d) [10,16,24,33,42,50,58] to 7 w4 HNT (by decide) (hid (by decide)) (by have:=HUS.out;omega) (by have:=HD.out;omega)).mono ?_;rintro e w5 ⟨rfl,hb5⟩;rw[HUK.out];have hS5:Row8 w5 bx [.int .i64 k,.string SA,.bool b0,.int .u64 n,.slice lo l.length lc,.slice mo m.length mc,.string IA,.string UA]:=(hb5.block _ (row_lt hS4)).trans hS4;have HB5:=hid (below_step HB4.out hb5);go_simp;refine hK.out _ _ hS5 ?_;clear hK K2 hb5
 iterate 2 (refine seq_take _ rfl (fun K2 hK=>?_);go_simp;(first|refine hK _ ?_|refine ⟨_,fun _ _=>rfl,hK _ ?_⟩|(refine ⟨undef,by rw[if_neg (by simp[undef])],?_⟩;refine hK _ ?_));clear hK K2)
 refine seq_done ?_;clear e0 e7 hne hll hlm;go_wp2_with fail;go_ret;exact ⟨below_step HB0.out (below_step HBD.out HB5.out),false,rfl,HNO.out.symm⟩
theorem mykey_neg (key:List UInt8)(k:Int)(s:List UInt8)(b0:Bool)(n:Nat)(l:List Val)(m:List KV)(i u0 u:List UInt8)(has:Bool)(ca:List Value)(P:Nat→Prop)(w:World)(d:Int)(hfit:kfit (.mk key has (.mk k s b0 n l m i u0) u))(ha:KRel w P (.mk key has (.mk k s b0 n l m i u0) u) ca)(hd:-9223372036854775808≤d∧d≤9223372036854775807)(hsz:kw (.mk key has (.mk k s b0 n l m i u0) u)≤100000)(h0:d<0) :
  Calls Tryz.prog 100 #[.agg ca.toArray,.int .i64 d] w (MyPost (kmayD (.mk key has (.mk k s b0 n l m i u0) u) d) w):=by
 have HNO:Hid (kmayD (.mk key has (.mk k s b0 n l m i u0) u) d=false):=hid (by rw[kmayD,decide_eq_false (by omega)];rfl);have d1:decide (d<0)=true:=decide_eq_true h0;clear h0;rw[KRel] at ha;obtain ⟨cv,hrv,rfl⟩:=ha;have HRV:=hid hrv;rw[VRel] at hrv;obtain ⟨lo,lc,mo,mc,rfl,_,_⟩:=hrv;rw[kfit] at hfit;obtain ⟨_,_,hfv⟩:=hfit;rw[kw] at hsz;have HFV:=hid hfv;have HSZ:=hid hsz;have HD:=hid hd;obtain ⟨KA,hKA⟩:∃ SA:ByteArray,(⟨key.toArray⟩:ByteArray)=SA:=⟨_,rfl⟩
 obtain ⟨SA,hSA⟩:∃ SA:ByteArray,(⟨s.toArray⟩:ByteArray)=SA:=⟨_,rfl⟩
 obtain ⟨IA,hIA⟩:∃ IA:ByteArray,(⟨i.toArray⟩:ByteArray)=IA:=⟨_,rfl⟩
 obtain ⟨UA,hUA⟩:∃ UA:ByteArray,(⟨u0.toArray⟩:ByteArray)=UA:=⟨_,rfl⟩
 obtain ⟨YA,hYA⟩:∃ YA:ByteArray,(⟨u.toArray⟩:ByteArray)=YA:=⟨_,rfl⟩
 have HKA:Hid (KA.data.toList=key):=hid (by rw[←hKA]);have HUA:Hid (UA.data.toList=u0):=hid (by rw[←hUA]);have HYA:Hid (YA.data.toList=u):=hid (by rw[←hYA]);have HKS:Hid (KA.size≤100000):=hid (by rw[←hKA];simp[ByteArray.size];omega);have HYS:Hid (YA.size≤100000):=hid (by rw[←hYA];simp[ByteArray.size];omega);unfold strV at HRV ⊢
 rw[hSA,hIA,hUA] at HRV
 show Calls _ _ #[.agg #[.string ⟨key.toArray⟩,.bool has,.int .i64 k,.string ⟨s.toArray⟩,.bool b0,.int .u64 n,.slice lo l.length lc,.slice mo m.length mc,.string ⟨i.toArray⟩,.string ⟨u0.toArray⟩,.string ⟨u.toArray⟩],.int .i64 d] w _
 rw[hKA,hSA,hIA,hUA,hYA];obtain ⟨W,hW⟩:∃ W,w.alloc (.cells ([.string KA,.bool has,.int .i64 k,.string SA,.bool b0,.int .u64 n,.slice lo l.length lc,.slice mo m.length mc,.string IA,.string UA,.string YA]:List Value).toArray 79)=W:=⟨_,rfl⟩
 obtain ⟨bx,hbx⟩:∃ bx,w.heap.size=bx:=⟨_,rfl⟩
 have HB0:Hid (Below w.heap.size w W):=hid (by rw[←hW];exact below_new _ _);have HX0:Hid (Row11 W bx [.string KA,.bool has,.int .i64 k,.string SA,.bool b0,.int .u64 n,.slice lo l.length lc,.slice mo m.length mc,.string IA,.string UA,.string YA]):=hid (by rw[←hW,←hbx];exact heap_alloc_new w _);have HW:=hid hW;have HBX:=hid hbx;clear hW hbx hKA hSA hIA hUA hYA hfv hd hsz;go_enter Tryz.func100,Tryz.ntmps100;go_wp2_with fail;rw[show w.alloc (.cells #[.string KA,.bool has,.int .i64 k,.string SA,.bool b0,.int .u64 n,.slice lo l.length lc,.slice mo m.length mc,.string IA,.string UA,.string YA] 79)=W from HW.out,HBX.out];obtain ⟨D,hD⟩:∃ D,W.drew=D:=⟨_,rfl⟩
 have HBD:Hid (Below W.heap.size W D):=hid (by rw[←hD];exact (Below.refl _ _).drew);have hS:Row11 D bx [.string KA,.bool has,.int .i64 k,.string SA,.bool b0,.int .u64 n,.slice lo l.length lc,.slice mo m.length mc,.string IA,.string UA,.string YA]:=(HBD.out.block _ (row_lt HX0.out)).trans HX0.out;have hne:Nonempty {w':World // Row11 w' bx [.string KA,.bool has,.int .i64 k,.string SA,.bool b0,.int .u64 n,.slice lo l.length lc,.slice mo m.length mc,.string IA,.string UA,.string YA]}:=⟨⟨_,hS⟩⟩
 have e0:∀ t:{w':World // Row11 w' bx [.string KA,.bool has,.int .i64 k,.string SA,.bool b0,.int .u64 n,.slice lo l.length lc,.slice mo m.length mc,.string IA,.string UA,.string YA]},t.1.cell? ⟨bx,0,none⟩=some (.string KA):=fun t=>row_cell t.2 (j:=0) rfl
 have e7:∀ t:{w':World // Row11 w' bx [.string KA,.bool has,.int .i64 k,.string SA,.bool b0,.int .u64 n,.slice lo l.length lc,.slice mo m.length mc,.string IA,.string UA,.string YA]},t.1.cell? ⟨bx,10,none⟩=some (.string YA):=fun t=>row_cell t.2 (j:=10) rfl
 refine wp_region_seq (S:=fun w'=>Row11 w' bx [.string KA,.bool has,.int .i64 k,.string SA,.bool b0,.int .u64 n,.slice lo l.length lc,.slice mo m.length mc,.string IA,.string UA,.string YA]) [(0,true),(1,true),(2,true),(3,true),(4,true),(5,false),(6,true),(7,true),(8,true),(9,true),(10,true),(11,true),(12,false),(13,false),(14,true),(15,true)] (by kernel_rfl) (by kernel_rfl) (by kernel_rfl) (by kernel_rfl) (by rw[hD];exact hS) ?_;rw[hD];clear hD
 iterate 5 (refine seq_take _ rfl (fun K2 hK=>?_);go_simp;(first|refine hK _ ?_|refine ⟨_,fun _ _=>rfl,hK _ ?_⟩|(refine ⟨undef,by rw[if_neg (by simp[undef])],?_⟩;refine hK _ ?_));clear hK K2)
 refine seq_come _ rfl (fun K2 hK=>?_);go_simp
 (first|refine hK.out _ _ hS ?_|(rw[if_neg (by simp[undef])];refine hK.out _ _ hS ?_));clear hK K2
 iterate 6 (refine seq_take _ rfl (fun K2 hK=>?_);go_simp;(first|refine hK _ ?_|refine ⟨_,fun _ _=>rfl,hK _ ?_⟩|(refine ⟨undef,by rw[if_neg (by simp[undef])],?_⟩;refine hK _ ?_));clear hK K2)
 refine seq_come _ rfl (fun K2 hK=>?_);go_simp
 (first|refine hK.out _ _ hS ?_|(rw[if_neg (by simp[undef])];refine hK.out _ _ hS ?_));clear hK K2
 refine seq_come _ rfl (fun K2 hK=>?_);go_simp
 (first|refine hK.out _ _ hS ?_|(rw[if_neg (by simp[undef])];refine hK.out _ _ hS ?_));clear hK K2
 iterate 2 (refine seq_take _ rfl (fun K2 hK=>?_);go_simp;(first|refine hK _ ?_|refine ⟨_,fun _ _=>rfl,hK _ ?_⟩|(refine ⟨undef,by rw[if_neg (by simp[undef])],?_⟩;refine hK _ ?_));clear hK K2)
 refine seq_done ?_;clear e0 e7 hne hS;go_wp2_with fail;go_ret;exact ⟨below_step HB0.out HBD.out,false,rfl,HNO.out.symm⟩
theorem mykey_txt (key:List UInt8)(k:Int)(s:List UInt8)(b0:Bool)(n:Nat)(l:List Val)(m:List KV)(i u0 u:List UInt8)(has:Bool)(ca:List Value)(P:Nat→Prop)(w:World)(d:Int)(hfit:kfit (.mk key has (.mk k s b0 n l m i u0) u))(ha:KRel w P (.mk key has (.mk k s b0 n l m i u0) u) ca)(hd:-9223372036854775808≤d∧d≤9223372036854775807)(hsz:kw (.mk key has (.mk k s b0 n l m i u0) u)≤100000)(h0:0≤d)(ht:uvalid key=false) :
  Calls Tryz.prog 100 #[.agg ca.toArray,.int .i64 d] w (MyPost (kmayD (.mk key has (.mk k s b0 n l m i u0) u) d) w):=by
 have HNO:Hid (kmayD (.mk key has (.mk k s b0 n l m i u0) u) d=false):=hid (by rw[kmayD,kmay,ht];simp);have d1:decide (d<0)=false:=decide_eq_false (by omega);have HTX:=hid ht;clear h0 ht;rw[KRel] at ha;obtain ⟨cv,hrv,rfl⟩:=ha;have HRV:=hid hrv;rw[VRel] at hrv;obtain ⟨lo,lc,mo,mc,rfl,_,_⟩:=hrv;rw[kfit] at hfit;obtain ⟨_,_,hfv⟩:=hfit;rw[kw] at hsz;have HFV:=hid hfv;have HSZ:=hid hsz;have HD:=hid hd;obtain ⟨KA,hKA⟩:∃ SA:ByteArray,(⟨key.toArray⟩:ByteArray)=SA:=⟨_,rfl⟩
 obtain ⟨SA,hSA⟩:∃ SA:ByteArray,(⟨s.toArray⟩:ByteArray)=SA:=⟨_,rfl⟩
 obtain ⟨IA,hIA⟩:∃ IA:ByteArray,(⟨i.toArray⟩:ByteArray)=IA:=⟨_,rfl⟩
 obtain ⟨UA,hUA⟩:∃ UA:ByteArray,(⟨u0.toArray⟩:ByteArray)=UA:=⟨_,rfl⟩
 obtain ⟨YA,hYA⟩:∃ YA:ByteArray,(⟨u.toArray⟩:ByteArray)=YA:=⟨_,rfl⟩
 have HKA:Hid (KA.data.toList=key):=hid (by rw[←hKA]);have HUA:Hid (UA.data.toList=u0):=hid (by rw[←hUA]);have HYA:Hid (YA.data.toList=u):=hid (by rw[←hYA]);have HKS:Hid (KA.size≤100000):=hid (by rw[←hKA];simp[ByteArray.size];omega);have HYS:Hid (YA.size≤100000):=hid (by rw[←hYA];simp[ByteArray.size];omega);unfold strV at HRV ⊢
 rw[hSA,hIA,hUA] at HRV
 show Calls _ _ #[.agg #[.string ⟨key.toArray⟩,.bool has,.int .i64 k,.string ⟨s.toArray⟩,.bool b0,.int .u64 n,.slice lo l.length lc,.slice mo m.length mc,.string ⟨i.toArray⟩,.string ⟨u0.toArray⟩,.string ⟨u.toArray⟩],.int .i64 d] w _
 rw[hKA,hSA,hIA,hUA,hYA];obtain ⟨W,hW⟩:∃ W,w.alloc (.cells ([.string KA,.bool has,.int .i64 k,.string SA,.bool b0,.int .u64 n,.slice lo l.length lc,.slice mo m.length mc,.string IA,.string UA,.string YA]:List Value).toArray 79)=W:=⟨_,rfl⟩
 obtain ⟨bx,hbx⟩:∃ bx,w.heap.size=bx:=⟨_,rfl⟩
 have HB0:Hid (Below w.heap.size w W):=hid (by rw[←hW];exact below_new _ _);have HX0:Hid (Row11 W bx [.string KA,.bool has,.int .i64 k,.string SA,.bool b0,.int .u64 n,.slice lo l.length lc,.slice mo m.length mc,.string IA,.string UA,.string YA]):=hid (by rw[←hW,←hbx];exact heap_alloc_new w _);have HW:=hid hW;have HBX:=hid hbx;clear hW hbx hKA hSA hIA hUA hYA hfv hd hsz;have HTV:Hid (uvalid KA.data.toList=false):=hid (by rw[HKA.out];exact HTX.out);go_enter Tryz.func100,Tryz.ntmps100;go_wp2_with fail;rw[show w.alloc (.cells #[.string KA,.bool has,.int .i64 k,.string SA,.bool b0,.int .u64 n,.slice lo l.length lc,.slice mo m.length mc,.string IA,.string UA,.string YA] 79)=W from HW.out,HBX.out];obtain ⟨D,hD⟩:∃ D,W.drew=D:=⟨_,rfl⟩
 have HBD:Hid (Below W.heap.size W D):=hid (by rw[←hD];exact (Below.refl _ _).drew);have hS:Row11 D bx [.string KA,.bool has,.int .i64 k,.string SA,.bool b0,.int .u64 n,.slice lo l.length lc,.slice mo m.length mc,.string IA,.string UA,.string YA]:=(HBD.out.block _ (row_lt HX0.out)).trans HX0.out;have hne:Nonempty {w':World // Row11 w' bx [.string KA,.bool has,.int .i64 k,.string SA,.bool b0,.int .u64 n,.slice lo l.length lc,.slice mo m.length mc,.string IA,.string UA,.string YA]}:=⟨⟨_,hS⟩⟩
 have e0:∀ t:{w':World // Row11 w' bx [.string KA,.bool has,.int .i64 k,.string SA,.bool b0,.int .u64 n,.slice lo l.length lc,.slice mo m.length mc,.string IA,.string UA,.string YA]},t.1.cell? ⟨bx,0,none⟩=some (.string KA):=fun t=>row_cell t.2 (j:=0) rfl
 have e7:∀ t:{w':World // Row11 w' bx [.string KA,.bool has,.int .i64 k,.string SA,.bool b0,.int .u64 n,.slice lo l.length lc,.slice mo m.length mc,.string IA,.string UA,.string YA]},t.1.cell? ⟨bx,10,none⟩=some (.string YA):=fun t=>row_cell t.2 (j:=10) rfl
 refine wp_region_seq (S:=fun w'=>Row11 w' bx [.string KA,.bool has,.int .i64 k,.string SA,.bool b0,.int .u64 n,.slice lo l.length lc,.slice mo m.length mc,.string IA,.string UA,.string YA]) [(0,true),(1,true),(2,true),(3,true),(4,true),(5,false),(6,true),(7,true),(8,true),(9,true),(10,true),(11,true),(12,false),(13,false),(14,true),(15,true)] (by kernel_rfl) (by kernel_rfl) (by kernel_rfl) (by kernel_rfl) (by rw[hD];exact hS) ?_;rw[hD];clear hD
 iterate 5 (refine seq_take _ rfl (fun K2 hK=>?_);go_simp;(first|refine hK _ ?_|refine ⟨_,fun _ _=>rfl,hK _ ?_⟩|(refine ⟨undef,by rw[if_neg (by simp[undef])],?_⟩;refine hK _ ?_));clear hK K2)
 refine seq_come _ rfl (fun K2 hK=>?_);go_simp;refine (text8_key KA D (by have:=HKS.out;omega)).mono ?_;rintro e w6 ⟨rfl,rfl⟩;rw[HTV.out];go_simp;refine hK.out _ _ hS ?_;clear hK K2
 iterate 6 (refine seq_take _ rfl (fun K2 hK=>?_);go_simp;(first|refine hK _ ?_|refine ⟨_,fun _ _=>rfl,hK _ ?_⟩|(refine ⟨undef,by rw[if_neg (by simp[undef])],?_⟩;refine hK _ ?_));clear hK K2)
 refine seq_come _ rfl (fun K2 hK=>?_);go_simp
 (first|refine hK.out _ _ hS ?_|(rw[if_neg (by simp[undef])];refine hK.out _ _ hS ?_));clear hK K2
 refine seq_come _ rfl (fun K2 hK=>?_);go_simp
 (first|refine hK.out _ _ hS ?_|(rw[if_neg (by simp[undef])];refine hK.out _ _ hS ?_));clear hK K2
 iterate 2 (refine seq_take _ rfl (fun K2 hK=>?_);go_simp;(first|refine hK _ ?_|refine ⟨_,fun _ _=>rfl,hK _ ?_⟩|(refine ⟨undef,by rw[if_neg (by simp[undef])],?_⟩;refine hK _ ?_));clear hK K2)
 refine seq_done ?_;clear e0 e7 hne hS;go_wp2_with fail;go_ret;exact ⟨below_step HB0.out HBD.out,false,rfl,HNO.out.symm⟩
theorem mykey_unk (key:List UInt8)(k:Int)(s:List UInt8)(b0:Bool)(n:Nat)(l:List Val)(m:List KV)(i u0 u:List UInt8)(has:Bool)(ca:List Value)(P:Nat→Prop)(w:World)(d:Int)(hfit:kfit (.mk key has (.mk k s b0 n l m i u0) u))(ha:KRel w P (.mk key has (.mk k s b0 n l m i u0) u) ca)(hd:-9223372036854775808≤d∧d≤9223372036854775807)(hsz:kw (.mk key has (.mk k s b0 n l m i u0) u)≤100000)(h0:0≤d)(ht:uvalid key=true)(hu:munkOk ktk u d=false) :
  Calls Tryz.prog 100 #[.agg ca.toArray,.int .i64 d] w (MyPost (kmayD (.mk key has (.mk k s b0 n l m i u0) u) d) w):=by
 have HNO:Hid (kmayD (.mk key has (.mk k s b0 n l m i u0) u) d=false):=hid (by rw[kmayD,kmay,hu];simp);have d1:decide (d<0)=false:=decide_eq_false (by omega);have HTX:=hid ht;have HUKU:Hid ((decide (0≤d)&&munkOk (rtk [10,18]) u d)=false):=hid (by rw[decide_eq_true h0,←munkOk_rtk ktk_rtk,hu];rfl);clear h0 ht hu;rw[KRel] at ha;obtain ⟨cv,hrv,rfl⟩:=ha;have HRV:=hid hrv;rw[VRel] at hrv;obtain ⟨lo,lc,mo,mc,rfl,_,_⟩:=hrv;rw[kfit] at hfit;obtain ⟨_,_,hfv⟩:=hfit;rw[kw] at hsz;have HFV:=hid hfv;have HSZ:=hid hsz;have HD:=hid hd;obtain ⟨KA,hKA⟩:∃ SA:ByteArray,(⟨key.toArray⟩:ByteArray)=SA:=⟨_,rfl⟩
 obtain ⟨SA,hSA⟩:∃ SA:ByteArray,(⟨s.toArray⟩:ByteArray)=SA:=⟨_,rfl⟩
 obtain ⟨IA,hIA⟩:∃ IA:ByteArray,(⟨i.toArray⟩:ByteArray)=IA:=⟨_,rfl⟩
 obtain ⟨UA,hUA⟩:∃ UA:ByteArray,(⟨u0.toArray⟩:ByteArray)=UA:=⟨_,rfl⟩
 obtain ⟨YA,hYA⟩:∃ YA:ByteArray,(⟨u.toArray⟩:ByteArray)=YA:=⟨_,rfl⟩
 have HKA:Hid (KA.data.toList=key):=hid (by rw[←hKA]);have HUA:Hid (UA.data.toList=u0):=hid (by rw[←hUA]);have HYA:Hid (YA.data.toList=u):=hid (by rw[←hYA]);have HKS:Hid (KA.size≤100000):=hid (by rw[←hKA];simp[ByteArray.size];omega);have HYS:Hid (YA.size≤100000):=hid (by rw[←hYA];simp[ByteArray.size];omega);unfold strV at HRV ⊢
 rw[hSA,hIA,hUA] at HRV
 show Calls _ _ #[.agg #[.string ⟨key.toArray⟩,.bool has,.int .i64 k,.string ⟨s.toArray⟩,.bool b0,.int .u64 n,.slice lo l.length lc,.slice mo m.length mc,.string ⟨i.toArray⟩,.string ⟨u0.toArray⟩,.string ⟨u.toArray⟩],.int .i64 d] w _
 rw[hKA,hSA,hIA,hUA,hYA];obtain ⟨W,hW⟩:∃ W,w.alloc (.cells ([.string KA,.bool has,.int .i64 k,.string SA,.bool b0,.int .u64 n,.slice lo l.length lc,.slice mo m.length mc,.string IA,.string UA,.string YA]:List Value).toArray 79)=W:=⟨_,rfl⟩
 obtain ⟨bx,hbx⟩:∃ bx,w.heap.size=bx:=⟨_,rfl⟩
 have HB0:Hid (Below w.heap.size w W):=hid (by rw[←hW];exact below_new _ _);have HX0:Hid (Row11 W bx [.string KA,.bool has,.int .i64 k,.string SA,.bool b0,.int .u64 n,.slice lo l.length lc,.slice mo m.length mc,.string IA,.string UA,.string YA]):=hid (by rw[←hW,←hbx];exact heap_alloc_new w _);have HW:=hid hW;have HBX:=hid hbx;clear hW hbx hKA hSA hIA hUA hYA hfv hd hsz;have HTV:Hid (uvalid KA.data.toList=true):=hid (by rw[HKA.out];exact HTX.out);have HUK:Hid ((decide (0≤d)&&munkOk (rtk [10,18]) YA.data.toList d)=false):=hid (by rw[HYA.out];exact HUKU.out);go_enter Tryz.func100,Tryz.ntmps100;go_wp2_with fail;rw[show w.alloc (.cells #[.string KA,.bool has,.int .i64 k,.string SA,.bool b0,.int .u64 n,.slice lo l.length lc,.slice mo m.length mc,.string IA,.string UA,.string YA] 79)=W from HW.out,HBX.out];obtain ⟨D,hD⟩:∃ D,W.drew=D:=⟨_,rfl⟩
 have HBD:Hid (Below W.heap.size W D):=hid (by rw[←hD];exact (Below.refl _ _).drew);have hS:Row11 D bx [.string KA,.bool has,.int .i64 k,.string SA,.bool b0,.int .u64 n,.slice lo l.length lc,.slice mo m.length mc,.string IA,.string UA,.string YA]:=(HBD.out.block _ (row_lt HX0.out)).trans HX0.out;have hne:Nonempty {w':World // Row11 w' bx [.string KA,.bool has,.int .i64 k,.string SA,.bool b0,.int .u64 n,.slice lo l.length lc,.slice mo m.length mc,.string IA,.string UA,.string YA]}:=⟨⟨_,hS⟩⟩
 have e0:∀ t:{w':World // Row11 w' bx [.string KA,.bool has,.int .i64 k,.string SA,.bool b0,.int .u64 n,.slice lo l.length lc,.slice mo m.length mc,.string IA,.string UA,.string YA]},t.1.cell? ⟨bx,0,none⟩=some (.string KA):=fun t=>row_cell t.2 (j:=0) rfl
 have e7:∀ t:{w':World // Row11 w' bx [.string KA,.bool has,.int .i64 k,.string SA,.bool b0,.int .u64 n,.slice lo l.length lc,.slice mo m.length mc,.string IA,.string UA,.string YA]},t.1.cell? ⟨bx,10,none⟩=some (.string YA):=fun t=>row_cell t.2 (j:=10) rfl
 refine wp_region_seq (S:=fun w'=>Row11 w' bx [.string KA,.bool has,.int .i64 k,.string SA,.bool b0,.int .u64 n,.slice lo l.length lc,.slice mo m.length mc,.string IA,.string UA,.string YA]) [(0,true),(1,true),(2,true),(3,true),(4,true),(5,false),(6,true),(7,true),(8,true),(9,true),(10,true),(11,true),(12,false),(13,false),(14,true),(15,true)] (by kernel_rfl) (by kernel_rfl) (by kernel_rfl) (by kernel_rfl) (by rw[hD];exact hS) ?_;rw[hD];clear hD
 iterate 5 (refine seq_take _ rfl (fun K2 hK=>?_);go_simp;(first|refine hK _ ?_|refine ⟨_,fun _ _=>rfl,hK _ ?_⟩|(refine ⟨undef,by rw[if_neg (by simp[undef])],?_⟩;refine hK _ ?_));clear hK K2)
 refine seq_come _ rfl (fun K2 hK=>?_);go_simp;refine (text8_key KA D (by have:=HKS.out;omega)).mono ?_;rintro e w6 ⟨rfl,rfl⟩;rw[HTV.out];go_simp;refine hK.out _ _ hS ?_;clear hK K2
 iterate 6 (refine seq_take _ rfl (fun K2 hK=>?_);go_simp;(first|refine hK _ ?_|refine ⟨_,fun _ _=>rfl,hK _ ?_⟩|(refine ⟨undef,by rw[if_neg (by simp[undef])],?_⟩;refine hK _ ?_));clear hK K2)
 refine seq_come _ rfl (fun K2 hK=>?_);go_simp;refine (tabK_any D).mono ?_;rintro e w4 ⟨to,rfl,HNT,hb4⟩;have hS4:Row11 w4 bx [.string KA,.bool has,.int .i64 k,.string SA,.bool b0,.int .u64 n,.slice lo l.length lc,.slice mo m.length mc,.string IA,.string UA,.string YA]:=(hb4.block _ (row_lt hS)).trans hS;have HB4:=hid hb4;go_simp;refine hK.out _ _ hS4 ?_;clear hK K2 hb4;refine seq_come _ rfl (fun K2 hK=>?_);go_simp;refine (unknown8_any YA (d) [10,18] to 2 w4 HNT (by decide) (hid (by decide)) (by have:=HYS.out;omega) (by have:=HD.out;omega)).mono ?_;rintro e w5 ⟨rfl,hb5⟩;rw[HUK.out];have hS5:Row11 w5 bx [.string KA,.bool has,.int .i64 k,.string SA,.bool b0,.int .u64 n,.slice lo l.length lc,.slice mo m.length mc,.string IA,.string UA,.string YA]:=(hb5.block _ (row_lt hS4)).trans hS4;have HB5:=hid (below_step HB4.out hb5);go_simp;refine hK.out _ _ hS5 ?_;clear hK K2 hb5
 iterate 2 (refine seq_take _ rfl (fun K2 hK=>?_);go_simp;(first|refine hK _ ?_|refine ⟨_,fun _ _=>rfl,hK _ ?_⟩|(refine ⟨undef,by rw[if_neg (by simp[undef])],?_⟩;refine hK _ ?_));clear hK K2)
 refine seq_done ?_;clear e0 e7 hne hS hS4 hS5;go_wp2_with fail;go_ret;exact ⟨below_step HB0.out (below_step HBD.out HB5.out),false,rfl,HNO.out.symm⟩
theorem mykey_has (key:List UInt8)(k:Int)(s:List UInt8)(b0:Bool)(n:Nat)(l:List Val)(m:List KV)(i u0 u:List UInt8)(hv:Hid (MyV (.mk k s b0 n l m i u0)))(ca:List Value)(P:Nat→Prop)(w:World)(d:Int)(hfit:kfit (.mk key true (.mk k s b0 n l m i u0) u))(ha:KRel w P (.mk key true (.mk k s b0 n l m i u0) u) ca)(hd:-9223372036854775808≤d∧d≤9223372036854775807)(hsz:kw (.mk key true (.mk k s b0 n l m i u0) u)≤100000)(h0:0≤d)(ht:uvalid key=true)(hu:munkOk ktk u d=true) :
  Calls Tryz.prog 100 #[.agg ca.toArray,.int .i64 d] w (MyPost (kmayD (.mk key true (.mk k s b0 n l m i u0) u) d) w):=by
 obtain ⟨R,hR⟩:∃ R,kmayD (.mk key true (.mk k s b0 n l m i u0) u) d=R:=⟨_,rfl⟩
 have HR0:=hid hR;rw[kmayD,kmay,hu,ht,decide_eq_true h0] at hR;have HR:=hid hR;rw[HR0.out];have d1:decide (d<0)=false:=decide_eq_false (by omega);have HTX:=hid ht;have H0:=hid h0;have q1:IntKind.i64.wrap (d - 1)=d - 1:=IntWalk.i64_in _ (by omega);have HUKU:Hid ((decide (0≤d)&&munkOk (rtk [10,18]) u d)=true):=hid (by rw[decide_eq_true h0,←munkOk_rtk ktk_rtk,hu];rfl);clear h0 ht hu hR;rw[KRel] at ha;obtain ⟨cv,hrv,rfl⟩:=ha;have HRV:=hid hrv;rw[VRel] at hrv;obtain ⟨lo,lc,mo,mc,rfl,_,_⟩:=hrv;rw[kfit] at hfit;obtain ⟨_,_,hfv⟩:=hfit;rw[kw] at hsz;have HFV:=hid hfv;have HSZ:=hid hsz;have HD:=hid hd;obtain ⟨KA,hKA⟩:∃ SA:ByteArray,(⟨key.toArray⟩:ByteArray)=SA:=⟨_,rfl⟩
 obtain ⟨SA,hSA⟩:∃ SA:ByteArray,(⟨s.toArray⟩:ByteArray)=SA:=⟨_,rfl⟩
 obtain ⟨IA,hIA⟩:∃ IA:ByteArray,(⟨i.toArray⟩:ByteArray)=IA:=⟨_,rfl⟩
 obtain ⟨UA,hUA⟩:∃ UA:ByteArray,(⟨u0.toArray⟩:ByteArray)=UA:=⟨_,rfl⟩
 obtain ⟨YA,hYA⟩:∃ YA:ByteArray,(⟨u.toArray⟩:ByteArray)=YA:=⟨_,rfl⟩
 have HKA:Hid (KA.data.toList=key):=hid (by rw[←hKA]);have HUA:Hid (UA.data.toList=u0):=hid (by rw[←hUA]);have HYA:Hid (YA.data.toList=u):=hid (by rw[←hYA]);have HKS:Hid (KA.size≤100000):=hid (by rw[←hKA];simp[ByteArray.size];omega);have HYS:Hid (YA.size≤100000):=hid (by rw[←hYA];simp[ByteArray.size];omega);unfold strV at HRV ⊢
 rw[hSA,hIA,hUA] at HRV
 show Calls _ _ #[.agg #[.string ⟨key.toArray⟩,.bool true,.int .i64 k,.string ⟨s.toArray⟩,.bool b0,.int .u64 n,.slice lo l.length lc,.slice mo m.length mc,.string ⟨i.toArray⟩,.string ⟨u0.toArray⟩,.string ⟨u.toArray⟩],.int .i64 d] w _
 rw[hKA,hSA,hIA,hUA,hYA];obtain ⟨W,hW⟩:∃ W,w.alloc (.cells ([.string KA,.bool true,.int .i64 k,.string SA,.bool b0,.int .u64 n,.slice lo l.length lc,.slice mo m.length mc,.string IA,.string UA,.string YA]:List Value).toArray 79)=W:=⟨_,rfl⟩
 obtain ⟨bx,hbx⟩:∃ bx,w.heap.size=bx:=⟨_,rfl⟩
 have HB0:Hid (Below w.heap.size w W):=hid (by rw[←hW];exact below_new _ _);have HX0:Hid (Row11 W bx [.string KA,.bool true,.int .i64 k,.string SA,.bool b0,.int .u64 n,.slice lo l.length lc,.slice mo m.length mc,.string IA,.string UA,.string YA]):=hid (by rw[←hW,←hbx];exact heap_alloc_new w _);have HW:=hid hW;have HBX:=hid hbx;clear hW hbx hKA hSA hIA hUA hYA hfv hd hsz;have HTV:Hid (uvalid KA.data.toList=true):=hid (by rw[HKA.out];exact HTX.out);have HUK:Hid ((decide (0≤d)&&munkOk (rtk [10,18]) YA.data.toList d)=true):=hid (by rw[HYA.out];exact HUKU.out);go_enter Tryz.func100,Tryz.ntmps100;go_wp2_with fail;rw[show w.alloc (.cells #[.string KA,.bool true,.int .i64 k,.string SA,.bool b0,.int .u64 n,.slice lo l.length lc,.slice mo m.length mc,.string IA,.string UA,.string YA] 79)=W from HW.out,HBX.out];obtain ⟨D,hD⟩:∃ D,W.drew=D:=⟨_,rfl⟩
 have HBD:Hid (Below W.heap.size W D):=hid (by rw[←hD];exact (Below.refl _ _).drew);have hS:Row11 D bx [.string KA,.bool true,.int .i64 k,.string SA,.bool b0,.int .u64 n,.slice lo l.length lc,.slice mo m.length mc,.string IA,.string UA,.string YA]:=(HBD.out.block _ (row_lt HX0.out)).trans HX0.out;have hne:Nonempty {w':World // Row11 w' bx [.string KA,.bool true,.int .i64 k,.string SA,.bool b0,.int .u64 n,.slice lo l.length lc,.slice mo m.length mc,.string IA,.string UA,.string YA]}:=⟨⟨_,hS⟩⟩
 have e0:∀ t:{w':World // Row11 w' bx [.string KA,.bool true,.int .i64 k,.string SA,.bool b0,.int .u64 n,.slice lo l.length lc,.slice mo m.length mc,.string IA,.string UA,.string YA]},t.1.cell? ⟨bx,0,none⟩=some (.string KA):=fun t=>row_cell t.2 (j:=0) rfl
 have e7:∀ t:{w':World // Row11 w' bx [.string KA,.bool true,.int .i64 k,.string SA,.bool b0,.int .u64 n,.slice lo l.length lc,.slice mo m.length mc,.string IA,.string UA,.string YA]},t.1.cell? ⟨bx,10,none⟩=some (.string YA):=fun t=>row_cell t.2 (j:=10) rfl
 refine wp_region_seq (S:=fun w'=>Row11 w' bx [.string KA,.bool true,.int .i64 k,.string SA,.bool b0,.int .u64 n,.slice lo l.length lc,.slice mo m.length mc,.string IA,.string UA,.string YA]) [(0,true),(1,true),(2,true),(3,true),(4,true),(5,false),(6,true),(7,true),(8,true),(9,true),(10,true),(11,true),(12,false),(13,false),(14,true),(15,true)] (by kernel_rfl) (by kernel_rfl) (by kernel_rfl) (by kernel_rfl) (by rw[hD];exact hS) ?_;rw[hD];clear hD
 iterate 5 (refine seq_take _ rfl (fun K2 hK=>?_);go_simp;(first|refine hK _ ?_|refine ⟨_,fun _ _=>rfl,hK _ ?_⟩|(refine ⟨undef,by rw[if_neg (by simp[undef])],?_⟩;refine hK _ ?_));clear hK K2)
 refine seq_come _ rfl (fun K2 hK=>?_);go_simp;refine (text8_key KA D (by have:=HKS.out;omega)).mono ?_;rintro e w6 ⟨rfl,rfl⟩;rw[HTV.out];go_simp;refine hK.out _ _ hS ?_;clear hK K2
 iterate 6 (refine seq_take _ rfl (fun K2 hK=>?_);go_simp;(first|refine hK _ ?_|refine ⟨_,fun _ _=>rfl,hK _ ?_⟩|(refine ⟨undef,by rw[if_neg (by simp[undef])],?_⟩;refine hK _ ?_));clear hK K2)
 refine seq_come _ rfl (fun K2 hK=>?_);go_simp;refine (tabK_any D).mono ?_;rintro e w4 ⟨to,rfl,HNT,hb4⟩;have hS4:Row11 w4 bx [.string KA,.bool true,.int .i64 k,.string SA,.bool b0,.int .u64 n,.slice lo l.length lc,.slice mo m.length mc,.string IA,.string UA,.string YA]:=(hb4.block _ (row_lt hS)).trans hS;have HB4:=hid hb4;go_simp;refine hK.out _ _ hS4 ?_;clear hK K2 hb4;refine seq_come _ rfl (fun K2 hK=>?_);go_simp;refine (unknown8_any YA (d) [10,18] to 2 w4 HNT (by decide) (hid (by decide)) (by have:=HYS.out;omega) (by have:=HD.out;omega)).mono ?_;rintro e w5 ⟨rfl,hb5⟩;rw[HUK.out];have hS5:Row11 w5 bx [.string KA,.bool true,.int .i64 k,.string SA,.bool b0,.int .u64 n,.slice lo l.length lc,.slice mo m.length mc,.string IA,.string UA,.string YA]:=(hb5.block _ (row_lt hS4)).trans hS4;have HB5:=hid (below_step HB4.out hb5);go_simp;refine hK.out _ _ hS5 ?_;clear hK K2 hb5
 iterate 2 (refine seq_take _ rfl (fun K2 hK=>?_);go_simp;(first|refine hK _ ?_|refine ⟨_,fun _ _=>rfl,hK _ ?_⟩|(refine ⟨undef,by rw[if_neg (by simp[undef])],?_⟩;refine hK _ ?_));clear hK K2)
 refine seq_done ?_;have HX5:=hid hS5;have HB:=hid (below_step HB0.out (below_step HBD.out HB5.out));have HRV5:=hid (HRV.out.below HB.out);clear e0 e7 hne hS hS4 hS5;have y0:w5.cell? ⟨bx,0,none⟩=some (.string KA):=row_cell HX5.out (j:=0) rfl;have y1:w5.cell? ⟨bx,1,none⟩=some (.bool true):=row_cell HX5.out (j:=1) rfl;have y2:w5.cell? ⟨bx,2,none⟩=some (.int .i64 k):=row_cell HX5.out (j:=2) rfl;have y3:w5.cell? ⟨bx,3,none⟩=some (.string SA):=row_cell HX5.out (j:=3) rfl;have y4:w5.cell? ⟨bx,4,none⟩=some (.bool b0):=row_cell HX5.out (j:=4) rfl;have y5:w5.cell? ⟨bx,5,none⟩=some (.int .u64 n):=row_cell HX5.out (j:=5) rfl;have y6:w5.cell? ⟨bx,6,none⟩=some (.slice lo l.length lc):=row_cell HX5.out (j:=6) rfl;have y7:w5.cell? ⟨bx,7,none⟩=some (.slice mo m.length mc):=row_cell HX5.out (j:=7) rfl;have y8:w5.cell? ⟨bx,8,none⟩=some (.string IA):=row_cell HX5.out (j:=8) rfl;have y9:w5.cell? ⟨bx,9,none⟩=some (.string UA):=row_cell HX5.out (j:=9) rfl;have y10:w5.cell? ⟨bx,10,none⟩=some (.string YA):=row_cell HX5.out (j:=10) rfl;go_wp2_with fail;refine (hv.out _ P w5 (d - 1) HFV.out HRV5.out (by have:=HD.out;have:=H0.out;omega) (by have:=HSZ.out;omega)).mono ?_;intro e w9 hpost;obtain ⟨hb9,g,rfl,hg⟩:=hpost;have HB9:=hid (below_step HB.out hb9);have HG:=hid hg;clear hb9 hg y0 y1 y2 y3 y4 y5 y6 y7 y8 y9 y10;go_wp2_with fail;go_ret;refine ⟨HB9.out,g,rfl,?_⟩;rw[HG.out,←HR.out,vmayD];have:decide (0≤d - 1)=decide (1≤d):=by congr 1;exact propext ⟨fun h=>by omega,fun h=>by omega⟩
 rw[this]
 simp
theorem mykey_not (key:List UInt8)(k:Int)(s:List UInt8)(b0:Bool)(n:Nat)(l:List Val)(m:List KV)(i u0 u:List UInt8)(hv:Hid (MyV (.mk k s b0 n l m i u0)))(ca:List Value)(P:Nat→Prop)(w:World)(d:Int)(hfit:kfit (.mk key false (.mk k s b0 n l m i u0) u))(ha:KRel w P (.mk key false (.mk k s b0 n l m i u0) u) ca)(hd:-9223372036854775808≤d∧d≤9223372036854775807)(hsz:kw (.mk key false (.mk k s b0 n l m i u0) u)≤100000)(h0:0≤d)(ht:uvalid key=true)(hu:munkOk ktk u d=true) :
  Calls Tryz.prog 100 #[.agg ca.toArray,.int .i64 d] w (MyPost (kmayD (.mk key false (.mk k s b0 n l m i u0) u) d) w):=by
 obtain ⟨R,hR⟩:∃ R,kmayD (.mk key false (.mk k s b0 n l m i u0) u) d=R:=⟨_,rfl⟩
 have HR0:=hid hR;rw[kmayD,kmay,hu,ht,decide_eq_true h0] at hR;have HR:=hid hR;rw[HR0.out];have d1:decide (d<0)=false:=decide_eq_false (by omega);have HTX:=hid ht;have H0:=hid h0;have q1:IntKind.i64.wrap (d - 1)=d - 1:=IntWalk.i64_in _ (by omega);have HUKU:Hid ((decide (0≤d)&&munkOk (rtk [10,18]) u d)=true):=hid (by rw[decide_eq_true h0,←munkOk_rtk ktk_rtk,hu];rfl);clear h0 ht hu hR;rw[KRel] at ha;obtain ⟨cv,hrv,rfl⟩:=ha;have HRV:=hid hrv;rw[VRel] at hrv;obtain ⟨lo,lc,mo,mc,rfl,_,_⟩:=hrv;rw[kfit] at hfit;obtain ⟨_,_,hfv⟩:=hfit;rw[kw] at hsz;have HFV:=hid hfv;have HSZ:=hid hsz;have HD:=hid hd;obtain ⟨KA,hKA⟩:∃ SA:ByteArray,(⟨key.toArray⟩:ByteArray)=SA:=⟨_,rfl⟩
 obtain ⟨SA,hSA⟩:∃ SA:ByteArray,(⟨s.toArray⟩:ByteArray)=SA:=⟨_,rfl⟩
 obtain ⟨IA,hIA⟩:∃ IA:ByteArray,(⟨i.toArray⟩:ByteArray)=IA:=⟨_,rfl⟩
 obtain ⟨UA,hUA⟩:∃ UA:ByteArray,(⟨u0.toArray⟩:ByteArray)=UA:=⟨_,rfl⟩
 obtain ⟨YA,hYA⟩:∃ YA:ByteArray,(⟨u.toArray⟩:ByteArray)=YA:=⟨_,rfl⟩
 have HKA:Hid (KA.data.toList=key):=hid (by rw[←hKA]);have HUA:Hid (UA.data.toList=u0):=hid (by rw[←hUA]);have HYA:Hid (YA.data.toList=u):=hid (by rw[←hYA]);have HKS:Hid (KA.size≤100000):=hid (by rw[←hKA];simp[ByteArray.size];omega);have HYS:Hid (YA.size≤100000):=hid (by rw[←hYA];simp[ByteArray.size];omega);unfold strV at HRV ⊢
 rw[hSA,hIA,hUA] at HRV
 show Calls _ _ #[.agg #[.string ⟨key.toArray⟩,.bool false,.int .i64 k,.string ⟨s.toArray⟩,.bool b0,.int .u64 n,.slice lo l.length lc,.slice mo m.length mc,.string ⟨i.toArray⟩,.string ⟨u0.toArray⟩,.string ⟨u.toArray⟩],.int .i64 d] w _
 rw[hKA,hSA,hIA,hUA,hYA];obtain ⟨W,hW⟩:∃ W,w.alloc (.cells ([.string KA,.bool false,.int .i64 k,.string SA,.bool b0,.int .u64 n,.slice lo l.length lc,.slice mo m.length mc,.string IA,.string UA,.string YA]:List Value).toArray 79)=W:=⟨_,rfl⟩
 obtain ⟨bx,hbx⟩:∃ bx,w.heap.size=bx:=⟨_,rfl⟩
 have HB0:Hid (Below w.heap.size w W):=hid (by rw[←hW];exact below_new _ _);have HX0:Hid (Row11 W bx [.string KA,.bool false,.int .i64 k,.string SA,.bool b0,.int .u64 n,.slice lo l.length lc,.slice mo m.length mc,.string IA,.string UA,.string YA]):=hid (by rw[←hW,←hbx];exact heap_alloc_new w _);have HW:=hid hW;have HBX:=hid hbx;clear hW hbx hKA hSA hIA hUA hYA hfv hd hsz;have HTV:Hid (uvalid KA.data.toList=true):=hid (by rw[HKA.out];exact HTX.out);have HUK:Hid ((decide (0≤d)&&munkOk (rtk [10,18]) YA.data.toList d)=true):=hid (by rw[HYA.out];exact HUKU.out);go_enter Tryz.func100,Tryz.ntmps100;go_wp2_with fail;rw[show w.alloc (.cells #[.string KA,.bool false,.int .i64 k,.string SA,.bool b0,.int .u64 n,.slice lo l.length lc,.slice mo m.length mc,.string IA,.string UA,.string YA] 79)=W from HW.out,HBX.out];obtain ⟨D,hD⟩:∃ D,W.drew=D:=⟨_,rfl⟩
 have HBD:Hid (Below W.heap.size W D):=hid (by rw[←hD];exact (Below.refl _ _).drew);have hS:Row11 D bx [.string KA,.bool false,.int .i64 k,.string SA,.bool b0,.int .u64 n,.slice lo l.length lc,.slice mo m.length mc,.string IA,.string UA,.string YA]:=(HBD.out.block _ (row_lt HX0.out)).trans HX0.out;have hne:Nonempty {w':World // Row11 w' bx [.string KA,.bool false,.int .i64 k,.string SA,.bool b0,.int .u64 n,.slice lo l.length lc,.slice mo m.length mc,.string IA,.string UA,.string YA]}:=⟨⟨_,hS⟩⟩
 have e0:∀ t:{w':World // Row11 w' bx [.string KA,.bool false,.int .i64 k,.string SA,.bool b0,.int .u64 n,.slice lo l.length lc,.slice mo m.length mc,.string IA,.string UA,.string YA]},t.1.cell? ⟨bx,0,none⟩=some (.string KA):=fun t=>row_cell t.2 (j:=0) rfl
 have e7:∀ t:{w':World // Row11 w' bx [.string KA,.bool false,.int .i64 k,.string SA,.bool b0,.int .u64 n,.slice lo l.length lc,.slice mo m.length mc,.string IA,.string UA,.string YA]},t.1.cell? ⟨bx,10,none⟩=some (.string YA):=fun t=>row_cell t.2 (j:=10) rfl
 refine wp_region_seq (S:=fun w'=>Row11 w' bx [.string KA,.bool false,.int .i64 k,.string SA,.bool b0,.int .u64 n,.slice lo l.length lc,.slice mo m.length mc,.string IA,.string UA,.string YA]) [(0,true),(1,true),(2,true),(3,true),(4,true),(5,false),(6,true),(7,true),(8,true),(9,true),(10,true),(11,true),(12,false),(13,false),(14,true),(15,true)] (by kernel_rfl) (by kernel_rfl) (by kernel_rfl) (by kernel_rfl) (by rw[hD];exact hS) ?_;rw[hD];clear hD
 iterate 5 (refine seq_take _ rfl (fun K2 hK=>?_);go_simp;(first|refine hK _ ?_|refine ⟨_,fun _ _=>rfl,hK _ ?_⟩|(refine ⟨undef,by rw[if_neg (by simp[undef])],?_⟩;refine hK _ ?_));clear hK K2)
 refine seq_come _ rfl (fun K2 hK=>?_);go_simp;refine (text8_key KA D (by have:=HKS.out;omega)).mono ?_;rintro e w6 ⟨rfl,rfl⟩;rw[HTV.out];go_simp;refine hK.out _ _ hS ?_;clear hK K2
 iterate 6 (refine seq_take _ rfl (fun K2 hK=>?_);go_simp;(first|refine hK _ ?_|refine ⟨_,fun _ _=>rfl,hK _ ?_⟩|(refine ⟨undef,by rw[if_neg (by simp[undef])],?_⟩;refine hK _ ?_));clear hK K2)
 refine seq_come _ rfl (fun K2 hK=>?_);go_simp;refine (tabK_any D).mono ?_;rintro e w4 ⟨to,rfl,HNT,hb4⟩;have hS4:Row11 w4 bx [.string KA,.bool false,.int .i64 k,.string SA,.bool b0,.int .u64 n,.slice lo l.length lc,.slice mo m.length mc,.string IA,.string UA,.string YA]:=(hb4.block _ (row_lt hS)).trans hS;have HB4:=hid hb4;go_simp;refine hK.out _ _ hS4 ?_;clear hK K2 hb4;refine seq_come _ rfl (fun K2 hK=>?_);go_simp;refine (unknown8_any YA (d) [10,18] to 2 w4 HNT (by decide) (hid (by decide)) (by have:=HYS.out;omega) (by have:=HD.out;omega)).mono ?_;rintro e w5 ⟨rfl,hb5⟩;rw[HUK.out];have hS5:Row11 w5 bx [.string KA,.bool false,.int .i64 k,.string SA,.bool b0,.int .u64 n,.slice lo l.length lc,.slice mo m.length mc,.string IA,.string UA,.string YA]:=(hb5.block _ (row_lt hS4)).trans hS4;have HB5:=hid (below_step HB4.out hb5);go_simp;refine hK.out _ _ hS5 ?_;clear hK K2 hb5
 iterate 2 (refine seq_take _ rfl (fun K2 hK=>?_);go_simp;(first|refine hK _ ?_|refine ⟨_,fun _ _=>rfl,hK _ ?_⟩|(refine ⟨undef,by rw[if_neg (by simp[undef])],?_⟩;refine hK _ ?_));clear hK K2)
 refine seq_done ?_;have HX5:=hid hS5;have HB:=hid (below_step HB0.out (below_step HBD.out HB5.out));have HRV5:=hid (HRV.out.below HB.out);clear e0 e7 hne hS hS4 hS5;have y0:w5.cell? ⟨bx,0,none⟩=some (.string KA):=row_cell HX5.out (j:=0) rfl;have y1:w5.cell? ⟨bx,1,none⟩=some (.bool false):=row_cell HX5.out (j:=1) rfl;have y2:w5.cell? ⟨bx,2,none⟩=some (.int .i64 k):=row_cell HX5.out (j:=2) rfl;have y3:w5.cell? ⟨bx,3,none⟩=some (.string SA):=row_cell HX5.out (j:=3) rfl;have y4:w5.cell? ⟨bx,4,none⟩=some (.bool b0):=row_cell HX5.out (j:=4) rfl;have y5:w5.cell? ⟨bx,5,none⟩=some (.int .u64 n):=row_cell HX5.out (j:=5) rfl;have y6:w5.cell? ⟨bx,6,none⟩=some (.slice lo l.length lc):=row_cell HX5.out (j:=6) rfl;have y7:w5.cell? ⟨bx,7,none⟩=some (.slice mo m.length mc):=row_cell HX5.out (j:=7) rfl;have y8:w5.cell? ⟨bx,8,none⟩=some (.string IA):=row_cell HX5.out (j:=8) rfl;have y9:w5.cell? ⟨bx,9,none⟩=some (.string UA):=row_cell HX5.out (j:=9) rfl;have y10:w5.cell? ⟨bx,10,none⟩=some (.string YA):=row_cell HX5.out (j:=10) rfl;go_wp2_with fail;refine (hv.out _ P w5 0 HFV.out HRV5.out (by omega) (by have:=HSZ.out;omega)).mono ?_;intro e w9 hpost;obtain ⟨hb9,g,rfl,hg⟩:=hpost;have HB9:=hid (below_step HB.out hb9);have HX9:Hid (Row11 w9 bx [.string KA,.bool false,.int .i64 k,.string SA,.bool b0,.int .u64 n,.slice lo l.length lc,.slice mo m.length mc,.string IA,.string UA,.string YA]):=hid ((hb9.block _ (row_lt HX5.out)).trans HX5.out);have HG:=hid hg;clear hb9 hg y0 y1 y2 y3 y4 y5 y6 y7 y8 y9 y10;have z2:w9.cell? ⟨bx,2,none⟩=some (.int .i64 k):=row_cell HX9.out (j:=2) rfl;have z9:w9.cell? ⟨bx,9,none⟩=some (.string UA):=row_cell HX9.out (j:=9) rfl
 cases g with
 | false =>
  go_wp2_with fail;go_ret;refine ⟨HB9.out,false,rfl,?_⟩;rw[←HR.out];have h:=HG.out;rw[vmayD,vmay] at h
  by_cases hk:k=0
  ·by_cases hu0:u0=[]
   ·subst hk;subst hu0
    rw[show munkOk vtk [] 0=true from rfl] at h
    simp at h
    rw[vnone]
    simp[h]
   ·rw[vnone];simp[hu0]
  ·rw[vnone];simp[hk]
 | true =>
  by_cases hk:k=0
  case neg =>
   have d2:(k == 0)=false:=by rw[beq_eq_false_iff_ne];exact hk
   go_wp2_with fail;go_ret;refine ⟨HB9.out,false,rfl,?_⟩;rw[←HR.out,vnone]
   simp[hk]
  case pos =>
   subst hk
   by_cases hu0:u0=[]
   case neg =>
    obtain ⟨t1,t2,t3,t4⟩:=text_not (X:=UA) (by rw[HUA.out];exact hu0);go_wp2_with fail;go_ret;refine ⟨HB9.out,false,rfl,?_⟩;rw[←HR.out,vnone]
    simp[hu0]
   case pos =>
    have HU0:=hid hu0;obtain rfl:=empty_ba (X:=UA) (by rw[HUA.out];exact hu0);clear hu0;go_wp2_with fail;go_ret;refine ⟨HB9.out,true,rfl,?_⟩;have h:=HG.out;rw[vmayD,vmay,HU0.out] at h;rw[show munkOk vtk [] 0=true from rfl] at h
    simp at h
    rw[←HR.out,vnone,HU0.out]
    simp[h]
end Go.Proofs.YtficgfemmijaaaaGreatDoor
