/-
 hygref8.MayValue, MayKey: kinds 4 to 7, attributes, all of it.
-/
import Derived.Test.YtficgfemmijaaaaGreatDoorRefMayA
import Derived.Test.YtficgfemmijaaaaGreatDoorRefMayB
import Derived.Test.YtficgfemmijaaaaGreatDoorRefMayC
import Derived.Test.YtficgfemmijaaaaGreatDoorRefMayE
import Derived.Test.YtficgfemmijaaaaGreatDoorRefMsg
import Derived.Test.YtficgfemmijaaaaGreatDoorValOut
import Derived.Test.YtficgfemmijaaaaGreatDoorWireRA
set_option maxRecDepth 1000000
set_option maxHeartbeats 16000000
namespace Go.Proofs.YtficgfemmijaaaaGreatDoor
open Go.RowKit
open Lib (hid)
theorem myval_step (k:Int)(s:List UInt8)(b0:Bool)(n:Nat)(l:List Val)(m:List KV)(i u:List UInt8)(hv:Hid (∀ x∈l,MyV x))(hk:Hid (MyKs m)):MyV (.mk k s b0 n l m i u):=by
 intro ca P w d hfit ha hd hsz
 by_cases h0:0≤d
 case neg=>exact myv_neg k s b0 n l m i u ca P w d hfit ha hd hsz (by omega)
 case pos =>
 by_cases h1:k<0
 case pos=>exact myv_lo k s b0 n l m i u ca P w d hfit ha hd hsz h0 h1
 case neg =>
 by_cases h2:7<k
 case pos=>exact myv_hi k s b0 n l m i u ca P w d hfit ha hd hsz h0 h2
 case neg =>
 cases hu:munkOk vtk u d with
 | false=>exact myv_unk k s b0 n l m i u ca P w d hfit ha hd hsz h0 (by omega) hu
 | true =>
  rcases (by omega:k=0∨k=1∨k=2∨k=3∨k=4∨k=5∨k=6∨k=7) with rfl|rfl|rfl|rfl|rfl|rfl|rfl|rfl
  ·exact myv_0 s b0 n l m i u hk ca P w d hfit ha hd hsz h0 hu
  ·exact myv_1 s b0 n l m i u hk ca P w d hfit ha hd hsz h0 hu
  ·exact myv_2 s b0 n l m i u hk ca P w d hfit ha hd hsz h0 hu
  ·exact myv_3 s b0 n l m i u hk ca P w d hfit ha hd hsz h0 hu
  ·exact myv_4 s b0 n l m i u hk ca P w d hfit ha hd hsz h0 hu
  ·exact myv_5 s b0 n l m i u hv hk ca P w d hfit ha hd hsz h0 hu
  ·exact myv_6 s b0 n l m i u hk ca P w d hfit ha hd hsz h0 hu
  ·exact myv_7 s b0 n l m i u hk ca P w d hfit ha hd hsz h0 hu
theorem mykey_step (key:List UInt8)(has:Bool)(v:Val)(u:List UInt8)(hv:Hid (MyV v)):MyK (.mk key has v u):=by
 intro ca P w d hfit ha hd hsz
 cases v with|mk k s b0 n l m i u0 =>
 by_cases h0:0≤d
 case neg=>exact mykey_neg key k s b0 n l m i u0 u has ca P w d hfit ha hd hsz (by omega)
 case pos =>
 cases ht:uvalid key with
 | false=>exact mykey_txt key k s b0 n l m i u0 u has ca P w d hfit ha hd hsz h0 ht
 | true =>
  cases hu:munkOk ktk u d with
  | false=>exact mykey_unk key k s b0 n l m i u0 u has ca P w d hfit ha hd hsz h0 ht hu
  | true =>
   cases has with
   | true=>exact mykey_has key k s b0 n l m i u0 u hv ca P w d hfit ha hd hsz h0 ht hu
   | false=>exact mykey_not key k s b0 n l m i u0 u hv ca P w d hfit ha hd hsz h0 ht hu
theorem rmay_all:∀ n:Nat,(∀ x:Val,SizeOf.sizeOf x<n→MyV x)∧(∀ x:KV,SizeOf.sizeOf x<n→MyK x)∧(∀ l:List KV,SizeOf.sizeOf l<n→MyKs l)
 | 0=>⟨fun _ h=>by omega,fun _ h=>by omega,fun _ h=>by omega⟩
 | n+1=>by
  obtain ⟨i1,i2,i3⟩:=rmay_all n;refine ⟨fun x h=>?_,fun x h=>?_,fun l h=>?_⟩
  ·cases x with|mk k s b n0 l m i u =>
   simp only[Val.mk.sizeOf_spec] at h
   exact myval_step k s b n0 l m i u (hid fun x hx=>i1 x (by have:=List.sizeOf_lt_of_mem hx;omega)) (hid (i3 m (by omega)))
  ·cases x with|mk key has v u =>
   simp only[KV.mk.sizeOf_spec] at h
   exact mykey_step key has v u (hid (i1 v (by omega)))
  ·exact mykeys_step l (hid fun x hx=>i2 x (by have:=List.sizeOf_lt_of_mem hx;omega))
theorem mayks_any8 (l:List KV):MyKs l:=(rmay_all (SizeOf.sizeOf l+1)).2.2 l (by omega)
open Go.RowKit
def RoPost (t:List UInt8)(w:World)(e:Ending)(w':World):Prop:=Below w.heap.size w w'∧∃ R:ByteArray,e = .returned (.string R)∧Hid (R.data.toList=t)
def RoV (x:Val):Prop:=∀ (ca:List Value) (P:Nat→Prop) (w:World) (d:Int),vfit x→VRel w P x ca→vw x≤100000→vmay x d=true→Calls Tryz.prog 156 #[.agg ca.toArray] w (RoPost (vout x) w)
def RoK (x:KV):Prop:=∀ (ca:List Value) (P:Nat→Prop) (w:World) (d:Int),kfit x→KRel w P x ca→kw x≤100000→kmay x d=true→Calls Tryz.prog 116 #[.agg ca.toArray] w (RoPost (kout x) w)
def RoKs (l:List KV):Prop:=∀ (num:Nat) (lo:Option Addr) (lc:Nat) (P:Nat→Prop) (w:World) (d:Int),1≤num∧num≤536870911→ksfit l→KRels w P l lo 0→ksw l≤100000→kmays l d=true→Calls Tryz.prog 61 #[.int .i64 num,.slice lo l.length lc] w (RoPost (kouts num l) w)
theorem rbytes_raw (num:Nat)(S:ByteArray)(t:List UInt8)(w:World)(h1:1≤num)(h2:num≤536870911)(hS:S.data.toList=t)(hs:t.length≤1000000):Calls Tryz.prog 115 #[.int .i64 num,.string S] w (RoPost (rB num t).raw w):=by
 have hz:S.size=t.length:=by rw[←hS];simp
 refine (rbytes_any (num:Int) S w (by omega) (by omega) (by omega)).mono ?_;rintro e w1 ⟨rfl,hb⟩;refine ⟨hb,_,rfl,hid ?_⟩;rw[hz,hS];exact wrec_raw (num:=num) (ty:=2) h1 h2 (by omega) (vput t.length++t)
theorem rkeys_step (l:List KV)(hk:Hid (∀ x∈l,RoK x)):RoKs l:=by
 intro num lo lc P w d hnum hfit ha hsz hm;have HA:=hid ha;have HFIT:=hid hfit;have HSZ:=hid hsz;have HM:=hid hm;have HNUM:=hid hnum;have hlen:l.length≤100000:=by have:=ksw_len l;omega
 clear ha hfit hsz hm hnum;go_enter Tryz.func61,Tryz.ntmps61;go_wp2_with fail
 go_loopg [5,6] l.length (fun k sv i wr=>∃ (j:Nat) (S:ByteArray),i = .int .i64 j∧j+k=l.length∧sv = .string S∧Hid (S.data.toList=kouts num (l.take j))∧Below w.heap.size w wr)
 case atStart=>exact ⟨0,⟨#[]⟩,rfl,by omega,rfl,hid (by rw[List.take_zero,kouts]),Below.refl _ _⟩
 case round =>
  obtain ⟨j,S,rfl,hj,rfl,HS,hbr⟩:=hrel;have HBR:=hid hbr;have HJ:=hid hj;have hjl:j≤l.length:=by omega
  clear hbr hj
  by_cases hlt:j<l.length
  ·obtain ⟨ga,oa,ca,rfl,hga,hca,hra⟩:=krels_at0 (HA.out.below HBR.out) j hlt
   have hmem:=List.getElem_mem hlt;obtain ⟨x,hx⟩:∃ x,l[j]=x:=⟨_,rfl⟩
   have HKX:=hid (hk.out x (hx ▸ hmem));have HFX:=hid (ksfit_at HFIT.out x (hx ▸ hmem));have HTK:Hid (kouts num (l.take (j+1))=kouts num (l.take j)++(rB num (kout x)).raw):=hid (by rw[List.take_succ_eq_append_getElem hlt,kouts_app,hx,kouts_one]);have HWX:Hid (ksw (l.take j)+kw x≤100000):=hid (by have:=ksw_at hlt;rw[hx] at this;have:=HSZ.out;omega)
   have HMX:Hid (kmay x (d - 1)=true):=hid (by
    cases hh:kmay x (d - 1) with
    | true=>rfl
    | false =>
     have h1:kmays (l.take (j+1)) d=false:=by rw[List.take_succ_eq_append_getElem hlt,kmays_app,hx,kmays_one,hh];simp
     have:=kmays_take h1;rw[HM.out] at this
     cases this)
   rw[hx] at hra;have HRA:=hid hra;obtain ⟨K0,h0,k1,S1,b1,n1,l1,ln1,lc1,m1,mn1,mc1,I1,U1,Y1,rfl⟩:=hra.form;have HCA:=hid hca
   have hsz:S.size≤100000:=by
    have h1:S.size=(kouts num (l.take j)).length:=by rw[←HS.out];simp
    have h2:=kouts_le num HNUM.out.2 (l.take j);have:=HWX.out;omega
   clear hx hmem hra hca;obtain ⟨ev0,ev1,ev2,ev3,ev4,ev5,ev6,ev7,ev8,ev9,ev10⟩:=cells11 HCA.out;go_wp2_with fail;refine (HKX.out _ P wr (d - 1) HFX.out HRA.out (by have:=HWX.out;omega) HMX.out).mono ?_;intro e w5 hpost;obtain ⟨hb5,R,rfl,HR⟩:=hpost;have HB5:=hid (below_step HBR.out hb5);clear hb5 ev0 ev1 ev2 ev3 ev4 ev5 ev6 ev7 ev8 ev9 ev10;go_wp2_with fail;refine (rbytes_raw num R (kout x) w5 HNUM.out.1 HNUM.out.2 HR.out (by have:=kout_le x;have:=kw_kb x;have:=HWX.out;omega)).mono ?_;intro e w6 hpost;obtain ⟨hb6,V,rfl,HV⟩:=hpost;have HB6:=hid (below_step HB5.out hb6)
   have hvz:V.size≤200000:=by
    have h1:V.size=((rB num (kout x)).raw).length:=by rw[←HV.out];simp
    have h2:(rB num (kout x)).raw.length≤20+(kout x).length:=by
     show (vput (8 * num+2)++(vput (kout x).length++kout x)).length≤_
     rw[List.length_append,List.length_append];have:=vput_le10 (8 * num+2);have:=vput_le10 (kout x).length;omega
    have:=kout_le x;have:=kw_kb x;have:=HWX.out;omega
   have hso:¬9223372036854775807<S.size+V.size:=by omega
   have HSV:Hid ((S++V).data.toList=kouts num (l.take (j+1))):=hid (by rw[HTK.out,←HS.out,←HV.out];simp);clear hb6 hvz;go_wp2_with fail;have hj:=HJ.out
   go_roundg (gk - 1)
   case measure=>omega
   case rel=>exact ⟨j+1,S++V,by simp,by omega,rfl,HSV,HB6.out⟩
  ·have hjn:j=l.length:=by have:=HJ.out;omega
   have HRE:Hid (S.data.toList=kouts num l):=hid (by have h:=HS.out;rwa [hjn,List.take_length] at h);clear hjn;go_wp2_with fail;go_ret;exact ⟨HBR.out,_,rfl,HRE⟩
theorem rpack_any (l:List KV)(hk:Hid (RoKs l))(lo:Option Addr)(lc:Nat)(P:Nat→Prop)(w:World)(d:Int)(hfit:ksfit l)(ha:KRels w P l lo 0)(hsz:ksw l≤100000)(hm:kmays l d=true):Calls Tryz.prog 183 #[.slice lo l.length lc] w (RoPost (kouts 1 l) w):=by
 have HC:=hid (hk.out 1 lo lc P w d (by omega) hfit ha hsz hm);clear hfit ha hsz hm;go_enter Tryz.func183,Tryz.ntmps183;go_wp2_with fail;refine HC.out.mono ?_;rintro e w1 ⟨hb1,R,rfl,HR⟩;have HB1:=hid hb1;clear hb1;go_wp2_with fail;go_ret;exact ⟨HB1.out,_,rfl,HR⟩
theorem rov_0 (s:List UInt8)(b0:Bool)(n:Nat)(l:List Val)(m:List KV)(i u:List UInt8):RoV (.mk 0 s b0 n l m i u):=by
 intro ca P w d hfit ha hsz hm;rw[VRel] at ha;rw[vfit] at hfit;obtain ⟨_,hn,_,_,_,hfl,hfm⟩:=hfit;obtain ⟨lo,lc,mo,mc,rfl,hal,ham⟩:=ha;rw[vw] at hsz;rw[vmay] at hm;have HM:=hid hm;have HAL:=hid hal;have HAM:=hid ham;have HFL:=hid hfl;have HFM:=hid hfm;have HSZ:=hid hsz;have HN:=hid hn;obtain ⟨SA,hSA⟩:∃ Y:ByteArray,(⟨s.toArray⟩:ByteArray)=Y:=⟨_,rfl⟩
 obtain ⟨IA,hIA⟩:∃ Y:ByteArray,(⟨i.toArray⟩:ByteArray)=Y:=⟨_,rfl⟩
 obtain ⟨UA,hUA⟩:∃ Y:ByteArray,(⟨u.toArray⟩:ByteArray)=Y:=⟨_,rfl⟩
 have HSA:Hid (SA.data.toList=s):=hid (by rw[←hSA]);have HIA:Hid (IA.data.toList=i):=hid (by rw[←hIA]);have HUA:Hid (UA.data.toList=u):=hid (by rw[←hUA]);have hus:UA.size≤100000:=by rw[←hUA];simp[ByteArray.size];omega
 have his:IA.size≤100000:=by rw[←hIA];simp[ByteArray.size];omega
 unfold strV;rw[hSA,hIA,hUA];have hll:l.length≤100000:=by have:=vsw_len l;omega
 obtain ⟨W,hW⟩:∃ W,w.alloc (.cells #[.int .i64 0,.string SA,.bool b0,.int .u64 n,.slice lo l.length lc,.slice mo m.length mc,.string IA,.string UA] 77)=W:=⟨_,rfl⟩
 obtain ⟨bx,hbx⟩:∃ bx,w.heap.size=bx:=⟨_,rfl⟩
 have HB0:Hid (Below w.heap.size w W):=hid (by rw[←hW];exact below_new _ _);have HX0:Hid (W.heap[bx]? = some (.cells #[.int .i64 0,.string SA,.bool b0,.int .u64 n,.slice lo l.length lc,.slice mo m.length mc,.string IA,.string UA] 77 (0,0))):=hid (by rw[←hW,←hbx];exact heap_alloc_new w _);have HW:=hid hW;have HBX:=hid hbx;clear hW hbx hSA hIA hUA hal ham hfl hfm hn hsz hm;have x0:W.cell? ⟨bx,0,none⟩=some (.int .i64 0):=row_cell HX0.out (j:=0) rfl;have x1:W.cell? ⟨bx,1,none⟩=some (.string SA):=row_cell HX0.out (j:=1) rfl;have x2:W.cell? ⟨bx,2,none⟩=some (.bool b0):=row_cell HX0.out (j:=2) rfl;have x3:W.cell? ⟨bx,3,none⟩=some (.int .u64 n):=row_cell HX0.out (j:=3) rfl;have x4:W.cell? ⟨bx,4,none⟩=some (.slice lo l.length lc):=row_cell HX0.out (j:=4) rfl;have x5:W.cell? ⟨bx,5,none⟩=some (.slice mo m.length mc):=row_cell HX0.out (j:=5) rfl;have x6:W.cell? ⟨bx,6,none⟩=some (.string IA):=row_cell HX0.out (j:=6) rfl;have x7:W.cell? ⟨bx,7,none⟩=some (.string UA):=row_cell HX0.out (j:=7) rfl;go_enter Tryz.func156,Tryz.ntmps156;go_wp2_with fail;rw[HW.out,HBX.out];go_wp2_with fail;go_ret;refine ⟨HB0.out,_,rfl,hid ?_⟩;rw[ByteArray.data_append,Array.toList_append,HUA.out,vout]
 simp[vrec]
theorem rov_1 (s:List UInt8)(b0:Bool)(n:Nat)(l:List Val)(m:List KV)(i u:List UInt8):RoV (.mk 1 s b0 n l m i u):=by
 intro ca P w d hfit ha hsz hm;rw[VRel] at ha;rw[vfit] at hfit;obtain ⟨_,hn,_,_,_,hfl,hfm⟩:=hfit;obtain ⟨lo,lc,mo,mc,rfl,hal,ham⟩:=ha;rw[vw] at hsz;rw[vmay] at hm;have HM:=hid hm;have HAL:=hid hal;have HAM:=hid ham;have HFL:=hid hfl;have HFM:=hid hfm;have HSZ:=hid hsz;have HN:=hid hn;obtain ⟨SA,hSA⟩:∃ Y:ByteArray,(⟨s.toArray⟩:ByteArray)=Y:=⟨_,rfl⟩
 obtain ⟨IA,hIA⟩:∃ Y:ByteArray,(⟨i.toArray⟩:ByteArray)=Y:=⟨_,rfl⟩
 obtain ⟨UA,hUA⟩:∃ Y:ByteArray,(⟨u.toArray⟩:ByteArray)=Y:=⟨_,rfl⟩
 have HSA:Hid (SA.data.toList=s):=hid (by rw[←hSA]);have HIA:Hid (IA.data.toList=i):=hid (by rw[←hIA]);have HUA:Hid (UA.data.toList=u):=hid (by rw[←hUA]);have hus:UA.size≤100000:=by rw[←hUA];simp[ByteArray.size];omega
 have his:IA.size≤100000:=by rw[←hIA];simp[ByteArray.size];omega
 unfold strV;rw[hSA,hIA,hUA];have hll:l.length≤100000:=by have:=vsw_len l;omega
 obtain ⟨W,hW⟩:∃ W,w.alloc (.cells #[.int .i64 1,.string SA,.bool b0,.int .u64 n,.slice lo l.length lc,.slice mo m.length mc,.string IA,.string UA] 77)=W:=⟨_,rfl⟩
 obtain ⟨bx,hbx⟩:∃ bx,w.heap.size=bx:=⟨_,rfl⟩
 have HB0:Hid (Below w.heap.size w W):=hid (by rw[←hW];exact below_new _ _);have HX0:Hid (W.heap[bx]? = some (.cells #[.int .i64 1,.string SA,.bool b0,.int .u64 n,.slice lo l.length lc,.slice mo m.length mc,.string IA,.string UA] 77 (0,0))):=hid (by rw[←hW,←hbx];exact heap_alloc_new w _);have HW:=hid hW;have HBX:=hid hbx;clear hW hbx hSA hIA hUA hal ham hfl hfm hn hsz hm;have x0:W.cell? ⟨bx,0,none⟩=some (.int .i64 1):=row_cell HX0.out (j:=0) rfl;have x1:W.cell? ⟨bx,1,none⟩=some (.string SA):=row_cell HX0.out (j:=1) rfl;have x2:W.cell? ⟨bx,2,none⟩=some (.bool b0):=row_cell HX0.out (j:=2) rfl;have x3:W.cell? ⟨bx,3,none⟩=some (.int .u64 n):=row_cell HX0.out (j:=3) rfl;have x4:W.cell? ⟨bx,4,none⟩=some (.slice lo l.length lc):=row_cell HX0.out (j:=4) rfl;have x5:W.cell? ⟨bx,5,none⟩=some (.slice mo m.length mc):=row_cell HX0.out (j:=5) rfl;have x6:W.cell? ⟨bx,6,none⟩=some (.string IA):=row_cell HX0.out (j:=6) rfl;have x7:W.cell? ⟨bx,7,none⟩=some (.string UA):=row_cell HX0.out (j:=7) rfl;go_enter Tryz.func156,Tryz.ntmps156;go_wp2_with fail;rw[HW.out,HBX.out];go_wp2_with fail;refine (rbytes_raw 1 SA s _ (by omega) (by omega) HSA.out (by have:=HSZ.out;omega)).mono ?_;rintro e w5 ⟨hb5,V,rfl,HV⟩;have HB5:=hid (below_step HB0.out hb5);have HX5:=hid ((hb5.block _ (row_lt HX0.out)).trans HX0.out)
 have hvz:V.size≤1000000:=by
  have h1:V.size=((rB 1 s).raw).length:=by rw[←HV.out];simp
  show V.size≤_
  rw[h1]
  show (vput (8 * 1+2)++(vput (s).length++s)).length≤_
  rw[List.length_append,List.length_append];have:=vput_le10 (8 * 1+2);have:=vput_le10 (s).length;have:=HSZ.out;omega
 have hso:¬9223372036854775807<V.size+UA.size:=by omega
 clear x0 x1 x2 x3 x4 x5 x6 x7 hb5 hvz;have y7:w5.cell? ⟨bx,7,none⟩=some (.string UA):=row_cell HX5.out (j:=7) rfl;go_wp2_with fail;go_ret;refine ⟨HB5.out,_,rfl,hid ?_⟩;rw[ByteArray.data_append,Array.toList_append,HV.out,HUA.out,vout]
 simp[vrec]
theorem rov_7 (s:List UInt8)(b0:Bool)(n:Nat)(l:List Val)(m:List KV)(i u:List UInt8):RoV (.mk 7 s b0 n l m i u):=by
 intro ca P w d hfit ha hsz hm;rw[VRel] at ha;rw[vfit] at hfit;obtain ⟨_,hn,_,_,_,hfl,hfm⟩:=hfit;obtain ⟨lo,lc,mo,mc,rfl,hal,ham⟩:=ha;rw[vw] at hsz;rw[vmay] at hm;have HM:=hid hm;have HAL:=hid hal;have HAM:=hid ham;have HFL:=hid hfl;have HFM:=hid hfm;have HSZ:=hid hsz;have HN:=hid hn;obtain ⟨SA,hSA⟩:∃ Y:ByteArray,(⟨s.toArray⟩:ByteArray)=Y:=⟨_,rfl⟩
 obtain ⟨IA,hIA⟩:∃ Y:ByteArray,(⟨i.toArray⟩:ByteArray)=Y:=⟨_,rfl⟩
 obtain ⟨UA,hUA⟩:∃ Y:ByteArray,(⟨u.toArray⟩:ByteArray)=Y:=⟨_,rfl⟩
 have HSA:Hid (SA.data.toList=s):=hid (by rw[←hSA]);have HIA:Hid (IA.data.toList=i):=hid (by rw[←hIA]);have HUA:Hid (UA.data.toList=u):=hid (by rw[←hUA]);have hus:UA.size≤100000:=by rw[←hUA];simp[ByteArray.size];omega
 have his:IA.size≤100000:=by rw[←hIA];simp[ByteArray.size];omega
 unfold strV;rw[hSA,hIA,hUA];have hll:l.length≤100000:=by have:=vsw_len l;omega
 obtain ⟨W,hW⟩:∃ W,w.alloc (.cells #[.int .i64 7,.string SA,.bool b0,.int .u64 n,.slice lo l.length lc,.slice mo m.length mc,.string IA,.string UA] 77)=W:=⟨_,rfl⟩
 obtain ⟨bx,hbx⟩:∃ bx,w.heap.size=bx:=⟨_,rfl⟩
 have HB0:Hid (Below w.heap.size w W):=hid (by rw[←hW];exact below_new _ _);have HX0:Hid (W.heap[bx]? = some (.cells #[.int .i64 7,.string SA,.bool b0,.int .u64 n,.slice lo l.length lc,.slice mo m.length mc,.string IA,.string UA] 77 (0,0))):=hid (by rw[←hW,←hbx];exact heap_alloc_new w _);have HW:=hid hW;have HBX:=hid hbx;clear hW hbx hSA hIA hUA hal ham hfl hfm hn hsz hm;have x0:W.cell? ⟨bx,0,none⟩=some (.int .i64 7):=row_cell HX0.out (j:=0) rfl;have x1:W.cell? ⟨bx,1,none⟩=some (.string SA):=row_cell HX0.out (j:=1) rfl;have x2:W.cell? ⟨bx,2,none⟩=some (.bool b0):=row_cell HX0.out (j:=2) rfl;have x3:W.cell? ⟨bx,3,none⟩=some (.int .u64 n):=row_cell HX0.out (j:=3) rfl;have x4:W.cell? ⟨bx,4,none⟩=some (.slice lo l.length lc):=row_cell HX0.out (j:=4) rfl;have x5:W.cell? ⟨bx,5,none⟩=some (.slice mo m.length mc):=row_cell HX0.out (j:=5) rfl;have x6:W.cell? ⟨bx,6,none⟩=some (.string IA):=row_cell HX0.out (j:=6) rfl;have x7:W.cell? ⟨bx,7,none⟩=some (.string UA):=row_cell HX0.out (j:=7) rfl;go_enter Tryz.func156,Tryz.ntmps156;go_wp2_with fail;rw[HW.out,HBX.out];go_wp2_with fail;refine (rbytes_raw 7 SA s _ (by omega) (by omega) HSA.out (by have:=HSZ.out;omega)).mono ?_;rintro e w5 ⟨hb5,V,rfl,HV⟩;have HB5:=hid (below_step HB0.out hb5);have HX5:=hid ((hb5.block _ (row_lt HX0.out)).trans HX0.out)
 have hvz:V.size≤1000000:=by
  have h1:V.size=((rB 7 s).raw).length:=by rw[←HV.out];simp
  show V.size≤_
  rw[h1]
  show (vput (8 * 7+2)++(vput (s).length++s)).length≤_
  rw[List.length_append,List.length_append];have:=vput_le10 (8 * 7+2);have:=vput_le10 (s).length;have:=HSZ.out;omega
 have hso:¬9223372036854775807<V.size+UA.size:=by omega
 clear x0 x1 x2 x3 x4 x5 x6 x7 hb5 hvz;have y7:w5.cell? ⟨bx,7,none⟩=some (.string UA):=row_cell HX5.out (j:=7) rfl;go_wp2_with fail;go_ret;refine ⟨HB5.out,_,rfl,hid ?_⟩;rw[ByteArray.data_append,Array.toList_append,HV.out,HUA.out,vout]
 simp[vrec]
theorem rov_2T (s:List UInt8)(n:Nat)(l:List Val)(m:List KV)(i u:List UInt8):RoV (.mk 2 s true n l m i u):=by
 intro ca P w d hfit ha hsz hm;rw[VRel] at ha;rw[vfit] at hfit;obtain ⟨_,hn,_,_,_,hfl,hfm⟩:=hfit;obtain ⟨lo,lc,mo,mc,rfl,hal,ham⟩:=ha;rw[vw] at hsz;rw[vmay] at hm;have HM:=hid hm;have HAL:=hid hal;have HAM:=hid ham;have HFL:=hid hfl;have HFM:=hid hfm;have HSZ:=hid hsz;have HN:=hid hn;obtain ⟨SA,hSA⟩:∃ Y:ByteArray,(⟨s.toArray⟩:ByteArray)=Y:=⟨_,rfl⟩
 obtain ⟨IA,hIA⟩:∃ Y:ByteArray,(⟨i.toArray⟩:ByteArray)=Y:=⟨_,rfl⟩
 obtain ⟨UA,hUA⟩:∃ Y:ByteArray,(⟨u.toArray⟩:ByteArray)=Y:=⟨_,rfl⟩
 have HSA:Hid (SA.data.toList=s):=hid (by rw[←hSA]);have HIA:Hid (IA.data.toList=i):=hid (by rw[←hIA]);have HUA:Hid (UA.data.toList=u):=hid (by rw[←hUA]);have hus:UA.size≤100000:=by rw[←hUA];simp[ByteArray.size];omega
 have his:IA.size≤100000:=by rw[←hIA];simp[ByteArray.size];omega
 unfold strV;rw[hSA,hIA,hUA];have hll:l.length≤100000:=by have:=vsw_len l;omega
 obtain ⟨W,hW⟩:∃ W,w.alloc (.cells #[.int .i64 2,.string SA,.bool true,.int .u64 n,.slice lo l.length lc,.slice mo m.length mc,.string IA,.string UA] 77)=W:=⟨_,rfl⟩
 obtain ⟨bx,hbx⟩:∃ bx,w.heap.size=bx:=⟨_,rfl⟩
 have HB0:Hid (Below w.heap.size w W):=hid (by rw[←hW];exact below_new _ _);have HX0:Hid (W.heap[bx]? = some (.cells #[.int .i64 2,.string SA,.bool true,.int .u64 n,.slice lo l.length lc,.slice mo m.length mc,.string IA,.string UA] 77 (0,0))):=hid (by rw[←hW,←hbx];exact heap_alloc_new w _);have HW:=hid hW;have HBX:=hid hbx;clear hW hbx hSA hIA hUA hal ham hfl hfm hn hsz hm;have x0:W.cell? ⟨bx,0,none⟩=some (.int .i64 2):=row_cell HX0.out (j:=0) rfl;have x1:W.cell? ⟨bx,1,none⟩=some (.string SA):=row_cell HX0.out (j:=1) rfl;have x2:W.cell? ⟨bx,2,none⟩=some (.bool true):=row_cell HX0.out (j:=2) rfl;have x3:W.cell? ⟨bx,3,none⟩=some (.int .u64 n):=row_cell HX0.out (j:=3) rfl;have x4:W.cell? ⟨bx,4,none⟩=some (.slice lo l.length lc):=row_cell HX0.out (j:=4) rfl;have x5:W.cell? ⟨bx,5,none⟩=some (.slice mo m.length mc):=row_cell HX0.out (j:=5) rfl;have x6:W.cell? ⟨bx,6,none⟩=some (.string IA):=row_cell HX0.out (j:=6) rfl;have x7:W.cell? ⟨bx,7,none⟩=some (.string UA):=row_cell HX0.out (j:=7) rfl;go_enter Tryz.func156,Tryz.ntmps156;go_wp2_with fail;rw[HW.out,HBX.out];go_wp2_with fail;refine (rnum_any 2 1 _ (by omega) (by omega) (by have:=HN.out;omega)).mono ?_;rintro e w5 ⟨rfl,hb5⟩;obtain ⟨V,hV⟩:∃ V:ByteArray,(⟨(wrec 2 0 (vput 1)).toArray⟩:ByteArray)=V:=⟨_,rfl⟩
 have HV:Hid (V.data.toList=(rN 2 1).raw):=hid (by rw[←hV];exact wrec_raw (num:=2) (ty:=0) (by omega) (by omega) (by omega) (vput 1));rw[hV];clear hV;have HB5:=hid (below_step HB0.out hb5);have HX5:=hid ((hb5.block _ (row_lt HX0.out)).trans HX0.out)
 have hvz:V.size≤1000000:=by
  have h1:V.size=((rN 2 1).raw).length:=by rw[←HV.out];simp
  show V.size≤_
  rw[h1]
  show (vput (8 * 2+0)++vput 1).length≤_
  rw[List.length_append];have:=vput_le10 (8 * 2+0);have:=vput_le10 1;omega
 have hso:¬9223372036854775807<V.size+UA.size:=by omega
 clear x0 x1 x2 x3 x4 x5 x6 x7 hb5 hvz;have y7:w5.cell? ⟨bx,7,none⟩=some (.string UA):=row_cell HX5.out (j:=7) rfl;go_wp2_with fail;go_ret;refine ⟨HB5.out,_,rfl,hid ?_⟩;rw[ByteArray.data_append,Array.toList_append,HV.out,HUA.out,vout]
 simp[vrec]
theorem rov_2F (s:List UInt8)(n:Nat)(l:List Val)(m:List KV)(i u:List UInt8):RoV (.mk 2 s false n l m i u):=by
 intro ca P w d hfit ha hsz hm;rw[VRel] at ha;rw[vfit] at hfit;obtain ⟨_,hn,_,_,_,hfl,hfm⟩:=hfit;obtain ⟨lo,lc,mo,mc,rfl,hal,ham⟩:=ha;rw[vw] at hsz;rw[vmay] at hm;have HM:=hid hm;have HAL:=hid hal;have HAM:=hid ham;have HFL:=hid hfl;have HFM:=hid hfm;have HSZ:=hid hsz;have HN:=hid hn;obtain ⟨SA,hSA⟩:∃ Y:ByteArray,(⟨s.toArray⟩:ByteArray)=Y:=⟨_,rfl⟩
 obtain ⟨IA,hIA⟩:∃ Y:ByteArray,(⟨i.toArray⟩:ByteArray)=Y:=⟨_,rfl⟩
 obtain ⟨UA,hUA⟩:∃ Y:ByteArray,(⟨u.toArray⟩:ByteArray)=Y:=⟨_,rfl⟩
 have HSA:Hid (SA.data.toList=s):=hid (by rw[←hSA]);have HIA:Hid (IA.data.toList=i):=hid (by rw[←hIA]);have HUA:Hid (UA.data.toList=u):=hid (by rw[←hUA]);have hus:UA.size≤100000:=by rw[←hUA];simp[ByteArray.size];omega
 have his:IA.size≤100000:=by rw[←hIA];simp[ByteArray.size];omega
 unfold strV;rw[hSA,hIA,hUA];have hll:l.length≤100000:=by have:=vsw_len l;omega
 obtain ⟨W,hW⟩:∃ W,w.alloc (.cells #[.int .i64 2,.string SA,.bool false,.int .u64 n,.slice lo l.length lc,.slice mo m.length mc,.string IA,.string UA] 77)=W:=⟨_,rfl⟩
 obtain ⟨bx,hbx⟩:∃ bx,w.heap.size=bx:=⟨_,rfl⟩
 have HB0:Hid (Below w.heap.size w W):=hid (by rw[←hW];exact below_new _ _);have HX0:Hid (W.heap[bx]? = some (.cells #[.int .i64 2,.string SA,.bool false,.int .u64 n,.slice lo l.length lc,.slice mo m.length mc,.string IA,.string UA] 77 (0,0))):=hid (by rw[←hW,←hbx];exact heap_alloc_new w _);have HW:=hid hW;have HBX:=hid hbx;clear hW hbx hSA hIA hUA hal ham hfl hfm hn hsz hm;have x0:W.cell? ⟨bx,0,none⟩=some (.int .i64 2):=row_cell HX0.out (j:=0) rfl;have x1:W.cell? ⟨bx,1,none⟩=some (.string SA):=row_cell HX0.out (j:=1) rfl;have x2:W.cell? ⟨bx,2,none⟩=some (.bool false):=row_cell HX0.out (j:=2) rfl;have x3:W.cell? ⟨bx,3,none⟩=some (.int .u64 n):=row_cell HX0.out (j:=3) rfl;have x4:W.cell? ⟨bx,4,none⟩=some (.slice lo l.length lc):=row_cell HX0.out (j:=4) rfl;have x5:W.cell? ⟨bx,5,none⟩=some (.slice mo m.length mc):=row_cell HX0.out (j:=5) rfl;have x6:W.cell? ⟨bx,6,none⟩=some (.string IA):=row_cell HX0.out (j:=6) rfl;have x7:W.cell? ⟨bx,7,none⟩=some (.string UA):=row_cell HX0.out (j:=7) rfl;go_enter Tryz.func156,Tryz.ntmps156;go_wp2_with fail;rw[HW.out,HBX.out];go_wp2_with fail;refine (rnum_any 2 0 _ (by omega) (by omega) (by have:=HN.out;omega)).mono ?_;rintro e w5 ⟨rfl,hb5⟩;obtain ⟨V,hV⟩:∃ V:ByteArray,(⟨(wrec 2 0 (vput 0)).toArray⟩:ByteArray)=V:=⟨_,rfl⟩
 have HV:Hid (V.data.toList=(rN 2 0).raw):=hid (by rw[←hV];exact wrec_raw (num:=2) (ty:=0) (by omega) (by omega) (by omega) (vput 0));rw[hV];clear hV;have HB5:=hid (below_step HB0.out hb5);have HX5:=hid ((hb5.block _ (row_lt HX0.out)).trans HX0.out)
 have hvz:V.size≤1000000:=by
  have h1:V.size=((rN 2 0).raw).length:=by rw[←HV.out];simp
  show V.size≤_
  rw[h1]
  show (vput (8 * 2+0)++vput 0).length≤_
  rw[List.length_append];have:=vput_le10 (8 * 2+0);have:=vput_le10 0;omega
 have hso:¬9223372036854775807<V.size+UA.size:=by omega
 clear x0 x1 x2 x3 x4 x5 x6 x7 hb5 hvz;have y7:w5.cell? ⟨bx,7,none⟩=some (.string UA):=row_cell HX5.out (j:=7) rfl;go_wp2_with fail;go_ret;refine ⟨HB5.out,_,rfl,hid ?_⟩;rw[ByteArray.data_append,Array.toList_append,HV.out,HUA.out,vout]
 have hz:n=0:=by
  have h:=HM.out
  simp only[Bool.and_eq_true] at h
  have h:=h.1.1.1;unfold vpl at h
  simp at h
  omega
 rw[hz]
 simp[vrec]
theorem rov_3 (s:List UInt8)(b0:Bool)(n:Nat)(l:List Val)(m:List KV)(i u:List UInt8):RoV (.mk 3 s b0 n l m i u):=by
 intro ca P w d hfit ha hsz hm;rw[VRel] at ha;rw[vfit] at hfit;obtain ⟨_,hn,_,_,_,hfl,hfm⟩:=hfit;obtain ⟨lo,lc,mo,mc,rfl,hal,ham⟩:=ha;rw[vw] at hsz;rw[vmay] at hm;have HM:=hid hm;have HAL:=hid hal;have HAM:=hid ham;have HFL:=hid hfl;have HFM:=hid hfm;have HSZ:=hid hsz;have HN:=hid hn;obtain ⟨SA,hSA⟩:∃ Y:ByteArray,(⟨s.toArray⟩:ByteArray)=Y:=⟨_,rfl⟩
 obtain ⟨IA,hIA⟩:∃ Y:ByteArray,(⟨i.toArray⟩:ByteArray)=Y:=⟨_,rfl⟩
 obtain ⟨UA,hUA⟩:∃ Y:ByteArray,(⟨u.toArray⟩:ByteArray)=Y:=⟨_,rfl⟩
 have HSA:Hid (SA.data.toList=s):=hid (by rw[←hSA]);have HIA:Hid (IA.data.toList=i):=hid (by rw[←hIA]);have HUA:Hid (UA.data.toList=u):=hid (by rw[←hUA]);have hus:UA.size≤100000:=by rw[←hUA];simp[ByteArray.size];omega
 have his:IA.size≤100000:=by rw[←hIA];simp[ByteArray.size];omega
 unfold strV;rw[hSA,hIA,hUA];have hll:l.length≤100000:=by have:=vsw_len l;omega
 obtain ⟨W,hW⟩:∃ W,w.alloc (.cells #[.int .i64 3,.string SA,.bool b0,.int .u64 n,.slice lo l.length lc,.slice mo m.length mc,.string IA,.string UA] 77)=W:=⟨_,rfl⟩
 obtain ⟨bx,hbx⟩:∃ bx,w.heap.size=bx:=⟨_,rfl⟩
 have HB0:Hid (Below w.heap.size w W):=hid (by rw[←hW];exact below_new _ _);have HX0:Hid (W.heap[bx]? = some (.cells #[.int .i64 3,.string SA,.bool b0,.int .u64 n,.slice lo l.length lc,.slice mo m.length mc,.string IA,.string UA] 77 (0,0))):=hid (by rw[←hW,←hbx];exact heap_alloc_new w _);have HW:=hid hW;have HBX:=hid hbx;clear hW hbx hSA hIA hUA hal ham hfl hfm hn hsz hm;have x0:W.cell? ⟨bx,0,none⟩=some (.int .i64 3):=row_cell HX0.out (j:=0) rfl;have x1:W.cell? ⟨bx,1,none⟩=some (.string SA):=row_cell HX0.out (j:=1) rfl;have x2:W.cell? ⟨bx,2,none⟩=some (.bool b0):=row_cell HX0.out (j:=2) rfl;have x3:W.cell? ⟨bx,3,none⟩=some (.int .u64 n):=row_cell HX0.out (j:=3) rfl;have x4:W.cell? ⟨bx,4,none⟩=some (.slice lo l.length lc):=row_cell HX0.out (j:=4) rfl;have x5:W.cell? ⟨bx,5,none⟩=some (.slice mo m.length mc):=row_cell HX0.out (j:=5) rfl;have x6:W.cell? ⟨bx,6,none⟩=some (.string IA):=row_cell HX0.out (j:=6) rfl;have x7:W.cell? ⟨bx,7,none⟩=some (.string UA):=row_cell HX0.out (j:=7) rfl;go_enter Tryz.func156,Tryz.ntmps156;go_wp2_with fail;rw[HW.out,HBX.out];go_wp2_with fail;refine (rnum_any 3 n _ (by omega) (by omega) (by have:=HN.out;omega)).mono ?_;rintro e w5 ⟨rfl,hb5⟩;obtain ⟨V,hV⟩:∃ V:ByteArray,(⟨(wrec 3 0 (vput n)).toArray⟩:ByteArray)=V:=⟨_,rfl⟩
 have HV:Hid (V.data.toList=(rN 3 n).raw):=hid (by rw[←hV];exact wrec_raw (num:=3) (ty:=0) (by omega) (by omega) (by omega) (vput n));rw[hV];clear hV;have HB5:=hid (below_step HB0.out hb5);have HX5:=hid ((hb5.block _ (row_lt HX0.out)).trans HX0.out)
 have hvz:V.size≤1000000:=by
  have h1:V.size=((rN 3 n).raw).length:=by rw[←HV.out];simp
  show V.size≤_
  rw[h1]
  show (vput (8 * 3+0)++vput n).length≤_
  rw[List.length_append];have:=vput_le10 (8 * 3+0);have:=vput_le10 n;omega
 have hso:¬9223372036854775807<V.size+UA.size:=by omega
 clear x0 x1 x2 x3 x4 x5 x6 x7 hb5 hvz;have y7:w5.cell? ⟨bx,7,none⟩=some (.string UA):=row_cell HX5.out (j:=7) rfl;go_wp2_with fail;go_ret;refine ⟨HB5.out,_,rfl,hid ?_⟩;rw[ByteArray.data_append,Array.toList_append,HV.out,HUA.out,vout]
 simp[vrec]
theorem rov_4 (s:List UInt8)(b0:Bool)(n:Nat)(l:List Val)(m:List KV)(i u:List UInt8):RoV (.mk 4 s b0 n l m i u):=by
 intro ca P w d hfit ha hsz hm;rw[VRel] at ha;rw[vfit] at hfit;obtain ⟨_,hn,_,_,_,hfl,hfm⟩:=hfit;obtain ⟨lo,lc,mo,mc,rfl,hal,ham⟩:=ha;rw[vw] at hsz;rw[vmay] at hm;have HM:=hid hm;have HAL:=hid hal;have HAM:=hid ham;have HFL:=hid hfl;have HFM:=hid hfm;have HSZ:=hid hsz;have HN:=hid hn;obtain ⟨SA,hSA⟩:∃ Y:ByteArray,(⟨s.toArray⟩:ByteArray)=Y:=⟨_,rfl⟩
 obtain ⟨IA,hIA⟩:∃ Y:ByteArray,(⟨i.toArray⟩:ByteArray)=Y:=⟨_,rfl⟩
 obtain ⟨UA,hUA⟩:∃ Y:ByteArray,(⟨u.toArray⟩:ByteArray)=Y:=⟨_,rfl⟩
 have HSA:Hid (SA.data.toList=s):=hid (by rw[←hSA]);have HIA:Hid (IA.data.toList=i):=hid (by rw[←hIA]);have HUA:Hid (UA.data.toList=u):=hid (by rw[←hUA]);have hus:UA.size≤100000:=by rw[←hUA];simp[ByteArray.size];omega
 have his:IA.size≤100000:=by rw[←hIA];simp[ByteArray.size];omega
 unfold strV;rw[hSA,hIA,hUA];have hll:l.length≤100000:=by have:=vsw_len l;omega
 obtain ⟨W,hW⟩:∃ W,w.alloc (.cells #[.int .i64 4,.string SA,.bool b0,.int .u64 n,.slice lo l.length lc,.slice mo m.length mc,.string IA,.string UA] 77)=W:=⟨_,rfl⟩
 obtain ⟨bx,hbx⟩:∃ bx,w.heap.size=bx:=⟨_,rfl⟩
 have HB0:Hid (Below w.heap.size w W):=hid (by rw[←hW];exact below_new _ _);have HX0:Hid (W.heap[bx]? = some (.cells #[.int .i64 4,.string SA,.bool b0,.int .u64 n,.slice lo l.length lc,.slice mo m.length mc,.string IA,.string UA] 77 (0,0))):=hid (by rw[←hW,←hbx];exact heap_alloc_new w _);have HW:=hid hW;have HBX:=hid hbx;clear hW hbx hSA hIA hUA hal ham hfl hfm hn hsz hm;have x0:W.cell? ⟨bx,0,none⟩=some (.int .i64 4):=row_cell HX0.out (j:=0) rfl;have x1:W.cell? ⟨bx,1,none⟩=some (.string SA):=row_cell HX0.out (j:=1) rfl;have x2:W.cell? ⟨bx,2,none⟩=some (.bool b0):=row_cell HX0.out (j:=2) rfl;have x3:W.cell? ⟨bx,3,none⟩=some (.int .u64 n):=row_cell HX0.out (j:=3) rfl;have x4:W.cell? ⟨bx,4,none⟩=some (.slice lo l.length lc):=row_cell HX0.out (j:=4) rfl;have x5:W.cell? ⟨bx,5,none⟩=some (.slice mo m.length mc):=row_cell HX0.out (j:=5) rfl;have x6:W.cell? ⟨bx,6,none⟩=some (.string IA):=row_cell HX0.out (j:=6) rfl;have x7:W.cell? ⟨bx,7,none⟩=some (.string UA):=row_cell HX0.out (j:=7) rfl;go_enter Tryz.func156,Tryz.ntmps156;go_wp2_with fail;rw[HW.out,HBX.out];go_wp2_with fail;refine (rfixedr_any 4 n _ (by omega) (by omega)).mono ?_;rintro e w5 ⟨rfl,hb5⟩;obtain ⟨V,hV⟩:∃ V:ByteArray,(⟨(wrec 4 1 (eight 8 n)).toArray⟩:ByteArray)=V:=⟨_,rfl⟩
 have HV:Hid (V.data.toList=(rF 4 n).raw):=hid (by rw[←hV];exact wrec_raw (num:=4) (ty:=1) (by omega) (by omega) (by omega) (eight 8 n));rw[hV];clear hV;have HB5:=hid (below_step HB0.out hb5);have HX5:=hid ((hb5.block _ (row_lt HX0.out)).trans HX0.out)
 have hvz:V.size≤1000000:=by
  have h1:V.size=((rF 4 n).raw).length:=by rw[←HV.out];simp
  show V.size≤_
  rw[h1]
  show (vput (8 * 4+1)++eight 8 n).length≤_
  rw[List.length_append];have:=vput_le10 (8 * 4+1);have:=eight_len 8 n;omega
 have hso:¬9223372036854775807<V.size+UA.size:=by omega
 clear x0 x1 x2 x3 x4 x5 x6 x7 hb5 hvz;have y7:w5.cell? ⟨bx,7,none⟩=some (.string UA):=row_cell HX5.out (j:=7) rfl;go_wp2_with fail;go_ret;refine ⟨HB5.out,_,rfl,hid ?_⟩;rw[ByteArray.data_append,Array.toList_append,HV.out,HUA.out,vout]
 simp[vrec]
theorem rov_5 (s:List UInt8)(b0:Bool)(n:Nat)(l:List Val)(m:List KV)(i u:List UInt8)(hv:Hid (∀ x∈l,RoV x)):RoV (.mk 5 s b0 n l m i u):=by
 intro ca P w d hfit ha hsz hm;rw[VRel] at ha;rw[vfit] at hfit;obtain ⟨_,hn,_,_,_,hfl,hfm⟩:=hfit;obtain ⟨lo,lc,mo,mc,rfl,hal,ham⟩:=ha;rw[vw] at hsz;rw[vmay] at hm;have HM:=hid hm;have HAL:=hid hal;have HAM:=hid ham;have HFL:=hid hfl;have HFM:=hid hfm;have HSZ:=hid hsz;have HN:=hid hn;obtain ⟨SA,hSA⟩:∃ Y:ByteArray,(⟨s.toArray⟩:ByteArray)=Y:=⟨_,rfl⟩
 obtain ⟨IA,hIA⟩:∃ Y:ByteArray,(⟨i.toArray⟩:ByteArray)=Y:=⟨_,rfl⟩
 obtain ⟨UA,hUA⟩:∃ Y:ByteArray,(⟨u.toArray⟩:ByteArray)=Y:=⟨_,rfl⟩
 have HSA:Hid (SA.data.toList=s):=hid (by rw[←hSA]);have HIA:Hid (IA.data.toList=i):=hid (by rw[←hIA]);have HUA:Hid (UA.data.toList=u):=hid (by rw[←hUA]);have hus:UA.size≤100000:=by rw[←hUA];simp[ByteArray.size];omega
 have his:IA.size≤100000:=by rw[←hIA];simp[ByteArray.size];omega
 unfold strV;rw[hSA,hIA,hUA];have hll:l.length≤100000:=by have:=vsw_len l;omega
 obtain ⟨W,hW⟩:∃ W,w.alloc (.cells #[.int .i64 5,.string SA,.bool b0,.int .u64 n,.slice lo l.length lc,.slice mo m.length mc,.string IA,.string UA] 77)=W:=⟨_,rfl⟩
 obtain ⟨bx,hbx⟩:∃ bx,w.heap.size=bx:=⟨_,rfl⟩
 have HB0:Hid (Below w.heap.size w W):=hid (by rw[←hW];exact below_new _ _);have HX0:Hid (W.heap[bx]? = some (.cells #[.int .i64 5,.string SA,.bool b0,.int .u64 n,.slice lo l.length lc,.slice mo m.length mc,.string IA,.string UA] 77 (0,0))):=hid (by rw[←hW,←hbx];exact heap_alloc_new w _);have HW:=hid hW;have HBX:=hid hbx;clear hW hbx hSA hIA hUA hal ham hfl hfm hn hsz hm;have x0:W.cell? ⟨bx,0,none⟩=some (.int .i64 5):=row_cell HX0.out (j:=0) rfl;have x1:W.cell? ⟨bx,1,none⟩=some (.string SA):=row_cell HX0.out (j:=1) rfl;have x2:W.cell? ⟨bx,2,none⟩=some (.bool b0):=row_cell HX0.out (j:=2) rfl;have x3:W.cell? ⟨bx,3,none⟩=some (.int .u64 n):=row_cell HX0.out (j:=3) rfl;have x4:W.cell? ⟨bx,4,none⟩=some (.slice lo l.length lc):=row_cell HX0.out (j:=4) rfl;have x5:W.cell? ⟨bx,5,none⟩=some (.slice mo m.length mc):=row_cell HX0.out (j:=5) rfl;have x6:W.cell? ⟨bx,6,none⟩=some (.string IA):=row_cell HX0.out (j:=6) rfl;have x7:W.cell? ⟨bx,7,none⟩=some (.string UA):=row_cell HX0.out (j:=7) rfl;go_enter Tryz.func156,Tryz.ntmps156;go_wp2_with fail;rw[HW.out,HBX.out];go_wp2_with fail;clear x0 x1 x2 x3 x7
 have HMV:Hid (vmays l (d - 1)=true):=hid (by
  have h:=HM.out
  simp at h
  exact h.1.2.2.1.1)
 go_loopg [5,6] l.length (fun k sv i wr=>∃ (j:Nat) (S:ByteArray),i = .int .i64 j∧j+k=l.length∧sv = .string S∧Hid (S.data.toList=vouts 1 (l.take j))∧Below W.heap.size W wr)
 case atStart=>exact ⟨0,⟨#[]⟩,rfl,by omega,rfl,hid (by rw[List.take_zero,vouts]),Below.refl _ _⟩
 case round =>
  obtain ⟨j,S,rfl,hj,rfl,HS,hbr⟩:=hrel;have HBR:=hid hbr;have HBRW:=hid (below_step HB0.out hbr);have HJ:=hid hj;have HXR:=hid ((hbr.block _ (row_lt HX0.out)).trans HX0.out);have u4:wr.cell? ⟨bx,4,none⟩=some (.slice lo l.length lc):=row_cell HXR.out (j:=4) rfl;have u6:wr.cell? ⟨bx,6,none⟩=some (.string IA):=row_cell HXR.out (j:=6) rfl;have hjl:j≤l.length:=by omega
  clear hbr hj x4 x5 x6
  have hsz:S.size≤100000:=by
   have h1:S.size=(vouts 1 (l.take j)).length:=by rw[←HS.out];simp
   have h2:=vouts_le 1 (by omega) (l.take j);have:=vsw_take l j;have:=HSZ.out;omega
  by_cases hlt:j<l.length
  ·obtain ⟨ga,oa,ca,rfl,hga,hca,hra⟩:=vrels_at0 (HAL.out.below HBRW.out) j hlt
   have hmem:=List.getElem_mem hlt;obtain ⟨x,hx⟩:∃ x,l[j]=x:=⟨_,rfl⟩
   have HKX:=hid (hv.out x (hx ▸ hmem));have HFX:=hid (vsfit_at HFL.out x (hx ▸ hmem));have HTK:Hid (vouts 1 (l.take (j+1))=vouts 1 (l.take j)++(rB 1 (vout x)).raw):=hid (by rw[List.take_succ_eq_append_getElem hlt,vouts_app,hx,vouts_one]);have HWX:Hid (vsw (l.take j)+vw x≤100000):=hid (by have:=vsw_at hlt;rw[hx] at this;have:=HSZ.out;omega)
   have HMX:Hid (vmay x (d - 1 - 1)=true):=hid (by
    cases hh:vmay x (d - 1 - 1) with
    | true=>rfl
    | false =>
     have h1:vmays (l.take (j+1)) (d - 1)=false:=by rw[List.take_succ_eq_append_getElem hlt,vmays_app,hx,vmays_one,hh];simp
     have:=vmays_take h1;rw[HMV.out] at this
     cases this)
   rw[hx] at hra;have HRA:=hid hra;obtain ⟨k1,S1,b1,n1,l1,ln1,lc1,m1,mn1,mc1,I1,U1,rfl⟩:=hra.form;have HCA:=hid hca;clear hx hmem hra hca;obtain ⟨ev0,ev1,ev2,ev3,ev4,ev5,ev6,ev7⟩:=cells8 HCA.out;go_wp2_with fail;refine (HKX.out _ P wr (d - 1 - 1) HFX.out HRA.out (by have:=HWX.out;omega) HMX.out).mono ?_;intro e w5 hpost;obtain ⟨hb5,R,rfl,HR⟩:=hpost;have HB5:=hid (below_step HBR.out hb5);clear hb5 ev0 ev1 ev2 ev3 ev4 ev5 ev6 ev7 u4 u6;go_wp2_with fail;refine (rbytes_raw 1 R (vout x) w5 (by omega) (by omega) HR.out (by have:=vout_le x;have:=vw_vb x;have:=HWX.out;omega)).mono ?_;intro e w6 hpost;obtain ⟨hb6,V,rfl,HV⟩:=hpost;have HB6:=hid (below_step HB5.out hb6)
   have hvz:V.size≤200000:=by
    have h1:V.size=((rB 1 (vout x)).raw).length:=by rw[←HV.out];simp
    have h2:(rB 1 (vout x)).raw.length≤20+(vout x).length:=by
     show (vput (8 * 1+2)++(vput (vout x).length++vout x)).length≤_
     rw[List.length_append,List.length_append];have:=vput_le10 (8 * 1+2);have:=vput_le10 (vout x).length;omega
    have:=vout_le x;have:=vw_vb x;have:=HWX.out;omega
   have hso:¬9223372036854775807<S.size+V.size:=by omega
   have HSV:Hid ((S++V).data.toList=vouts 1 (l.take (j+1))):=hid (by rw[HTK.out,←HS.out,←HV.out];simp);clear hb6 hvz;go_wp2_with fail;have hj:=HJ.out
   go_roundg (gk - 1)
   case measure=>omega
   case rel=>exact ⟨j+1,S++V,by simp,by omega,rfl,HSV,HB6.out⟩
  ·have hjn:j=l.length:=by have:=HJ.out;omega
   have HRE:Hid (S.data.toList=vouts 1 l):=hid (by have h:=HS.out;rwa [hjn,List.take_length] at h);have hso1:¬9223372036854775807<S.size+IA.size:=by omega
   have HQI:Hid ((S++IA).data.toList=vouts 1 l++i):=hid (by rw[ByteArray.data_append,Array.toList_append,HRE.out,HIA.out]);clear hjn;go_wp2_with fail
   refine (rbytes_raw 5 (S++IA) (vouts 1 l++i) wr (by omega) (by omega) HQI.out (by
    have:=vouts_le 1 (by omega) l;have:=HSZ.out;rw[List.length_append];omega)).mono ?_;rintro e w5 ⟨hb5,V,rfl,HV⟩
   have HX5:=hid ((hb5.block _ (row_lt HXR.out)).trans HXR.out);have HB5:=hid (below_step HBRW.out hb5)
   have hvz:V.size≤1000000:=by
    have h1:V.size=((rB 5 (vouts 1 l++i)).raw).length:=by rw[←HV.out];simp
    have:=vouts_le 1 (by omega) l;rw[h1]
    show (vput (8 * 5+2)++(vput (vouts 1 l++i).length++(vouts 1 l++i))).length≤_
    rw[List.length_append,List.length_append,show (vouts 1 l++i).length=(vouts 1 l).length+i.length from List.length_append];have:=vput_le10 (8 * 5+2);have:=vput_le10 ((vouts 1 l).length+i.length);have:=HSZ.out;omega
   have hso:¬9223372036854775807<V.size+UA.size:=by omega
   clear hb5 hvz u4 u6;have y7:w5.cell? ⟨bx,7,none⟩=some (.string UA):=row_cell HX5.out (j:=7) rfl;go_wp2_with fail;go_ret;refine ⟨HB5.out,_,rfl,hid ?_⟩;rw[ByteArray.data_append,Array.toList_append,HV.out,HUA.out,vout]
   simp[vrec]
theorem rov_6 (s:List UInt8)(b0:Bool)(n:Nat)(l:List Val)(m:List KV)(i u:List UInt8)(hk:Hid (RoKs m)):RoV (.mk 6 s b0 n l m i u):=by
 intro ca P w d hfit ha hsz hm;rw[VRel] at ha;rw[vfit] at hfit;obtain ⟨_,hn,_,_,_,hfl,hfm⟩:=hfit;obtain ⟨lo,lc,mo,mc,rfl,hal,ham⟩:=ha;rw[vw] at hsz;rw[vmay] at hm;have HM:=hid hm;have HAL:=hid hal;have HAM:=hid ham;have HFL:=hid hfl;have HFM:=hid hfm;have HSZ:=hid hsz;have HN:=hid hn;obtain ⟨SA,hSA⟩:∃ Y:ByteArray,(⟨s.toArray⟩:ByteArray)=Y:=⟨_,rfl⟩
 obtain ⟨IA,hIA⟩:∃ Y:ByteArray,(⟨i.toArray⟩:ByteArray)=Y:=⟨_,rfl⟩
 obtain ⟨UA,hUA⟩:∃ Y:ByteArray,(⟨u.toArray⟩:ByteArray)=Y:=⟨_,rfl⟩
 have HSA:Hid (SA.data.toList=s):=hid (by rw[←hSA]);have HIA:Hid (IA.data.toList=i):=hid (by rw[←hIA]);have HUA:Hid (UA.data.toList=u):=hid (by rw[←hUA]);have hus:UA.size≤100000:=by rw[←hUA];simp[ByteArray.size];omega
 have his:IA.size≤100000:=by rw[←hIA];simp[ByteArray.size];omega
 unfold strV;rw[hSA,hIA,hUA];have hll:l.length≤100000:=by have:=vsw_len l;omega
 obtain ⟨W,hW⟩:∃ W,w.alloc (.cells #[.int .i64 6,.string SA,.bool b0,.int .u64 n,.slice lo l.length lc,.slice mo m.length mc,.string IA,.string UA] 77)=W:=⟨_,rfl⟩
 obtain ⟨bx,hbx⟩:∃ bx,w.heap.size=bx:=⟨_,rfl⟩
 have HB0:Hid (Below w.heap.size w W):=hid (by rw[←hW];exact below_new _ _);have HX0:Hid (W.heap[bx]? = some (.cells #[.int .i64 6,.string SA,.bool b0,.int .u64 n,.slice lo l.length lc,.slice mo m.length mc,.string IA,.string UA] 77 (0,0))):=hid (by rw[←hW,←hbx];exact heap_alloc_new w _);have HW:=hid hW;have HBX:=hid hbx;clear hW hbx hSA hIA hUA hal ham hfl hfm hn hsz hm;have x0:W.cell? ⟨bx,0,none⟩=some (.int .i64 6):=row_cell HX0.out (j:=0) rfl;have x1:W.cell? ⟨bx,1,none⟩=some (.string SA):=row_cell HX0.out (j:=1) rfl;have x2:W.cell? ⟨bx,2,none⟩=some (.bool b0):=row_cell HX0.out (j:=2) rfl;have x3:W.cell? ⟨bx,3,none⟩=some (.int .u64 n):=row_cell HX0.out (j:=3) rfl;have x4:W.cell? ⟨bx,4,none⟩=some (.slice lo l.length lc):=row_cell HX0.out (j:=4) rfl;have x5:W.cell? ⟨bx,5,none⟩=some (.slice mo m.length mc):=row_cell HX0.out (j:=5) rfl;have x6:W.cell? ⟨bx,6,none⟩=some (.string IA):=row_cell HX0.out (j:=6) rfl;have x7:W.cell? ⟨bx,7,none⟩=some (.string UA):=row_cell HX0.out (j:=7) rfl;go_enter Tryz.func156,Tryz.ntmps156;go_wp2_with fail;rw[HW.out,HBX.out];go_wp2_with fail;obtain ⟨D,hD⟩:∃ D,W.drew=D:=⟨_,rfl⟩
 have HBD:Hid (Below W.heap.size W D):=hid (by rw[←hD];exact (Below.refl _ _).drew)
 have HMK:Hid (kmays m (d - 1)=true):=hid (by
  have h:=HM.out
  simp at h
  exact h.1.2.2.1.2)
 have hS:=(HBD.out.block _ (row_lt HX0.out)).trans HX0.out;have hne:Nonempty {w':World // w'.heap[bx]? = some (.cells #[.int .i64 6,.string SA,.bool b0,.int .u64 n,.slice lo l.length lc,.slice mo m.length mc,.string IA,.string UA] 77 (0,0))}:=⟨⟨_,hS⟩⟩
 have e5:∀ t:{w':World // w'.heap[bx]? = some (.cells #[.int .i64 6,.string SA,.bool b0,.int .u64 n,.slice lo l.length lc,.slice mo m.length mc,.string IA,.string UA] 77 (0,0))},t.1.cell? ⟨bx,5,none⟩=some (.slice mo m.length mc):=fun t=>row_cell t.2 (j:=5) rfl
 have e6:∀ t:{w':World // w'.heap[bx]? = some (.cells #[.int .i64 6,.string SA,.bool b0,.int .u64 n,.slice lo l.length lc,.slice mo m.length mc,.string IA,.string UA] 77 (0,0))},t.1.cell? ⟨bx,6,none⟩=some (.string IA):=fun t=>row_cell t.2 (j:=6) rfl
 refine wp_region_seq (S:=fun w'=>w'.heap[bx]? = some (.cells #[.int .i64 6,.string SA,.bool b0,.int .u64 n,.slice lo l.length lc,.slice mo m.length mc,.string IA,.string UA] 77 (0,0))) [(0,true),(1,true),(3,true),(4,true),(2,false),(5,true),(6,false),(7,true)] (by kernel_rfl) (by kernel_rfl) (by kernel_rfl) (by kernel_rfl) (by rw[hD];exact hS) ?_;rw[hD];clear hD
 iterate 4 (refine seq_take _ rfl (fun K2 hK=>?_);go_simp;(first|refine hK _ ?_|refine ⟨_,fun _ _=>rfl,hK _ ?_⟩);clear hK K2)
 refine seq_come _ rfl (fun K2 hK=>?_);go_simp;refine (rpack_any m hk mo mc P D (d - 1) HFM.out (HAM.out.below (below_step HB0.out HBD.out)) (by have:=HSZ.out;omega) HMK.out).mono ?_;rintro e w4 ⟨hb4,Q,rfl,HQ⟩;have hS4:=(hb4.block _ (row_lt hS)).trans hS;have HB4:=hid (below_step HBD.out hb4)
 have hqs:Q.size≤100000:=by
  have h1:Q.size=(kouts 1 m).length:=by rw[←HQ.out];simp
  have:=kouts_le 1 (by omega) m;have:=HSZ.out;omega
 have hso1:¬9223372036854775807<Q.size+IA.size:=by omega
 go_simp;refine hK.out _ _ hS4 ?_;clear hK K2
 iterate 1 (refine seq_take _ rfl (fun K2 hK=>?_);go_simp;(first|refine hK _ ?_|refine ⟨_,fun _ _=>rfl,hK _ ?_⟩);clear hK K2)
 have HQI:Hid ((Q++IA).data.toList=kouts 1 m++i):=hid (by rw[ByteArray.data_append,Array.toList_append,HQ.out,HIA.out]);refine seq_come _ rfl (fun K2 hK=>?_);go_simp
 refine (rbytes_raw 6 (Q++IA) (kouts 1 m++i) w4 (by omega) (by omega) HQI.out (by
  have:=kouts_le 1 (by omega) m;have:=HSZ.out;rw[List.length_append];omega)).mono ?_;rintro e w5 ⟨hb5,V,rfl,HV⟩
 have hS5:=(hb5.block _ (row_lt hS4)).trans hS4;have HX5:=hid hS5;have HB5:=hid (below_step HB0.out (below_step HB4.out hb5));go_simp;refine hK.out _ _ hS5 ?_;clear hK K2
 iterate 1 (refine seq_take _ rfl (fun K2 hK=>?_);go_simp;(first|refine hK _ ?_|refine ⟨_,fun _ _=>rfl,hK _ ?_⟩);clear hK K2)
 refine seq_done ?_
 have hvz:V.size≤1000000:=by
  have h1:V.size=((rB 6 (kouts 1 m++i)).raw).length:=by rw[←HV.out];simp
  have:=kouts_le 1 (by omega) m;rw[h1]
  show (vput (8 * 6+2)++(vput (kouts 1 m++i).length++(kouts 1 m++i))).length≤_
  rw[List.length_append,List.length_append,show (kouts 1 m++i).length=(kouts 1 m).length+i.length from List.length_append];have:=vput_le10 (8 * 6+2);have:=vput_le10 ((kouts 1 m).length+i.length);have:=HSZ.out;omega
 have hso:¬9223372036854775807<V.size+UA.size:=by omega
 clear x0 x1 x2 x3 x4 x5 x6 x7 hb5 hb4 hvz e5 e6 hne hS hS4 hS5 hqs hso1;have y7:w5.cell? ⟨bx,7,none⟩=some (.string UA):=row_cell HX5.out (j:=7) rfl;go_wp2_with fail;go_ret;refine ⟨HB5.out,_,rfl,hid ?_⟩;rw[ByteArray.data_append,Array.toList_append,HV.out,HUA.out,vout]
 simp[vrec]
theorem rok_false (key:List UInt8)(v:Val)(u:List UInt8):RoK (.mk key false v u):=by
 intro ca P w d hfit ha hsz hm;rw[KRel] at ha;obtain ⟨cv,hrv,rfl⟩:=ha;rw[kfit] at hfit;rw[kw] at hsz;rw[kmay] at hm;have HM:=hid hm;have HRV:=hid hrv;have HFV:=hid hfit.2.2;have HSZ:=hid hsz;obtain ⟨k1,S1,b1,n1,l1,ln1,lc1,m1,mn1,mc1,I1,U1,rfl⟩:=hrv.form;obtain ⟨KA,hKA⟩:∃ SA:ByteArray,(⟨key.toArray⟩:ByteArray)=SA:=⟨_,rfl⟩
 obtain ⟨YA,hYA⟩:∃ YA:ByteArray,(⟨u.toArray⟩:ByteArray)=YA:=⟨_,rfl⟩
 have HKA:Hid (KA.data.toList=key):=hid (by rw[←hKA]);have HYA:Hid (YA.data.toList=u):=hid (by rw[←hYA]);have hys:YA.size≤100000:=by rw[←hYA];simp[ByteArray.size];omega
 show Calls _ _ #[.agg #[.string ⟨key.toArray⟩,.bool false,.int .i64 k1,.string S1,.bool b1,.int .u64 n1,.slice l1 ln1 lc1,.slice m1 mn1 mc1,.string I1,.string U1,.string ⟨u.toArray⟩]] w _
 rw[hKA,hYA];obtain ⟨W,hW⟩:∃ W,w.alloc (.cells #[.string KA,.bool false,.int .i64 k1,.string S1,.bool b1,.int .u64 n1,.slice l1 ln1 lc1,.slice m1 mn1 mc1,.string I1,.string U1,.string YA] 79)=W:=⟨_,rfl⟩
 obtain ⟨bx,hbx⟩:∃ bx,w.heap.size=bx:=⟨_,rfl⟩
 have HB0:Hid (Below w.heap.size w W):=hid (by rw[←hW];exact below_new _ _);have HX0:Hid (W.heap[bx]? = some (.cells #[.string KA,.bool false,.int .i64 k1,.string S1,.bool b1,.int .u64 n1,.slice l1 ln1 lc1,.slice m1 mn1 mc1,.string I1,.string U1,.string YA] 79 (0,0))):=hid (by rw[←hW,←hbx];exact heap_alloc_new w _);have HW:=hid hW;have HBX:=hid hbx;clear hW hbx hKA hYA hfit hrv hsz hm;have x0:W.cell? ⟨bx,0,none⟩=some (.string KA):=row_cell HX0.out (j:=0) rfl;go_enter Tryz.func116,Tryz.ntmps116;go_wp2_with fail;rw[HW.out,HBX.out];go_wp2_with fail;refine (puttext8_any 1 KA key W (by omega) HKA (by have:=HSZ.out;omega)).mono ?_;rintro e w5 ⟨rfl,hb5⟩;obtain ⟨T,hT⟩:∃ T:ByteArray,(⟨(wbytesP 1 key).flatten.toArray⟩:ByteArray)=T:=⟨_,rfl⟩
 have HT:Hid (T.data.toList=krec key):=hid (by rw[←hT,←krec_parts]);rw[hT]
 have hts:T.size≤200000:=by
  have h1:T.size=(krec key).length:=by rw[←HT.out];simp
  have h2:=(krec_len key).2;rw[krec_parts] at h2;have:=HSZ.out;omega
 have HB5:=hid (below_step HB0.out hb5);have HX5:=hid ((hb5.block _ (row_lt HX0.out)).trans HX0.out);clear hb5 hT x0;have y0:w5.cell? ⟨bx,0,none⟩=some (.string KA):=row_cell HX5.out (j:=0) rfl;have y1:w5.cell? ⟨bx,1,none⟩=some (.bool false):=row_cell HX5.out (j:=1) rfl;have y2:w5.cell? ⟨bx,2,none⟩=some (.int .i64 k1):=row_cell HX5.out (j:=2) rfl;have y3:w5.cell? ⟨bx,3,none⟩=some (.string S1):=row_cell HX5.out (j:=3) rfl;have y4:w5.cell? ⟨bx,4,none⟩=some (.bool b1):=row_cell HX5.out (j:=4) rfl;have y5:w5.cell? ⟨bx,5,none⟩=some (.int .u64 n1):=row_cell HX5.out (j:=5) rfl;have y6:w5.cell? ⟨bx,6,none⟩=some (.slice l1 ln1 lc1):=row_cell HX5.out (j:=6) rfl;have y7:w5.cell? ⟨bx,7,none⟩=some (.slice m1 mn1 mc1):=row_cell HX5.out (j:=7) rfl;have y8:w5.cell? ⟨bx,8,none⟩=some (.string I1):=row_cell HX5.out (j:=8) rfl;have y9:w5.cell? ⟨bx,9,none⟩=some (.string U1):=row_cell HX5.out (j:=9) rfl;have y10:w5.cell? ⟨bx,10,none⟩=some (.string YA):=row_cell HX5.out (j:=10) rfl;have hso:¬9223372036854775807<T.size+YA.size:=by omega
 go_wp2_with fail;go_ret;refine ⟨HB5.out,_,rfl,hid ?_⟩;rw[ByteArray.data_append,Array.toList_append,HT.out,HYA.out,kout]
 simp
theorem rok_true (key:List UInt8)(v:Val)(u:List UInt8)(hv:Hid (RoV v)):RoK (.mk key true v u):=by
 intro ca P w d hfit ha hsz hm;rw[KRel] at ha;obtain ⟨cv,hrv,rfl⟩:=ha;rw[kfit] at hfit;rw[kw] at hsz;rw[kmay] at hm;have HM:=hid hm;have HRV:=hid hrv;have HFV:=hid hfit.2.2;have HSZ:=hid hsz;obtain ⟨k1,S1,b1,n1,l1,ln1,lc1,m1,mn1,mc1,I1,U1,rfl⟩:=hrv.form;obtain ⟨KA,hKA⟩:∃ SA:ByteArray,(⟨key.toArray⟩:ByteArray)=SA:=⟨_,rfl⟩
 obtain ⟨YA,hYA⟩:∃ YA:ByteArray,(⟨u.toArray⟩:ByteArray)=YA:=⟨_,rfl⟩
 have HKA:Hid (KA.data.toList=key):=hid (by rw[←hKA]);have HYA:Hid (YA.data.toList=u):=hid (by rw[←hYA]);have hys:YA.size≤100000:=by rw[←hYA];simp[ByteArray.size];omega
 show Calls _ _ #[.agg #[.string ⟨key.toArray⟩,.bool true,.int .i64 k1,.string S1,.bool b1,.int .u64 n1,.slice l1 ln1 lc1,.slice m1 mn1 mc1,.string I1,.string U1,.string ⟨u.toArray⟩]] w _
 rw[hKA,hYA];obtain ⟨W,hW⟩:∃ W,w.alloc (.cells #[.string KA,.bool true,.int .i64 k1,.string S1,.bool b1,.int .u64 n1,.slice l1 ln1 lc1,.slice m1 mn1 mc1,.string I1,.string U1,.string YA] 79)=W:=⟨_,rfl⟩
 obtain ⟨bx,hbx⟩:∃ bx,w.heap.size=bx:=⟨_,rfl⟩
 have HB0:Hid (Below w.heap.size w W):=hid (by rw[←hW];exact below_new _ _);have HX0:Hid (W.heap[bx]? = some (.cells #[.string KA,.bool true,.int .i64 k1,.string S1,.bool b1,.int .u64 n1,.slice l1 ln1 lc1,.slice m1 mn1 mc1,.string I1,.string U1,.string YA] 79 (0,0))):=hid (by rw[←hW,←hbx];exact heap_alloc_new w _);have HW:=hid hW;have HBX:=hid hbx;clear hW hbx hKA hYA hfit hrv hsz hm;have x0:W.cell? ⟨bx,0,none⟩=some (.string KA):=row_cell HX0.out (j:=0) rfl;go_enter Tryz.func116,Tryz.ntmps116;go_wp2_with fail;rw[HW.out,HBX.out];go_wp2_with fail;refine (puttext8_any 1 KA key W (by omega) HKA (by have:=HSZ.out;omega)).mono ?_;rintro e w5 ⟨rfl,hb5⟩;obtain ⟨T,hT⟩:∃ T:ByteArray,(⟨(wbytesP 1 key).flatten.toArray⟩:ByteArray)=T:=⟨_,rfl⟩
 have HT:Hid (T.data.toList=krec key):=hid (by rw[←hT,←krec_parts]);rw[hT]
 have hts:T.size≤200000:=by
  have h1:T.size=(krec key).length:=by rw[←HT.out];simp
  have h2:=(krec_len key).2;rw[krec_parts] at h2;have:=HSZ.out;omega
 have HB5:=hid (below_step HB0.out hb5);have HX5:=hid ((hb5.block _ (row_lt HX0.out)).trans HX0.out);clear hb5 hT x0;have y0:w5.cell? ⟨bx,0,none⟩=some (.string KA):=row_cell HX5.out (j:=0) rfl;have y1:w5.cell? ⟨bx,1,none⟩=some (.bool true):=row_cell HX5.out (j:=1) rfl;have y2:w5.cell? ⟨bx,2,none⟩=some (.int .i64 k1):=row_cell HX5.out (j:=2) rfl;have y3:w5.cell? ⟨bx,3,none⟩=some (.string S1):=row_cell HX5.out (j:=3) rfl;have y4:w5.cell? ⟨bx,4,none⟩=some (.bool b1):=row_cell HX5.out (j:=4) rfl;have y5:w5.cell? ⟨bx,5,none⟩=some (.int .u64 n1):=row_cell HX5.out (j:=5) rfl;have y6:w5.cell? ⟨bx,6,none⟩=some (.slice l1 ln1 lc1):=row_cell HX5.out (j:=6) rfl;have y7:w5.cell? ⟨bx,7,none⟩=some (.slice m1 mn1 mc1):=row_cell HX5.out (j:=7) rfl;have y8:w5.cell? ⟨bx,8,none⟩=some (.string I1):=row_cell HX5.out (j:=8) rfl;have y9:w5.cell? ⟨bx,9,none⟩=some (.string U1):=row_cell HX5.out (j:=9) rfl;have y10:w5.cell? ⟨bx,10,none⟩=some (.string YA):=row_cell HX5.out (j:=10) rfl
 have HMV:Hid (vmay v (d - 1)=true):=hid (by
  have h:=HM.out
  simp at h
  exact h.1.2.2)
 go_wp2_with fail;refine (hv.out _ P w5 (d - 1) HFV.out (HRV.out.below HB5.out) (by have:=HSZ.out;omega) HMV.out).mono ?_;rintro e w6 ⟨hb6,R,rfl,HR⟩;have HB6:=hid (below_step HB5.out hb6);have HX6:=hid ((hb6.block _ (row_lt HX5.out)).trans HX5.out);clear hb6 y0 y1 y2 y3 y4 y5 y6 y7 y8 y9 y10;go_wp2_with fail;refine (rbytes_raw 2 R (vout v) w6 (by omega) (by omega) HR.out (by have:=vout_le v;have:=vw_vb v;have:=HSZ.out;omega)).mono ?_;rintro e w7 ⟨hb7,V,rfl,HV⟩;have HB7:=hid (below_step HB6.out hb7);have HX7:=hid ((hb7.block _ (row_lt HX6.out)).trans HX6.out)
 have hvz:V.size≤200000:=by
  have h1:V.size=((rB 2 (vout v)).raw).length:=by rw[←HV.out];simp
  rw[h1]
  show (vput (8 * 2+2)++(vput (vout v).length++vout v)).length≤_
  rw[List.length_append,List.length_append];have:=vput_le10 (8 * 2+2);have:=vput_le10 (vout v).length;have:=vout_le v;have:=vw_vb v;have:=HSZ.out;omega
 have hso:¬9223372036854775807<T.size+V.size:=by omega
 have hso2:¬9223372036854775807<(T++V).size+YA.size:=by rw[ByteArray.size_append];omega
 obtain ⟨TV,hTV⟩:∃ TV,T++V=TV:=⟨_,rfl⟩
 have HTV:Hid (TV.data.toList=krec key++(rB 2 (vout v)).raw):=hid (by rw[←hTV,ByteArray.data_append,Array.toList_append,HT.out,HV.out]);rw[hTV] at hso2;have HTVE:=hid hTV;clear hb7 hTV;have z10:w7.cell? ⟨bx,10,none⟩=some (.string YA):=row_cell HX7.out (j:=10) rfl;go_upto_region 4 with fail
 rw[HTVE.out];go_wp2_with fail;go_ret;refine ⟨HB7.out,_,rfl,hid ?_⟩;rw[ByteArray.data_append,Array.toList_append,HTV.out,HYA.out,kout]
 simp
theorem rov_step (k:Int)(s:List UInt8)(b0:Bool)(n:Nat)(l:List Val)(m:List KV)(i u:List UInt8)(hv:Hid (∀ x∈l,RoV x))(hk:Hid (RoKs m)):RoV (.mk k s b0 n l m i u):=by
 intro ca P w d hfit ha hsz hm
 have h0:0≤k∧k≤7:=by
  have h:=hm;rw[vmay] at h
  simp only[Bool.and_eq_true] at h
  have h:=h.1.1.1;unfold vpl at h
  simp only[Bool.and_eq_true,decide_eq_true_eq] at h
  exact h.1.1.1.1.1.1
 rcases (by omega:k=0∨k=1∨k=2∨k=3∨k=4∨k=5∨k=6∨k=7) with rfl|rfl|rfl|rfl|rfl|rfl|rfl|rfl
 ·exact rov_0 s b0 n l m i u ca P w d hfit ha hsz hm
 ·exact rov_1 s b0 n l m i u ca P w d hfit ha hsz hm
 ·cases b0
  ·exact rov_2F s n l m i u ca P w d hfit ha hsz hm
  ·exact rov_2T s n l m i u ca P w d hfit ha hsz hm
 ·exact rov_3 s b0 n l m i u ca P w d hfit ha hsz hm
 ·exact rov_4 s b0 n l m i u ca P w d hfit ha hsz hm
 ·exact rov_5 s b0 n l m i u hv ca P w d hfit ha hsz hm
 ·exact rov_6 s b0 n l m i u hk ca P w d hfit ha hsz hm
 ·exact rov_7 s b0 n l m i u ca P w d hfit ha hsz hm
theorem ro_all:∀ n:Nat,(∀ x:Val,SizeOf.sizeOf x<n→RoV x)∧(∀ x:KV,SizeOf.sizeOf x<n→RoK x)∧(∀ l:List KV,SizeOf.sizeOf l<n→RoKs l)
 | 0=>⟨fun _ h=>by omega,fun _ h=>by omega,fun _ h=>by omega⟩
 | n+1=>by
  obtain ⟨i1,i2,i3⟩:=ro_all n;refine ⟨fun x h=>?_,fun x h=>?_,fun l h=>?_⟩
  ·cases x with|mk k s b n0 l m i u =>
   simp only[Val.mk.sizeOf_spec] at h
   exact rov_step k s b n0 l m i u (hid fun x hx=>i1 x (by have:=List.sizeOf_lt_of_mem hx;omega)) (hid (i3 m (by omega)))
  ·cases x with|mk key has v u =>
   simp only[KV.mk.sizeOf_spec] at h
   cases has with
   | false=>exact rok_false key v u
   | true=>exact rok_true key v u (hid (i1 v (by omega)))
  ·exact rkeys_step l (hid fun x hx=>i2 x (by have:=List.sizeOf_lt_of_mem hx;omega))
theorem roks_any (l:List KV):RoKs l:=(ro_all (SizeOf.sizeOf l+1)).2.2 l (by omega)
end Go.Proofs.YtficgfemmijaaaaGreatDoor
