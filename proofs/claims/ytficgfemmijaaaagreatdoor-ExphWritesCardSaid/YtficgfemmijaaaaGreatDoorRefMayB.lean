/-
 hygref8.MayValue, MayKey: kinds 4 to 7, attributes, all of it.
-/
import Derived.Test.YtficgfemmijaaaaGreatDoorRefMay
set_option maxRecDepth 1000000
set_option maxHeartbeats 16000000
namespace Go.Proofs.YtficgfemmijaaaaGreatDoor
open Go.RowKit
open Lib (hid)
theorem myv_2 (s:List UInt8)(b0:Bool)(n:Nat)(l:List Val)(m:List KV)(i u:List UInt8)(hk:Hid (MyKs m))(ca:List Value)(P:Nat→Prop)(w:World)(d:Int)(hfit:vfit (.mk 2 s b0 n l m i u))(ha:VRel w P (.mk 2 s b0 n l m i u) ca)(hd:-9223372036854775808≤d∧d≤9223372036854775807)(hsz:vw (.mk 2 s b0 n l m i u)≤100000)(h0:0≤d)(hu:munkOk vtk u d=true) :
  Calls Tryz.prog 145 #[.agg ca.toArray,.int .i64 d] w (MyPost (vmayD (.mk 2 s b0 n l m i u) d) w):=by
 have HUKU:Hid ((decide (0≤d)&&munkOk (rtk [10,16,24,33,42,50,58]) u d)=true):=hid (by rw[decide_eq_true h0,←munkOk_rtk vtk_rtk,hu];rfl);have d1:decide (d<0)=false:=decide_eq_false (by omega);obtain ⟨R,hR⟩:∃ R,vmayD (.mk 2 s b0 n l m i u) d=R:=⟨_,rfl⟩
 have HR0:=hid hR;rw[vmayD,vmay,hu,decide_eq_true h0] at hR;have HR:=hid hR;rw[HR0.out];have H0:=hid h0;clear h0 hu hR;rw[VRel] at ha;rw[vfit] at hfit;obtain ⟨hkr,hn,_,_,_,hfl,hfm⟩:=hfit;obtain ⟨lo,lc,mo,mc,rfl,hal,ham⟩:=ha;rw[vw] at hsz;have HAL:=hid hal;have HAM:=hid ham;have HFL:=hid hfl;have HFM:=hid hfm;have HD:=hid hd;have HSZ:=hid hsz;obtain ⟨SA,hSA⟩:∃ Y:ByteArray,(⟨s.toArray⟩:ByteArray)=Y:=⟨_,rfl⟩
 obtain ⟨IA,hIA⟩:∃ Y:ByteArray,(⟨i.toArray⟩:ByteArray)=Y:=⟨_,rfl⟩
 obtain ⟨UA,hUA⟩:∃ Y:ByteArray,(⟨u.toArray⟩:ByteArray)=Y:=⟨_,rfl⟩
 have HSA:Hid (SA.data.toList=s):=hid (by rw[←hSA]);have HIA:Hid (IA.data.toList=i):=hid (by rw[←hIA]);have HUA:Hid (UA.data.toList=u):=hid (by rw[←hUA]);have HSS:Hid (SA.size≤100000):=hid (by rw[←hSA];simp[ByteArray.size];omega);have HIS:Hid (IA.size≤100000):=hid (by rw[←hIA];simp[ByteArray.size];omega);have HUS:Hid (UA.size≤100000):=hid (by rw[←hUA];simp[ByteArray.size];omega);unfold strV;rw[hSA,hIA,hUA];have hll:l.length≤100000:=by have:=vsw_len l;omega
 have hlm:m.length≤100000:=by have:=ksw_len m;omega
 obtain ⟨W,hW⟩:∃ W,w.alloc (.cells [.int .i64 2,.string SA,.bool b0,.int .u64 n,.slice lo l.length lc,.slice mo m.length mc,.string IA,.string UA].toArray 77)=W:=⟨_,rfl⟩
 obtain ⟨bx,hbx⟩:∃ bx,w.heap.size=bx:=⟨_,rfl⟩
 have HB0:Hid (Below w.heap.size w W):=hid (by rw[←hW];exact below_new _ _);have HX0:Hid (Row8 W bx [.int .i64 2,.string SA,.bool b0,.int .u64 n,.slice lo l.length lc,.slice mo m.length mc,.string IA,.string UA]):=hid (by rw[←hW,←hbx];exact heap_alloc_new w _);have HW:=hid hW;have HBX:=hid hbx;clear hW hbx hSA hIA hUA hal ham hfl hfm hn hkr hd hsz;have HUK:Hid ((decide (0≤d)&&munkOk (rtk [10,16,24,33,42,50,58]) UA.data.toList d)=true):=hid (by rw[HUA.out];exact HUKU.out);go_enter Tryz.func145,Tryz.ntmps145;go_wp2_with fail;rw[show w.alloc (.cells #[.int .i64 2,.string SA,.bool b0,.int .u64 n,.slice lo l.length lc,.slice mo m.length mc,.string IA,.string UA] 77)=W from HW.out,HBX.out];obtain ⟨D,hD⟩:∃ D,W.drew=D:=⟨_,rfl⟩
 have HBD:Hid (Below W.heap.size W D):=hid (by rw[←hD];exact (Below.refl _ _).drew);have hS:Row8 D bx [.int .i64 2,.string SA,.bool b0,.int .u64 n,.slice lo l.length lc,.slice mo m.length mc,.string IA,.string UA]:=(HBD.out.block _ (row_lt HX0.out)).trans HX0.out;have hne:Nonempty {w':World // Row8 w' bx [.int .i64 2,.string SA,.bool b0,.int .u64 n,.slice lo l.length lc,.slice mo m.length mc,.string IA,.string UA]}:=⟨⟨_,hS⟩⟩
 have e0:∀ t:{w':World // Row8 w' bx [.int .i64 2,.string SA,.bool b0,.int .u64 n,.slice lo l.length lc,.slice mo m.length mc,.string IA,.string UA]},t.1.cell? ⟨bx,0,none⟩=some (.int .i64 2):=fun t=>row_cell t.2 (j:=0) rfl
 have e7:∀ t:{w':World // Row8 w' bx [.int .i64 2,.string SA,.bool b0,.int .u64 n,.slice lo l.length lc,.slice mo m.length mc,.string IA,.string UA]},t.1.cell? ⟨bx,7,none⟩=some (.string UA):=fun t=>row_cell t.2 (j:=7) rfl
 refine wp_region_seq (S:=fun w'=>Row8 w' bx [.int .i64 2,.string SA,.bool b0,.int .u64 n,.slice lo l.length lc,.slice mo m.length mc,.string IA,.string UA]) [(0,true),(1,true),(2,true),(3,true),(4,true),(5,true),(6,true),(7,true),(8,true),(9,true),(10,true),(11,true),(12,true),(13,true),(14,true),(15,true),(16,false),(17,false),(18,true),(19,true)] (by kernel_rfl) (by kernel_rfl) (by kernel_rfl) (by kernel_rfl) (by rw[hD];exact hS) ?_;rw[hD];clear hD
 iterate 16 (refine seq_take _ rfl (fun K2 hK=>?_);go_simp;(first|refine hK _ ?_|refine ⟨_,fun _ _=>rfl,hK _ ?_⟩|(refine ⟨undef,by rw[if_neg (by simp[undef])],?_⟩;refine hK _ ?_));clear hK K2)
 refine seq_come _ rfl (fun K2 hK=>?_);go_simp;refine (tabV_any D).mono ?_;rintro e w4 ⟨to,rfl,HNT,hb4⟩;have hS4:Row8 w4 bx [.int .i64 2,.string SA,.bool b0,.int .u64 n,.slice lo l.length lc,.slice mo m.length mc,.string IA,.string UA]:=(hb4.block _ (row_lt hS)).trans hS;have HB4:=hid hb4;go_simp;refine hK.out _ _ hS4 ?_;clear hK K2 hb4;refine seq_come _ rfl (fun K2 hK=>?_);go_simp;refine (unknown8_any UA (d) [10,16,24,33,42,50,58] to 7 w4 HNT (by decide) (hid (by decide)) (by have:=HUS.out;omega) (by have:=HD.out;omega)).mono ?_;rintro e w5 ⟨rfl,hb5⟩;rw[HUK.out];have hS5:Row8 w5 bx [.int .i64 2,.string SA,.bool b0,.int .u64 n,.slice lo l.length lc,.slice mo m.length mc,.string IA,.string UA]:=(hb5.block _ (row_lt hS4)).trans hS4;have HB5:=hid (below_step HB4.out hb5);go_simp;refine hK.out _ _ hS5 ?_;clear hK K2 hb5
 iterate 2 (refine seq_take _ rfl (fun K2 hK=>?_);go_simp;(first|refine hK _ ?_|refine ⟨_,fun _ _=>rfl,hK _ ?_⟩|(refine ⟨undef,by rw[if_neg (by simp[undef])],?_⟩;refine hK _ ?_));clear hK K2)
 refine seq_done ?_;have HX5:=hid hS5;have HB:=hid (below_step HB0.out (below_step HBD.out HB5.out));have HBD5:=hid (below_step HBD.out HB5.out);clear e0 e7 hne hS hS4 hS5;have y0:w5.cell? ⟨bx,0,none⟩=some (.int .i64 2):=row_cell HX5.out (j:=0) rfl;have y1:w5.cell? ⟨bx,1,none⟩=some (.string SA):=row_cell HX5.out (j:=1) rfl;have y2:w5.cell? ⟨bx,2,none⟩=some (.bool b0):=row_cell HX5.out (j:=2) rfl;have y3:w5.cell? ⟨bx,3,none⟩=some (.int .u64 n):=row_cell HX5.out (j:=3) rfl;have y4:w5.cell? ⟨bx,4,none⟩=some (.slice lo l.length lc):=row_cell HX5.out (j:=4) rfl;have y5:w5.cell? ⟨bx,5,none⟩=some (.slice mo m.length mc):=row_cell HX5.out (j:=5) rfl;have y6:w5.cell? ⟨bx,6,none⟩=some (.string IA):=row_cell HX5.out (j:=6) rfl;have y7:w5.cell? ⟨bx,7,none⟩=some (.string UA):=row_cell HX5.out (j:=7) rfl
 by_cases hz:s=[]
 case neg =>
  obtain ⟨z1,z2,z3,z4⟩:=text_not (X:=SA) (by rw[HSA.out];exact hz);have z5:(SA.toList != (⟨#[]⟩:ByteArray).toList)=true:=by rw[bne_iff_ne];exact z4
  have z6:(SA.toList != [])=true:=by rw[bne_iff_ne];exact z1
  go_upto_region 4 with fail
  refine wp_region_litG ?_
  iterate 65 ((first|refine wpList_plainG rfl (fun K hK=>?_)|refine wpList_yesG rfl rfl rfl rfl (fun K hK=>?_)|refine wpList_noG rfl rfl rfl rfl rfl (fun K hK=>?_)|refine wpList_unG (v:=undef) rfl rfl rfl rfl (fun c h=>by simp[undef] at h) (fun K hK=>?_));go_simp;refine hK _ _ ?_;clear hK K)
  refine wpList_nilG ?_;go_wp2_with fail;go_ret;exact ⟨HB.out,false,rfl,by rw[←HR.out];simp[vpl,hz]⟩
 case pos =>
 have HZS:=hid hz;obtain rfl:=empty_ba (X:=SA) (by rw[HSA.out];exact hz);clear hz
 by_cases hz:n=0
 case neg =>
  have z1:((n:Int) != 0)=true:=by rw[bne_iff_ne];omega
  go_upto_region 4 with fail
  refine wp_region_litG ?_
  iterate 65 ((first|refine wpList_plainG rfl (fun K hK=>?_)|refine wpList_yesG rfl rfl rfl rfl (fun K hK=>?_)|refine wpList_noG rfl rfl rfl rfl rfl (fun K hK=>?_)|refine wpList_unG (v:=undef) rfl rfl rfl rfl (fun c h=>by simp[undef] at h) (fun K hK=>?_));go_simp;refine hK _ _ ?_;clear hK K)
  refine wpList_nilG ?_;go_wp2_with fail;go_ret;exact ⟨HB.out,false,rfl,by rw[←HR.out];simp[vpl,hz]⟩
 case pos =>
 subst hz
 by_cases hz:l=[]
 case neg =>
  have z0:0<l.length:=List.length_pos_iff.2 hz;have z1:decide ((l.length:Int)>0)=true:=decide_eq_true (by omega);have z2:decide ((0:Int)<(l.length:Int))=true:=decide_eq_true (by omega);have z3:decide (0<l.length)=true:=decide_eq_true z0;go_upto_region 4 with fail
  refine wp_region_litG ?_
  iterate 65 ((first|refine wpList_plainG rfl (fun K hK=>?_)|refine wpList_yesG rfl rfl rfl rfl (fun K hK=>?_)|refine wpList_noG rfl rfl rfl rfl rfl (fun K hK=>?_)|refine wpList_unG (v:=undef) rfl rfl rfl rfl (fun c h=>by simp[undef] at h) (fun K hK=>?_));go_simp;refine hK _ _ ?_;clear hK K)
  refine wpList_nilG ?_;go_wp2_with fail;go_ret;exact ⟨HB.out,false,rfl,by rw[←HR.out];simp[vpl,hz]⟩
 case pos =>
 subst hz
 by_cases hz:m=[]
 case neg =>
  have z0:0<m.length:=List.length_pos_iff.2 hz;have z1:decide ((m.length:Int)>0)=true:=decide_eq_true (by omega);have z2:decide ((0:Int)<(m.length:Int))=true:=decide_eq_true (by omega);have z3:decide (0<m.length)=true:=decide_eq_true z0;go_upto_region 4 with fail
  refine wp_region_litG ?_
  iterate 65 ((first|refine wpList_plainG rfl (fun K hK=>?_)|refine wpList_yesG rfl rfl rfl rfl (fun K hK=>?_)|refine wpList_noG rfl rfl rfl rfl rfl (fun K hK=>?_)|refine wpList_unG (v:=undef) rfl rfl rfl rfl (fun c h=>by simp[undef] at h) (fun K hK=>?_));go_simp;refine hK _ _ ?_;clear hK K)
  refine wpList_nilG ?_;go_wp2_with fail;go_ret;exact ⟨HB.out,false,rfl,by rw[←HR.out];simp[vpl,hz]⟩
 case pos =>
 subst hz
 by_cases hz:i=[]
 case neg =>
  obtain ⟨z1,z2,z3,z4⟩:=text_not (X:=IA) (by rw[HIA.out];exact hz);have z5:(IA.toList != (⟨#[]⟩:ByteArray).toList)=true:=by rw[bne_iff_ne];exact z4
  have z6:(IA.toList != [])=true:=by rw[bne_iff_ne];exact z1
  go_upto_region 4 with fail
  refine wp_region_litG ?_
  iterate 65 ((first|refine wpList_plainG rfl (fun K hK=>?_)|refine wpList_yesG rfl rfl rfl rfl (fun K hK=>?_)|refine wpList_noG rfl rfl rfl rfl rfl (fun K hK=>?_)|refine wpList_unG (v:=undef) rfl rfl rfl rfl (fun c h=>by simp[undef] at h) (fun K hK=>?_));go_simp;refine hK _ _ ?_;clear hK K)
  refine wpList_nilG ?_;go_wp2_with fail;go_ret;exact ⟨HB.out,false,rfl,by rw[←HR.out];simp[vpl,hz]⟩
 case pos =>
 have HZI:=hid hz;obtain rfl:=empty_ba (X:=IA) (by rw[HIA.out];exact hz);clear hz;go_upto_region 4 with fail
 refine wp_region_litG ?_
 iterate 65 ((first|refine wpList_plainG rfl (fun K hK=>?_)|refine wpList_yesG rfl rfl rfl rfl (fun K hK=>?_)|refine wpList_noG rfl rfl rfl rfl rfl (fun K hK=>?_)|refine wpList_unG (v:=undef) rfl rfl rfl rfl (fun c h=>by simp[undef] at h) (fun K hK=>?_));go_simp;refine hK _ _ ?_;clear hK K)
 refine wpList_nilG ?_;go_upto_region 6 with fail
 obtain ⟨D2,hD2⟩:∃ D,w5.drew=D:=⟨_,rfl⟩
 have HBD2:Hid (Below w5.heap.size w5 D2):=hid (by rw[←hD2];exact (Below.refl _ _).drew);have hS:Row8 D2 bx [.int .i64 2,.string (⟨#[]⟩:ByteArray),.bool b0,.int .u64 ((0:Nat):Int),.slice lo ([]:List Val).length lc,.slice mo ([]:List KV).length mc,.string (⟨#[]⟩:ByteArray),.string UA]:=(HBD2.out.block _ (row_lt HX5.out)).trans HX5.out;have hne:Nonempty {w':World // Row8 w' bx [.int .i64 2,.string (⟨#[]⟩:ByteArray),.bool b0,.int .u64 ((0:Nat):Int),.slice lo ([]:List Val).length lc,.slice mo ([]:List KV).length mc,.string (⟨#[]⟩:ByteArray),.string UA]}:=⟨⟨_,hS⟩⟩
 have e1:∀ t:{w':World // Row8 w' bx [.int .i64 2,.string (⟨#[]⟩:ByteArray),.bool b0,.int .u64 ((0:Nat):Int),.slice lo ([]:List Val).length lc,.slice mo ([]:List KV).length mc,.string (⟨#[]⟩:ByteArray),.string UA]},t.1.cell? ⟨bx,1,none⟩=some (.string (⟨#[]⟩:ByteArray)):=fun t=>row_cell t.2 (j:=1) rfl
 have e6:∀ t:{w':World // Row8 w' bx [.int .i64 2,.string (⟨#[]⟩:ByteArray),.bool b0,.int .u64 ((0:Nat):Int),.slice lo ([]:List Val).length lc,.slice mo ([]:List KV).length mc,.string (⟨#[]⟩:ByteArray),.string UA]},t.1.cell? ⟨bx,6,none⟩=some (.string (⟨#[]⟩:ByteArray)):=fun t=>row_cell t.2 (j:=6) rfl
 refine wp_region_seq (S:=fun w'=>Row8 w' bx [.int .i64 2,.string (⟨#[]⟩:ByteArray),.bool b0,.int .u64 ((0:Nat):Int),.slice lo ([]:List Val).length lc,.slice mo ([]:List KV).length mc,.string (⟨#[]⟩:ByteArray),.string UA]) [(0,true),(1,true),(2,true),(3,true),(4,true),(5,false),(6,true),(7,true),(8,true),(9,true),(10,true),(11,true),(12,true),(13,true),(14,true),(15,true),(16,true),(17,true),(18,true),(19,true),(20,false),(21,false),(22,true),(23,true),(24,true)] (by kernel_rfl) (by kernel_rfl) (by kernel_rfl) (by kernel_rfl) (by rw[hD2];exact hS) ?_;rw[hD2];clear hD2 y0 y1 y2 y3 y4 y5 y6 y7
 iterate 5 (refine seq_take _ rfl (fun K2 hK=>?_);go_simp;(first|refine hK _ ?_|refine ⟨_,fun _ _=>rfl,hK _ ?_⟩|(refine ⟨undef,by rw[if_neg (by simp[undef])],?_⟩;refine hK _ ?_));clear hK K2)
 refine seq_come _ rfl (fun K2 hK=>?_);go_simp
 (first|refine hK.out _ _ hS ?_|(rw[if_neg (by simp[undef])];refine hK.out _ _ hS ?_));clear hK K2
 iterate 14 (refine seq_take _ rfl (fun K2 hK=>?_);go_simp;(first|refine hK _ ?_|refine ⟨_,fun _ _=>rfl,hK _ ?_⟩|(refine ⟨undef,by rw[if_neg (by simp[undef])],?_⟩;refine hK _ ?_));clear hK K2)
 refine seq_come _ rfl (fun K2 hK=>?_);go_simp
 (first|refine hK.out _ _ hS ?_|(rw[if_neg (by simp[undef])];refine hK.out _ _ hS ?_));clear hK K2
 refine seq_come _ rfl (fun K2 hK=>?_);go_simp
 (first|refine hK.out _ _ hS ?_|(rw[if_neg (by simp[undef])];refine hK.out _ _ hS ?_));clear hK K2
 iterate 3 (refine seq_take _ rfl (fun K2 hK=>?_);go_simp;(first|refine hK _ ?_|refine ⟨_,fun _ _=>rfl,hK _ ?_⟩|(refine ⟨undef,by rw[if_neg (by simp[undef])],?_⟩;refine hK _ ?_));clear hK K2)
 refine seq_done ?_;have HX6:=hid hS;have HBW:=hid (below_step HB.out HBD2.out);clear e1 e6 hne hS;have v4:D2.cell? ⟨bx,4,none⟩=some (.slice lo ([]:List Val).length lc):=row_cell HX6.out (j:=4) rfl;have v5:D2.cell? ⟨bx,5,none⟩=some (.slice mo ([]:List KV).length mc):=row_cell HX6.out (j:=5) rfl;have q2:IntKind.i64.wrap (d - 2)=d - 2:=IntWalk.i64_in _ (by have:=HD.out;have:=H0.out;omega);go_wp2_with fail
 go_loopg [6] 0 (fun k i wr=>i = .int .i64 0∧wr=D2)
 case atStart=>exact ⟨rfl,rfl⟩
 case round =>
  obtain ⟨rfl,rfl⟩:=hrel;go_wp2_with fail;refine (hk.out mo mc P wr (d - 2) HFM.out (HAM.out.below HBW.out) (by have:=HD.out;have:=H0.out;omega) (by have:=HSZ.out;omega)).mono ?_;intro e w9 hpost;obtain ⟨hb9,g,rfl,hg⟩:=hpost;have HB9:=hid (below_step HBW.out hb9);have HG:=hid hg;clear hb9 hg v4 v5;go_wp2_with fail;go_ret;refine ⟨HB9.out,g,rfl,?_⟩;rw[HG.out,←HR.out]
  simp[vpl,HZS.out,HZI.out,List.all_nil]
theorem myv_3 (s:List UInt8)(b0:Bool)(n:Nat)(l:List Val)(m:List KV)(i u:List UInt8)(hk:Hid (MyKs m))(ca:List Value)(P:Nat→Prop)(w:World)(d:Int)(hfit:vfit (.mk 3 s b0 n l m i u))(ha:VRel w P (.mk 3 s b0 n l m i u) ca)(hd:-9223372036854775808≤d∧d≤9223372036854775807)(hsz:vw (.mk 3 s b0 n l m i u)≤100000)(h0:0≤d)(hu:munkOk vtk u d=true) :
  Calls Tryz.prog 145 #[.agg ca.toArray,.int .i64 d] w (MyPost (vmayD (.mk 3 s b0 n l m i u) d) w):=by
 have HUKU:Hid ((decide (0≤d)&&munkOk (rtk [10,16,24,33,42,50,58]) u d)=true):=hid (by rw[decide_eq_true h0,←munkOk_rtk vtk_rtk,hu];rfl);have d1:decide (d<0)=false:=decide_eq_false (by omega);obtain ⟨R,hR⟩:∃ R,vmayD (.mk 3 s b0 n l m i u) d=R:=⟨_,rfl⟩
 have HR0:=hid hR;rw[vmayD,vmay,hu,decide_eq_true h0] at hR;have HR:=hid hR;rw[HR0.out];have H0:=hid h0;clear h0 hu hR;rw[VRel] at ha;rw[vfit] at hfit;obtain ⟨hkr,hn,_,_,_,hfl,hfm⟩:=hfit;obtain ⟨lo,lc,mo,mc,rfl,hal,ham⟩:=ha;rw[vw] at hsz;have HAL:=hid hal;have HAM:=hid ham;have HFL:=hid hfl;have HFM:=hid hfm;have HD:=hid hd;have HSZ:=hid hsz;obtain ⟨SA,hSA⟩:∃ Y:ByteArray,(⟨s.toArray⟩:ByteArray)=Y:=⟨_,rfl⟩
 obtain ⟨IA,hIA⟩:∃ Y:ByteArray,(⟨i.toArray⟩:ByteArray)=Y:=⟨_,rfl⟩
 obtain ⟨UA,hUA⟩:∃ Y:ByteArray,(⟨u.toArray⟩:ByteArray)=Y:=⟨_,rfl⟩
 have HSA:Hid (SA.data.toList=s):=hid (by rw[←hSA]);have HIA:Hid (IA.data.toList=i):=hid (by rw[←hIA]);have HUA:Hid (UA.data.toList=u):=hid (by rw[←hUA]);have HSS:Hid (SA.size≤100000):=hid (by rw[←hSA];simp[ByteArray.size];omega);have HIS:Hid (IA.size≤100000):=hid (by rw[←hIA];simp[ByteArray.size];omega);have HUS:Hid (UA.size≤100000):=hid (by rw[←hUA];simp[ByteArray.size];omega);unfold strV;rw[hSA,hIA,hUA];have hll:l.length≤100000:=by have:=vsw_len l;omega
 have hlm:m.length≤100000:=by have:=ksw_len m;omega
 obtain ⟨W,hW⟩:∃ W,w.alloc (.cells [.int .i64 3,.string SA,.bool b0,.int .u64 n,.slice lo l.length lc,.slice mo m.length mc,.string IA,.string UA].toArray 77)=W:=⟨_,rfl⟩
 obtain ⟨bx,hbx⟩:∃ bx,w.heap.size=bx:=⟨_,rfl⟩
 have HB0:Hid (Below w.heap.size w W):=hid (by rw[←hW];exact below_new _ _);have HX0:Hid (Row8 W bx [.int .i64 3,.string SA,.bool b0,.int .u64 n,.slice lo l.length lc,.slice mo m.length mc,.string IA,.string UA]):=hid (by rw[←hW,←hbx];exact heap_alloc_new w _);have HW:=hid hW;have HBX:=hid hbx;clear hW hbx hSA hIA hUA hal ham hfl hfm hn hkr hd hsz;have HUK:Hid ((decide (0≤d)&&munkOk (rtk [10,16,24,33,42,50,58]) UA.data.toList d)=true):=hid (by rw[HUA.out];exact HUKU.out);go_enter Tryz.func145,Tryz.ntmps145;go_wp2_with fail;rw[show w.alloc (.cells #[.int .i64 3,.string SA,.bool b0,.int .u64 n,.slice lo l.length lc,.slice mo m.length mc,.string IA,.string UA] 77)=W from HW.out,HBX.out];obtain ⟨D,hD⟩:∃ D,W.drew=D:=⟨_,rfl⟩
 have HBD:Hid (Below W.heap.size W D):=hid (by rw[←hD];exact (Below.refl _ _).drew);have hS:Row8 D bx [.int .i64 3,.string SA,.bool b0,.int .u64 n,.slice lo l.length lc,.slice mo m.length mc,.string IA,.string UA]:=(HBD.out.block _ (row_lt HX0.out)).trans HX0.out;have hne:Nonempty {w':World // Row8 w' bx [.int .i64 3,.string SA,.bool b0,.int .u64 n,.slice lo l.length lc,.slice mo m.length mc,.string IA,.string UA]}:=⟨⟨_,hS⟩⟩
 have e0:∀ t:{w':World // Row8 w' bx [.int .i64 3,.string SA,.bool b0,.int .u64 n,.slice lo l.length lc,.slice mo m.length mc,.string IA,.string UA]},t.1.cell? ⟨bx,0,none⟩=some (.int .i64 3):=fun t=>row_cell t.2 (j:=0) rfl
 have e7:∀ t:{w':World // Row8 w' bx [.int .i64 3,.string SA,.bool b0,.int .u64 n,.slice lo l.length lc,.slice mo m.length mc,.string IA,.string UA]},t.1.cell? ⟨bx,7,none⟩=some (.string UA):=fun t=>row_cell t.2 (j:=7) rfl
 refine wp_region_seq (S:=fun w'=>Row8 w' bx [.int .i64 3,.string SA,.bool b0,.int .u64 n,.slice lo l.length lc,.slice mo m.length mc,.string IA,.string UA]) [(0,true),(1,true),(2,true),(3,true),(4,true),(5,true),(6,true),(7,true),(8,true),(9,true),(10,true),(11,true),(12,true),(13,true),(14,true),(15,true),(16,false),(17,false),(18,true),(19,true)] (by kernel_rfl) (by kernel_rfl) (by kernel_rfl) (by kernel_rfl) (by rw[hD];exact hS) ?_;rw[hD];clear hD
 iterate 16 (refine seq_take _ rfl (fun K2 hK=>?_);go_simp;(first|refine hK _ ?_|refine ⟨_,fun _ _=>rfl,hK _ ?_⟩|(refine ⟨undef,by rw[if_neg (by simp[undef])],?_⟩;refine hK _ ?_));clear hK K2)
 refine seq_come _ rfl (fun K2 hK=>?_);go_simp;refine (tabV_any D).mono ?_;rintro e w4 ⟨to,rfl,HNT,hb4⟩;have hS4:Row8 w4 bx [.int .i64 3,.string SA,.bool b0,.int .u64 n,.slice lo l.length lc,.slice mo m.length mc,.string IA,.string UA]:=(hb4.block _ (row_lt hS)).trans hS;have HB4:=hid hb4;go_simp;refine hK.out _ _ hS4 ?_;clear hK K2 hb4;refine seq_come _ rfl (fun K2 hK=>?_);go_simp;refine (unknown8_any UA (d) [10,16,24,33,42,50,58] to 7 w4 HNT (by decide) (hid (by decide)) (by have:=HUS.out;omega) (by have:=HD.out;omega)).mono ?_;rintro e w5 ⟨rfl,hb5⟩;rw[HUK.out];have hS5:Row8 w5 bx [.int .i64 3,.string SA,.bool b0,.int .u64 n,.slice lo l.length lc,.slice mo m.length mc,.string IA,.string UA]:=(hb5.block _ (row_lt hS4)).trans hS4;have HB5:=hid (below_step HB4.out hb5);go_simp;refine hK.out _ _ hS5 ?_;clear hK K2 hb5
 iterate 2 (refine seq_take _ rfl (fun K2 hK=>?_);go_simp;(first|refine hK _ ?_|refine ⟨_,fun _ _=>rfl,hK _ ?_⟩|(refine ⟨undef,by rw[if_neg (by simp[undef])],?_⟩;refine hK _ ?_));clear hK K2)
 refine seq_done ?_;have HX5:=hid hS5;have HB:=hid (below_step HB0.out (below_step HBD.out HB5.out));have HBD5:=hid (below_step HBD.out HB5.out);clear e0 e7 hne hS hS4 hS5;have y0:w5.cell? ⟨bx,0,none⟩=some (.int .i64 3):=row_cell HX5.out (j:=0) rfl;have y1:w5.cell? ⟨bx,1,none⟩=some (.string SA):=row_cell HX5.out (j:=1) rfl;have y2:w5.cell? ⟨bx,2,none⟩=some (.bool b0):=row_cell HX5.out (j:=2) rfl;have y3:w5.cell? ⟨bx,3,none⟩=some (.int .u64 n):=row_cell HX5.out (j:=3) rfl;have y4:w5.cell? ⟨bx,4,none⟩=some (.slice lo l.length lc):=row_cell HX5.out (j:=4) rfl;have y5:w5.cell? ⟨bx,5,none⟩=some (.slice mo m.length mc):=row_cell HX5.out (j:=5) rfl;have y6:w5.cell? ⟨bx,6,none⟩=some (.string IA):=row_cell HX5.out (j:=6) rfl;have y7:w5.cell? ⟨bx,7,none⟩=some (.string UA):=row_cell HX5.out (j:=7) rfl
 by_cases hz:s=[]
 case neg =>
  obtain ⟨z1,z2,z3,z4⟩:=text_not (X:=SA) (by rw[HSA.out];exact hz);have z5:(SA.toList != (⟨#[]⟩:ByteArray).toList)=true:=by rw[bne_iff_ne];exact z4
  have z6:(SA.toList != [])=true:=by rw[bne_iff_ne];exact z1
  go_upto_region 4 with fail
  refine wp_region_litG ?_
  iterate 65 ((first|refine wpList_plainG rfl (fun K hK=>?_)|refine wpList_yesG rfl rfl rfl rfl (fun K hK=>?_)|refine wpList_noG rfl rfl rfl rfl rfl (fun K hK=>?_)|refine wpList_unG (v:=undef) rfl rfl rfl rfl (fun c h=>by simp[undef] at h) (fun K hK=>?_));go_simp;refine hK _ _ ?_;clear hK K)
  refine wpList_nilG ?_;go_wp2_with fail;go_ret;exact ⟨HB.out,false,rfl,by rw[←HR.out];simp[vpl,hz]⟩
 case pos =>
 have HZS:=hid hz;obtain rfl:=empty_ba (X:=SA) (by rw[HSA.out];exact hz);clear hz
 cases b0 with
 | true =>
  go_upto_region 4 with fail
  refine wp_region_litG ?_
  iterate 65 ((first|refine wpList_plainG rfl (fun K hK=>?_)|refine wpList_yesG rfl rfl rfl rfl (fun K hK=>?_)|refine wpList_noG rfl rfl rfl rfl rfl (fun K hK=>?_)|refine wpList_unG (v:=undef) rfl rfl rfl rfl (fun c h=>by simp[undef] at h) (fun K hK=>?_));go_simp;refine hK _ _ ?_;clear hK K)
  refine wpList_nilG ?_;go_wp2_with fail;go_ret;exact ⟨HB.out,false,rfl,by rw[←HR.out];simp[vpl]⟩
 | false =>
 by_cases hz:l=[]
 case neg =>
  have z0:0<l.length:=List.length_pos_iff.2 hz;have z1:decide ((l.length:Int)>0)=true:=decide_eq_true (by omega);have z2:decide ((0:Int)<(l.length:Int))=true:=decide_eq_true (by omega);have z3:decide (0<l.length)=true:=decide_eq_true z0;go_upto_region 4 with fail
  refine wp_region_litG ?_
  iterate 65 ((first|refine wpList_plainG rfl (fun K hK=>?_)|refine wpList_yesG rfl rfl rfl rfl (fun K hK=>?_)|refine wpList_noG rfl rfl rfl rfl rfl (fun K hK=>?_)|refine wpList_unG (v:=undef) rfl rfl rfl rfl (fun c h=>by simp[undef] at h) (fun K hK=>?_));go_simp;refine hK _ _ ?_;clear hK K)
  refine wpList_nilG ?_;go_wp2_with fail;go_ret;exact ⟨HB.out,false,rfl,by rw[←HR.out];simp[vpl,hz]⟩
 case pos =>
 subst hz
 by_cases hz:m=[]
 case neg =>
  have z0:0<m.length:=List.length_pos_iff.2 hz;have z1:decide ((m.length:Int)>0)=true:=decide_eq_true (by omega);have z2:decide ((0:Int)<(m.length:Int))=true:=decide_eq_true (by omega);have z3:decide (0<m.length)=true:=decide_eq_true z0;go_upto_region 4 with fail
  refine wp_region_litG ?_
  iterate 65 ((first|refine wpList_plainG rfl (fun K hK=>?_)|refine wpList_yesG rfl rfl rfl rfl (fun K hK=>?_)|refine wpList_noG rfl rfl rfl rfl rfl (fun K hK=>?_)|refine wpList_unG (v:=undef) rfl rfl rfl rfl (fun c h=>by simp[undef] at h) (fun K hK=>?_));go_simp;refine hK _ _ ?_;clear hK K)
  refine wpList_nilG ?_;go_wp2_with fail;go_ret;exact ⟨HB.out,false,rfl,by rw[←HR.out];simp[vpl,hz]⟩
 case pos =>
 subst hz
 by_cases hz:i=[]
 case neg =>
  obtain ⟨z1,z2,z3,z4⟩:=text_not (X:=IA) (by rw[HIA.out];exact hz);have z5:(IA.toList != (⟨#[]⟩:ByteArray).toList)=true:=by rw[bne_iff_ne];exact z4
  have z6:(IA.toList != [])=true:=by rw[bne_iff_ne];exact z1
  go_upto_region 4 with fail
  refine wp_region_litG ?_
  iterate 65 ((first|refine wpList_plainG rfl (fun K hK=>?_)|refine wpList_yesG rfl rfl rfl rfl (fun K hK=>?_)|refine wpList_noG rfl rfl rfl rfl rfl (fun K hK=>?_)|refine wpList_unG (v:=undef) rfl rfl rfl rfl (fun c h=>by simp[undef] at h) (fun K hK=>?_));go_simp;refine hK _ _ ?_;clear hK K)
  refine wpList_nilG ?_;go_wp2_with fail;go_ret;exact ⟨HB.out,false,rfl,by rw[←HR.out];simp[vpl,hz]⟩
 case pos =>
 have HZI:=hid hz;obtain rfl:=empty_ba (X:=IA) (by rw[HIA.out];exact hz);clear hz;go_upto_region 4 with fail
 refine wp_region_litG ?_
 iterate 65 ((first|refine wpList_plainG rfl (fun K hK=>?_)|refine wpList_yesG rfl rfl rfl rfl (fun K hK=>?_)|refine wpList_noG rfl rfl rfl rfl rfl (fun K hK=>?_)|refine wpList_unG (v:=undef) rfl rfl rfl rfl (fun c h=>by simp[undef] at h) (fun K hK=>?_));go_simp;refine hK _ _ ?_;clear hK K)
 refine wpList_nilG ?_;go_upto_region 6 with fail
 obtain ⟨D2,hD2⟩:∃ D,w5.drew=D:=⟨_,rfl⟩
 have HBD2:Hid (Below w5.heap.size w5 D2):=hid (by rw[←hD2];exact (Below.refl _ _).drew);have hS:Row8 D2 bx [.int .i64 3,.string (⟨#[]⟩:ByteArray),.bool false,.int .u64 n,.slice lo ([]:List Val).length lc,.slice mo ([]:List KV).length mc,.string (⟨#[]⟩:ByteArray),.string UA]:=(HBD2.out.block _ (row_lt HX5.out)).trans HX5.out;have hne:Nonempty {w':World // Row8 w' bx [.int .i64 3,.string (⟨#[]⟩:ByteArray),.bool false,.int .u64 n,.slice lo ([]:List Val).length lc,.slice mo ([]:List KV).length mc,.string (⟨#[]⟩:ByteArray),.string UA]}:=⟨⟨_,hS⟩⟩
 have e1:∀ t:{w':World // Row8 w' bx [.int .i64 3,.string (⟨#[]⟩:ByteArray),.bool false,.int .u64 n,.slice lo ([]:List Val).length lc,.slice mo ([]:List KV).length mc,.string (⟨#[]⟩:ByteArray),.string UA]},t.1.cell? ⟨bx,1,none⟩=some (.string (⟨#[]⟩:ByteArray)):=fun t=>row_cell t.2 (j:=1) rfl
 have e6:∀ t:{w':World // Row8 w' bx [.int .i64 3,.string (⟨#[]⟩:ByteArray),.bool false,.int .u64 n,.slice lo ([]:List Val).length lc,.slice mo ([]:List KV).length mc,.string (⟨#[]⟩:ByteArray),.string UA]},t.1.cell? ⟨bx,6,none⟩=some (.string (⟨#[]⟩:ByteArray)):=fun t=>row_cell t.2 (j:=6) rfl
 refine wp_region_seq (S:=fun w'=>Row8 w' bx [.int .i64 3,.string (⟨#[]⟩:ByteArray),.bool false,.int .u64 n,.slice lo ([]:List Val).length lc,.slice mo ([]:List KV).length mc,.string (⟨#[]⟩:ByteArray),.string UA]) [(0,true),(1,true),(2,true),(3,true),(4,true),(5,false),(6,true),(7,true),(8,true),(9,true),(10,true),(11,true),(12,true),(13,true),(14,true),(15,true),(16,true),(17,true),(18,true),(19,true),(20,false),(21,false),(22,true),(23,true),(24,true)] (by kernel_rfl) (by kernel_rfl) (by kernel_rfl) (by kernel_rfl) (by rw[hD2];exact hS) ?_;rw[hD2];clear hD2 y0 y1 y2 y3 y4 y5 y6 y7
 iterate 5 (refine seq_take _ rfl (fun K2 hK=>?_);go_simp;(first|refine hK _ ?_|refine ⟨_,fun _ _=>rfl,hK _ ?_⟩|(refine ⟨undef,by rw[if_neg (by simp[undef])],?_⟩;refine hK _ ?_));clear hK K2)
 refine seq_come _ rfl (fun K2 hK=>?_);go_simp
 (first|refine hK.out _ _ hS ?_|(rw[if_neg (by simp[undef])];refine hK.out _ _ hS ?_));clear hK K2
 iterate 14 (refine seq_take _ rfl (fun K2 hK=>?_);go_simp;(first|refine hK _ ?_|refine ⟨_,fun _ _=>rfl,hK _ ?_⟩|(refine ⟨undef,by rw[if_neg (by simp[undef])],?_⟩;refine hK _ ?_));clear hK K2)
 refine seq_come _ rfl (fun K2 hK=>?_);go_simp
 (first|refine hK.out _ _ hS ?_|(rw[if_neg (by simp[undef])];refine hK.out _ _ hS ?_));clear hK K2
 refine seq_come _ rfl (fun K2 hK=>?_);go_simp
 (first|refine hK.out _ _ hS ?_|(rw[if_neg (by simp[undef])];refine hK.out _ _ hS ?_));clear hK K2
 iterate 3 (refine seq_take _ rfl (fun K2 hK=>?_);go_simp;(first|refine hK _ ?_|refine ⟨_,fun _ _=>rfl,hK _ ?_⟩|(refine ⟨undef,by rw[if_neg (by simp[undef])],?_⟩;refine hK _ ?_));clear hK K2)
 refine seq_done ?_;have HX6:=hid hS;have HBW:=hid (below_step HB.out HBD2.out);clear e1 e6 hne hS;have v4:D2.cell? ⟨bx,4,none⟩=some (.slice lo ([]:List Val).length lc):=row_cell HX6.out (j:=4) rfl;have v5:D2.cell? ⟨bx,5,none⟩=some (.slice mo ([]:List KV).length mc):=row_cell HX6.out (j:=5) rfl;have q2:IntKind.i64.wrap (d - 2)=d - 2:=IntWalk.i64_in _ (by have:=HD.out;have:=H0.out;omega);go_wp2_with fail
 go_loopg [6] 0 (fun k i wr=>i = .int .i64 0∧wr=D2)
 case atStart=>exact ⟨rfl,rfl⟩
 case round =>
  obtain ⟨rfl,rfl⟩:=hrel;go_wp2_with fail;refine (hk.out mo mc P wr (d - 2) HFM.out (HAM.out.below HBW.out) (by have:=HD.out;have:=H0.out;omega) (by have:=HSZ.out;omega)).mono ?_;intro e w9 hpost;obtain ⟨hb9,g,rfl,hg⟩:=hpost;have HB9:=hid (below_step HBW.out hb9);have HG:=hid hg;clear hb9 hg v4 v5;go_wp2_with fail;go_ret;refine ⟨HB9.out,g,rfl,?_⟩;rw[HG.out,←HR.out]
  simp[vpl,HZS.out,HZI.out,List.all_nil]
end Go.Proofs.YtficgfemmijaaaaGreatDoor
