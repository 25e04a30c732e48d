/-
  hygref.RoomHist: any point.
-/
import Derived.Test.YtmlghmjjlpioeaaHiBack
import Derived.Test.YtmlghmjjlpioeaaExRoom
set_option maxRecDepth 1000000
set_option maxHeartbeats 16000000
namespace Go.Proofs.Ytmlghmjjlpioeaa
open Go.RowKit
open Lib (hid)
theorem exsw_lwt:∀ l:List Ex,exsw l=lwt exSb l
  | []=>by rw[exsw];rfl
  | x::l=>by rw[exsw,lwt_cons,exsw_lwt l];rfl
theorem min_eight (l:Nat):IntKind.i64.wrap (8 * min (l:Int) 100000)=((8 * min l 100000:Nat):Int):=by
  rw[i64_wrap_id (by omega) (by omega)]
  omega
theorem room_min {a r:Int}{l:Nat}(h:RoomOk a (20+8 * min l 100000) r)(ha:a≤700000):RoomOk a (20+8 * l) r:=by
  unfold RoomOk at *
  omega
def RowH (w':World)(g:Nat)(c:List Value):Prop:=w'.heap[g]? = some (.cells c.toArray 32 (0,0))
theorem hi_room (x:Hi)(cs:List Value)(P:Nat→Prop)(w:World)(room:Int)(harg:hi_arg x)(hr:hiCel.R w P x cs)(hro:-1≤room∧room≤700000) :
 Calls Try.prog 8 #[.agg cs.toArray,.int .i64 room] w (RmPost room (hi_wt x) w):=by
 have HRO:Hid (-1≤room∧room≤1000000):=hid (by omega)
 have HRT:=hid hro.2
 obtain ⟨⟨a,⟨t,⟨k,⟨⟨ph,pn⟩,⟨nc,⟨nb,⟨es,⟨l,⟨f,⟨⟨mh,mn⟩,⟨gh,gn⟩⟩⟩⟩⟩⟩⟩⟩⟩⟩⟩,u⟩:=x
 obtain ⟨lo,lc,nco,ncc,nbo,nbc,eo,ec,rfl,hk,_,_,he⟩:=hr
 obtain ⟨_,_,_,_,_,hznc,_,hznb,hfe,hze,hfl,hll,hzl,_,_,_,hzu⟩:=harg
 have HK:=hid hk
 have HE:=hid he
 have HFE:=hid hfe
 have HZE:=hid hze
 have HFL:=hid hfl
 have HLL:=hid hll
 have HZL:=hid hzl
 have HWX:Hid (hi_wt ((a,(t,(k,((ph,pn),(nc,(nb,(es,(l,(f,((mh,mn),(gh,gn))))))))))),u)=60+(8 * nc.length+8 * nb.length+lwt exSb es+ksw l+u.length)):=hid rfl
 dsimp only[strV]
 obtain ⟨Xu,hXu⟩:∃ X:ByteArray,(⟨u.toArray⟩:ByteArray)=X:=⟨_,rfl⟩
 have HZU:Hid (Xu.size=u.length):=hid (by rw[←hXu];simp[ByteArray.size])
 have HBU:Hid (Xu.size≤9223372036854775807):=hid (by rw[HZU.out];exact hzu)
 rw[hXu]
 have e1:=min_eight nc.length
 have e2:=min_eight nb.length
 clear hro hk he hfe hze hfl hll hzl hzu hXu hznc hznb
 obtain ⟨W,hW⟩:∃ W,w.alloc (.cells #[.slice lo l.length lc,.int .u64 (a:Int),.int .u64 (t:Int),.int .u64 (k:Int),.bool ph,.int .u64 (pn:Int),.bool mh,.int .u64 (mn:Int),.bool gh,.int .u64 (gn:Int),.slice nco nc.length ncc,.slice nbo nb.length nbc,.slice eo es.length ec,.int .u32 (f:Int),.string Xu] 32)=W:=⟨_,rfl⟩
 obtain ⟨bx,hbx⟩:∃ bx,w.heap.size=bx:=⟨_,rfl⟩
 have HB0:Hid (Below w.heap.size w W):=hid (by rw[←hW];exact below_new _ _)
 have hrow:RowH W bx [.slice lo l.length lc,.int .u64 (a:Int),.int .u64 (t:Int),.int .u64 (k:Int),.bool ph,.int .u64 (pn:Int),.bool mh,.int .u64 (mn:Int),.bool gh,.int .u64 (gn:Int),.slice nco nc.length ncc,.slice nbo nb.length nbc,.slice eo es.length ec,.int .u32 (f:Int),.string Xu]:=by rw[←hW,←hbx];exact heap_alloc_new _ _
 have HROW:=hid hrow
 have HW:=hid hW
 have HBX:=hid hbx
 clear hW hbx hrow
 go_enter Try.func8,Try.ntmps8
 go_wp2_with fail
 rw[HW.out,HBX.out]
 obtain ⟨D,hD⟩:∃ D,W.drew=D:=⟨_,rfl⟩
 have HBD:Hid (Below W.heap.size W D):=hid (by rw[←hD];exact (Below.refl _ _).drew)
 have hS:RowH D bx [.slice lo l.length lc,.int .u64 (a:Int),.int .u64 (t:Int),.int .u64 (k:Int),.bool ph,.int .u64 (pn:Int),.bool mh,.int .u64 (mn:Int),.bool gh,.int .u64 (gn:Int),.slice nco nc.length ncc,.slice nbo nb.length nbc,.slice eo es.length ec,.int .u32 (f:Int),.string Xu]:=(HBD.out.block _ (row_lt HROW.out)).trans HROW.out
 have hne:Nonempty {w':World // RowH w' bx [.slice lo l.length lc,.int .u64 (a:Int),.int .u64 (t:Int),.int .u64 (k:Int),.bool ph,.int .u64 (pn:Int),.bool mh,.int .u64 (mn:Int),.bool gh,.int .u64 (gn:Int),.slice nco nc.length ncc,.slice nbo nb.length nbc,.slice eo es.length ec,.int .u32 (f:Int),.string Xu]}:=⟨⟨_,hS⟩⟩
 have HBW:=hid (below_step HB0.out HBD.out)
 refine wp_region_seq (S:=fun w'=>RowH w' bx [.slice lo l.length lc,.int .u64 (a:Int),.int .u64 (t:Int),.int .u64 (k:Int),.bool ph,.int .u64 (pn:Int),.bool mh,.int .u64 (mn:Int),.bool gh,.int .u64 (gn:Int),.slice nco nc.length ncc,.slice nbo nb.length nbc,.slice eo es.length ec,.int .u32 (f:Int),.string Xu]) [(0,true),(1,true),(2,true),(3,true),(5,true),(6,true),(7,true),(8,true),(9,true),(11,true),(12,true),(13,true),(14,true),(15,true),(4,false),(10,false),(16,false),(17,true)] (by kernel_rfl) (by kernel_rfl) (by kernel_rfl) (by kernel_rfl) (by rw[hD];exact hS) ?_
 rw[hD]
 clear hD
 iterate 2 (refine seq_take _ rfl (fun K2 hK=>?_);go_simp;(first|refine hK _ ?_|refine ⟨_,fun _ _=>rfl,hK _ ?_⟩);clear hK K2)
 refine seq_take _ rfl (fun K2 hK=>?_);go_simp
 refine ⟨.string Xu,fun a ha=>by (have e:a.cell? ⟨bx,14,none⟩=some (.string Xu):=row_cell ha (j:=14) rfl);rw[e];rfl,hK _ ?_⟩;clear hK K2
 iterate 2 (refine seq_take _ rfl (fun K2 hK=>?_);go_simp;(first|refine hK _ ?_|refine ⟨_,fun _ _=>rfl,hK _ ?_⟩);clear hK K2)
 refine seq_take _ rfl (fun K2 hK=>?_);go_simp
 refine ⟨.slice nco nc.length ncc,fun a ha=>by (have e:a.cell? ⟨bx,10,none⟩=some (.slice nco nc.length ncc):=row_cell ha (j:=10) rfl);rw[e];rfl,hK _ ?_⟩;clear hK K2
 iterate 4 (refine seq_take _ rfl (fun K2 hK=>?_);go_simp;(first|refine hK _ ?_|refine ⟨_,fun _ _=>rfl,hK _ ?_⟩);clear hK K2)
 refine seq_take _ rfl (fun K2 hK=>?_);go_simp
 refine ⟨.slice nbo nb.length nbc,fun a ha=>by (have e:a.cell? ⟨bx,11,none⟩=some (.slice nbo nb.length nbc):=row_cell ha (j:=11) rfl);rw[e];rfl,hK _ ?_⟩;clear hK K2
 iterate 3 (refine seq_take _ rfl (fun K2 hK=>?_);go_simp;(first|refine hK _ ?_|refine ⟨_,fun _ _=>rfl,hK _ ?_⟩);clear hK K2)
 refine seq_come _ rfl (fun K2 hK=>?_);go_simp
 refine (roomtake_any room Xu.size D HRO.out HBU.out).mono ?_;rintro e w4 ⟨rfl,r1,rfl,HR1⟩
 have HB1:=hid (HR1.out.le HRO.out)
 go_simp;refine hK.out _ _ hS ?_;clear hK K2
 refine seq_come _ rfl (fun K2 hK=>?_);go_simp
 (try rw[e1])
 refine (roomtake_any r1 (8 * min nc.length 100000) D HB1.out (by omega)).mono ?_;rintro e w4 ⟨rfl,r2,rfl,HR2⟩
 have HB2:=hid (HR2.out.le HB1.out)
 go_simp;refine hK.out _ _ hS ?_;clear hK K2
 refine seq_come _ rfl (fun K2 hK=>?_);go_simp
 (try rw[e2])
 refine (roomtake_any r2 (8 * min nb.length 100000) D HB2.out (by omega)).mono ?_;rintro e w4 ⟨rfl,r3,rfl,HR3⟩
 have HB3:=hid (HR3.out.le HB2.out)
 go_simp;refine hK.out _ _ hS ?_;clear hK K2
 (refine seq_take _ rfl (fun K2 hK=>?_);go_simp;(first|refine hK _ ?_|refine ⟨_,fun _ _=>rfl,hK _ ?_⟩);clear hK K2)
 refine seq_done ?_
 have HR23:Hid (RoomOk room (60+u.length+8 * nc.length+8 * nb.length) r3):=hid (by
  have h1:=HR1.out
  have h2:=room_min HR2.out (by have:=HRT.out;unfold RoomOk at h1;omega)
  have h3:=room_min HR3.out (by have:=HRT.out;have h4:=HR2.out;unfold RoomOk at h1 h4;omega)
  have h5:=HZU.out
  have h6:=(h1.then h2).then h3
  unfold RoomOk at h6 ⊢
  omega)
 clear hne e1 e2 HR1 HR2 HR3
 go_wp2_with fail
 obtain ⟨D2,hD2⟩:∃ D2,D.drew=D2:=⟨_,rfl⟩
 have HBD2:Hid (Below D.heap.size D D2):=hid (by rw[←hD2];exact (Below.refl _ _).drew)
 have hS2:RowH D2 bx [.slice lo l.length lc,.int .u64 (a:Int),.int .u64 (t:Int),.int .u64 (k:Int),.bool ph,.int .u64 (pn:Int),.bool mh,.int .u64 (mn:Int),.bool gh,.int .u64 (gn:Int),.slice nco nc.length ncc,.slice nbo nb.length nbc,.slice eo es.length ec,.int .u32 (f:Int),.string Xu]:=(HBD2.out.block _ (row_lt hS)).trans hS
 have hne:Nonempty {w':World // RowH w' bx [.slice lo l.length lc,.int .u64 (a:Int),.int .u64 (t:Int),.int .u64 (k:Int),.bool ph,.int .u64 (pn:Int),.bool mh,.int .u64 (mn:Int),.bool gh,.int .u64 (gn:Int),.slice nco nc.length ncc,.slice nbo nb.length nbc,.slice eo es.length ec,.int .u32 (f:Int),.string Xu]}:=⟨⟨_,hS2⟩⟩
 have HBW2:=hid (below_step HBW.out HBD2.out)
 refine wp_region_seq (S:=fun w'=>RowH w' bx [.slice lo l.length lc,.int .u64 (a:Int),.int .u64 (t:Int),.int .u64 (k:Int),.bool ph,.int .u64 (pn:Int),.bool mh,.int .u64 (mn:Int),.bool gh,.int .u64 (gn:Int),.slice nco nc.length ncc,.slice nbo nb.length nbc,.slice eo es.length ec,.int .u32 (f:Int),.string Xu]) [(0,true),(1,true),(2,true),(3,true),(4,true),(5,false),(6,false),(7,true)] (by kernel_rfl) (by kernel_rfl) (by kernel_rfl) (by kernel_rfl) (by rw[hD2];exact hS2) ?_
 rw[hD2]
 clear hD2
 (refine seq_take _ rfl (fun K2 hK=>?_);go_simp;(first|refine hK _ ?_|refine ⟨_,fun _ _=>rfl,hK _ ?_⟩);clear hK K2)
 refine seq_take _ rfl (fun K2 hK=>?_);go_simp
 refine ⟨.slice eo es.length ec,fun a ha=>by (have e:a.cell? ⟨bx,12,none⟩=some (.slice eo es.length ec):=row_cell ha (j:=12) rfl);rw[e];rfl,hK _ ?_⟩;clear hK K2
 (refine seq_take _ rfl (fun K2 hK=>?_);go_simp;(first|refine hK _ ?_|refine ⟨_,fun _ _=>rfl,hK _ ?_⟩);clear hK K2)
 refine seq_take _ rfl (fun K2 hK=>?_);go_simp
 refine ⟨.slice lo l.length lc,fun a ha=>by (have e:a.cell? ⟨bx,0,none⟩=some (.slice lo l.length lc):=row_cell ha (j:=0) rfl);rw[e];rfl,hK _ ?_⟩;clear hK K2
 (refine seq_take _ rfl (fun K2 hK=>?_);go_simp;(first|refine hK _ ?_|refine ⟨_,fun _ _=>rfl,hK _ ?_⟩);clear hK K2)
 refine seq_come _ rfl (fun K2 hK=>?_);go_simp
 refine (roomks_any l lo lc P D2 40 r3 HZL.out HLL.out HFL.out (HK.out.below HBW2.out) (by omega) HB3.out).mono ?_;rintro e w5 ⟨hb5,r4,rfl,HR4⟩
 have HB4:=hid (HR4.out.le HB3.out)
 have hS5:RowH w5 bx [.slice lo l.length lc,.int .u64 (a:Int),.int .u64 (t:Int),.int .u64 (k:Int),.bool ph,.int .u64 (pn:Int),.bool mh,.int .u64 (mn:Int),.bool gh,.int .u64 (gn:Int),.slice nco nc.length ncc,.slice nbo nb.length nbc,.slice eo es.length ec,.int .u32 (f:Int),.string Xu]:=(hb5.block _ (row_lt hS2)).trans hS2
 have HBV:=hid (below_step HBW2.out hb5)
 go_simp;refine hK.out _ _ hS5 ?_;clear hK K2 hb5
 refine seq_come _ rfl (fun K2 hK=>?_);go_simp
 refine (exrooms_any es eo ec P w5 r4 HZE.out HFE.out (HE.out.below HBV.out) HB4.out).mono ?_;rintro e w6 ⟨hb6,r5,rfl,HR5⟩
 have hS6:RowH w6 bx [.slice lo l.length lc,.int .u64 (a:Int),.int .u64 (t:Int),.int .u64 (k:Int),.bool ph,.int .u64 (pn:Int),.bool mh,.int .u64 (mn:Int),.bool gh,.int .u64 (gn:Int),.slice nco nc.length ncc,.slice nbo nb.length nbc,.slice eo es.length ec,.int .u32 (f:Int),.string Xu]:=(hb6.block _ (row_lt hS5)).trans hS5
 have HBZ:=hid (below_step HBV.out hb6)
 go_simp;refine hK.out _ _ hS6 ?_;clear hK K2 hb6
 (refine seq_take _ rfl (fun K2 hK=>?_);go_simp;(first|refine hK _ ?_|refine ⟨_,fun _ _=>rfl,hK _ ?_⟩);clear hK K2)
 refine seq_done ?_
 clear hS hS2 hS5 hS6 hne
 go_wp2_with fail
 go_ret
 exact ⟨HBZ.out,r5,rfl,hid (by
  have h1:=(HR23.out.then HR4.out).then HR5.out
  rw[exsw_lwt] at h1
  have h2:=HWX.out
  unfold RoomOk at h1 ⊢
  omega)⟩
end Go.Proofs.Ytmlghmjjlpioeaa
