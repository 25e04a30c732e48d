/-
  ExRoom, HiRoom
-/
import Derived.Test.YtoggpnfeioaidaaDoorExBack
import Derived.Test.YtoggpnfeioaidaaDoorAlikeB
import Derived.Test.YtoggpnfeioaidaaDoorHiBack
set_option maxRecDepth 1000000
set_option maxHeartbeats 16000000
namespace Go.Proofs.YtoggpnfeioaidaaDoor
open Go.RowKit
def exsw:List Ex→Nat
  | []=>0
  | x::l=>ex_wt x+exsw l
theorem exsw_app:∀ a b:List Ex,exsw (a++b)=exsw a+exsw b
  | [],b=>by rw[exsw];simp
  | x::a,b=>by rw[List.cons_append,exsw,exsw,exsw_app a b];omega
theorem exsw_one (x:Ex):exsw [x]=ex_wt x:=by rw[exsw,exsw];rfl
def RowX (w':World) (g:Nat) (c:List Value):Prop:=w'.heap[g]? = some (.cells c.toArray 112 (0,0))
theorem exrooms_any (l:List Ex) (eo:Option Addr) (ec:Nat) (P:Nat→Prop) (w:World) (room:Int) (hl:l.length≤9223372036854775807) (hargs:∀ x∈l,ex_arg x) (ha:CRels exCel w P l eo) (hro : -1≤room∧room≤1000000) :
 Calls Tryd.prog 37 #[.slice eo l.length ec,.int .i64 room] w (RmPost room (exsw l) w):=by
 have HA:=Lib.hid ha
 have HARGS:=Lib.hid hargs
 have HRO:=Lib.hid hro
 clear ha hargs hro
 go_enter Tryd.func37,Tryd.ntmps37
 go_wp2_with fail
 go_loopg [1,5] l.length (fun k r i wr=>∃ (j:Nat) (rm:Int),r = .int .i64 rm∧i = .int .i64 (j:Int)∧j+k=l.length∧Below w.heap.size w wr∧Hid (RoomOk room (exsw (l.take j)) rm))
 case atStart=>exact ⟨0,room,rfl,rfl,by omega,Below.refl _ _,Lib.hid (by rw[List.take_zero,exsw];unfold RoomOk;have:=HRO.out;omega)⟩
 case round =>
  obtain ⟨j,rm,rfl,rfl,hj,hbr,HRM⟩:=hrel
  have HBR:=Lib.hid hbr
  have HJ:=Lib.hid hj
  have HRB:=Lib.hid (HRM.out.le HRO.out)
  clear hbr hj
  by_cases hlt:j<l.length
  · by_cases hrm:0≤rm
    · have d4:decide (rm ≥ 0)=true:=decide_eq_true hrm
      obtain ⟨ga,oa,ca,rfl,_,hga,hca,hra⟩:=(HA.out.below HBR.out) j hlt
      have hca:Cells wr ga (oa+7 * j) ca:=hca
      have hmem:=List.getElem_mem hlt
      obtain ⟨x,hx⟩:∃ x,l[j]=x:=⟨_,rfl⟩
      have HAX:=HARGS.out x (hx ▸ hmem)
      have HTK:Hid (exsw (l.take (j+1))=exsw (l.take j)+ex_wt x):=Lib.hid (by rw[List.take_succ_eq_append_getElem hlt,exsw_app,hx,exsw_one])
      rw[hx] at hra
      clear hx hmem hrm
      obtain ⟨⟨t,⟨⟨⟨k,n⟩,⟨a,b⟩⟩,q⟩⟩,u⟩:=x
      obtain ⟨lo,lc,rfl,hkr⟩:=hra
      obtain ⟨_,_,hza,hzb,hfl,hll,hzl,hzu⟩:=HAX
      obtain ⟨Xa,hXa⟩:∃ X:ByteArray,(⟨a.toArray⟩:ByteArray)=X:=⟨_,rfl⟩
      obtain ⟨Xb,hXb⟩:∃ X:ByteArray,(⟨b.toArray⟩:ByteArray)=X:=⟨_,rfl⟩
      obtain ⟨Xu,hXu⟩:∃ X:ByteArray,(⟨u.toArray⟩:ByteArray)=X:=⟨_,rfl⟩
      have HZA:Hid (Xa.size=a.length):=Lib.hid (by rw[←hXa];simp[ByteArray.size])
      have HZB:Hid (Xb.size=b.length):=Lib.hid (by rw[←hXb];simp[ByteArray.size])
      have HZU:Hid (Xu.size=u.length):=Lib.hid (by rw[←hXu];simp[ByteArray.size])
      have HBA:Hid (Xa.size≤9223372036854775807):=Lib.hid (by rw[HZA.out];exact hza)
      have HBB:Hid (Xb.size≤9223372036854775807):=Lib.hid (by rw[HZB.out];exact hzb)
      have HBU:Hid (Xu.size≤9223372036854775807):=Lib.hid (by rw[HZU.out];exact hzu)
      have HKR:=Lib.hid hkr
      have HFL:=Lib.hid hfl
      have HLL:=Lib.hid hll
      have HZL:=Lib.hid hzl
      have HWX:Hid (ex_wt ((t,(((k,n),(a,b)),q)),u)=60+(a.length+b.length+ksw q+u.length)):=Lib.hid rfl
      have hca:Cells wr ga (oa+7 * j) [.slice lo q.length lc,.int .u64 (t:Int),.int .i64 k,.int .u64 (n:Int),.string Xa,.string Xb,.string Xu]:=by rw[←hXa,←hXb,←hXu];exact hca
      have ev0:wr.cell? ⟨ga,oa+j * 7,none⟩=some (.slice lo q.length lc):=by have:=hca 0 (by simp);rw[show oa+j * 7=oa+7 * j+0 by omega,this];rfl
      have ev1:wr.cell? ⟨ga,oa+j * 7+1,none⟩=some (.int .u64 (t:Int)):=by have:=hca 1 (by simp);rw[show oa+j * 7+1=oa+7 * j+1 by omega,this];rfl
      have ev2:wr.cell? ⟨ga,oa+j * 7+2,none⟩=some (.int .i64 k):=by have:=hca 2 (by simp);rw[show oa+j * 7+2=oa+7 * j+2 by omega,this];rfl
      have ev3:wr.cell? ⟨ga,oa+j * 7+3,none⟩=some (.int .u64 (n:Int)):=by have:=hca 3 (by simp);rw[show oa+j * 7+3=oa+7 * j+3 by omega,this];rfl
      have ev4:wr.cell? ⟨ga,oa+j * 7+4,none⟩=some (.string Xa):=by have:=hca 4 (by simp);rw[show oa+j * 7+4=oa+7 * j+4 by omega,this];rfl
      have ev5:wr.cell? ⟨ga,oa+j * 7+5,none⟩=some (.string Xb):=by have:=hca 5 (by simp);rw[show oa+j * 7+5=oa+7 * j+5 by omega,this];rfl
      have ev6:wr.cell? ⟨ga,oa+j * 7+6,none⟩=some (.string Xu):=by have:=hca 6 (by simp);rw[show oa+j * 7+6=oa+7 * j+6 by omega,this];rfl
      clear hXa hXb hXu hza hzb hzu hca hkr hfl hll hzl
      go_wp2_with fail
      clear ev0 ev1 ev2 ev3 ev4 ev5 ev6
      obtain ⟨bx,hbx⟩:∃ bx,wr.heap.size=bx:=⟨_,rfl⟩
      obtain ⟨W,hW⟩:∃ W,wr.alloc (.cells #[.slice lo q.length lc,.int .u64 (t:Int),.int .i64 k,.int .u64 (n:Int),.string Xa,.string Xb,.string Xu] 112)=W:=⟨_,rfl⟩
      have HB0:Hid (Below wr.heap.size wr W):=Lib.hid (by rw[←hW];exact below_new _ _)
      have hrow:RowX W bx [.slice lo q.length lc,.int .u64 (t:Int),.int .i64 k,.int .u64 (n:Int),.string Xa,.string Xb,.string Xu]:=by rw[←hW,←hbx];exact heap_alloc_new _ _
      rw[hW,hbx]
      clear hW
      obtain ⟨D,hD⟩:∃ D,W.drew=D:=⟨_,rfl⟩
      have HBD:Hid (Below W.heap.size W D):=Lib.hid (by rw[←hD];exact (Below.refl _ _).drew)
      have hS:RowX D bx [.slice lo q.length lc,.int .u64 (t:Int),.int .i64 k,.int .u64 (n:Int),.string Xa,.string Xb,.string Xu]:=(HBD.out.block _ (row_lt hrow)).trans hrow
      have hne:Nonempty {w':World // RowX w' bx [.slice lo q.length lc,.int .u64 (t:Int),.int .i64 k,.int .u64 (n:Int),.string Xa,.string Xb,.string Xu]}:=⟨⟨_,hS⟩⟩
      have HBW:=Lib.hid (HB0.out.trans (HBD.out.mono HB0.out.size))
      clear hrow
      refine wp_region_seq (S:=fun w'=>RowX w' bx [.slice lo q.length lc,.int .u64 (t:Int),.int .i64 k,.int .u64 (n:Int),.string Xa,.string Xb,.string Xu]) [(0,true),(1,true),(2,true),(3,true),(5,true),(6,true),(7,true),(9,true),(10,true),(11,true),(4,false),(8,false),(12,false),(13,true)] (by kernel_rfl) (by kernel_rfl) (by kernel_rfl) (by kernel_rfl) (by rw[hD];exact hS) ?_
      rw[hD]
      clear hD
      iterate 2 (refine seq_take _ rfl (fun K2 hK=>?_);go_simp;(first|refine hK _ ?_|refine ⟨_,fun _ _=>rfl,hK _ ?_⟩);clear hK K2)
      refine seq_take _ rfl (fun K2 hK=>?_);go_simp
      refine ⟨.string Xa,fun a ha=>by (have e:a.cell? ⟨bx,4,none⟩=some (.string Xa):=row_cell ha (j:=4) rfl);rw[e];rfl,hK _ ?_⟩;clear hK K2
      iterate 2 (refine seq_take _ rfl (fun K2 hK=>?_);go_simp;(first|refine hK _ ?_|refine ⟨_,fun _ _=>rfl,hK _ ?_⟩);clear hK K2)
      refine seq_take _ rfl (fun K2 hK=>?_);go_simp
      refine ⟨.string Xb,fun a ha=>by (have e:a.cell? ⟨bx,5,none⟩=some (.string Xb):=row_cell ha (j:=5) rfl);rw[e];rfl,hK _ ?_⟩;clear hK K2
      iterate 2 (refine seq_take _ rfl (fun K2 hK=>?_);go_simp;(first|refine hK _ ?_|refine ⟨_,fun _ _=>rfl,hK _ ?_⟩);clear hK K2)
      refine seq_take _ rfl (fun K2 hK=>?_);go_simp
      refine ⟨.string Xu,fun a ha=>by (have e:a.cell? ⟨bx,6,none⟩=some (.string Xu):=row_cell ha (j:=6) rfl);rw[e];rfl,hK _ ?_⟩;clear hK K2
      iterate 1 (refine seq_take _ rfl (fun K2 hK=>?_);go_simp;(first|refine hK _ ?_|refine ⟨_,fun _ _=>rfl,hK _ ?_⟩);clear hK K2)
      refine seq_come _ rfl (fun K2 hK=>?_);go_simp
      refine (roomtake_any rm Xa.size D HRB.out HBA.out).mono ?_;rintro e w4 ⟨rfl,r1,rfl,HR1⟩
      have HB1:=Lib.hid (HR1.out.le HRB.out)
      go_simp;refine hK.out _ _ hS ?_;clear hK K2
      refine seq_come _ rfl (fun K2 hK=>?_);go_simp
      refine (roomtake_any r1 Xb.size D HB1.out HBB.out).mono ?_;rintro e w4 ⟨rfl,r2,rfl,HR2⟩
      have HB2:=Lib.hid (HR2.out.le HB1.out)
      go_simp;refine hK.out _ _ hS ?_;clear hK K2
      refine seq_come _ rfl (fun K2 hK=>?_);go_simp
      refine (roomtake_any r2 Xu.size D HB2.out HBU.out).mono ?_;rintro e w4 ⟨rfl,r3,rfl,HR3⟩
      have HB3:=Lib.hid (HR3.out.le HB2.out)
      go_simp;refine hK.out _ _ hS ?_;clear hK K2
      refine seq_take _ rfl (fun K2 hK=>?_);go_simp;(first|refine hK _ ?_|refine ⟨_,fun _ _=>rfl,hK _ ?_⟩);clear hK K2
      refine seq_done ?_
      have el:D.cell? ⟨bx,0,none⟩=some (.slice lo q.length lc):=row_cell hS (j:=0) rfl
      clear hS hne hbx
      go_wp2_with fail
      refine (roomks_any q lo lc P D 40 r3 HZL.out HLL.out HFL.out (HKR.out.below HBW.out) (by omega) HB3.out).mono ?_;rintro e w5 ⟨hb5,r9,rfl,HR9⟩
      have HBZ:=Lib.hid (below_step (below_step HBR.out HBW.out) hb5)
      clear hb5 el
      go_wp2_with fail
      have hj:=HJ.out
      go_roundg (gk - 1)
      case measure=>omega
      case rel=>exact ⟨j+1,r9,rfl,by simp,by omega,HBZ.out,Lib.hid (by
        have h1:=(((HRM.out.then HR1.out).then HR2.out).then HR3.out).then HR9.out
        have h2:=HWX.out
        have h3:=HTK.out
        have h4:=HZA.out
        have h5:=HZB.out
        have h6:=HZU.out
        unfold RoomOk at h1 ⊢
        omega)⟩
    · have d4:decide (rm ≥ 0)=false:=decide_eq_false hrm
      have hrm1:rm = -1:=by have:=HRB.out;omega
      clear hrm
      go_wp2_with fail
      go_ret
      exact ⟨HBR.out,rm,rfl,Lib.hid (.inl hrm1)⟩
  · have hjn:j=l.length:=by have:=HJ.out;omega
    have HRE:Hid (RoomOk room (exsw l) rm):=Lib.hid (by have h:=HRM.out;rwa [hjn,List.take_length] at h)
    clear hjn
    go_wp2_with fail
    go_ret
    exact ⟨HBR.out,rm,rfl,HRE⟩
open Go.RowKit
open Go.RowKit
theorem exsw_lwt:∀ l:List Ex,exsw l=lwt exSb l
  | []=>by rw[exsw];rfl
  | x::l=>by rw[exsw,lwt_cons,exsw_lwt l];rfl
theorem min_eight (l:Nat):IntKind.i64.wrap (8 * min (l:Int) 100000)=((8 * min l 100000:Nat):Int):=by
  rw[i64_wrap_id (by omega) (by omega)]
  omega
theorem room_min {a r:Int} {l:Nat} (h:RoomOk a (20+8 * min l 100000) r) (ha:a≤700000):RoomOk a (20+8 * l) r:=by
  unfold RoomOk at *
  omega
def RowH (w':World) (g:Nat) (c:List Value):Prop:=w'.heap[g]? = some (.cells c.toArray 48 (0,0))
theorem hi_room (x:Hi) (cs:List Value) (P:Nat→Prop) (w:World) (room:Int) (harg:hi_arg x) (hr:hiCel.R w P x cs) (hro : -1≤room∧room≤700000) :
 Calls Tryd.prog 29 #[.agg cs.toArray,.int .i64 room] w (RmPost room (hi_wt x) w):=by
 have HRO:Hid (-1≤room∧room≤1000000):=Lib.hid (by omega)
 have HRT:=Lib.hid hro.2
 obtain ⟨⟨a,⟨t,⟨k,⟨⟨ph,pn⟩,⟨nc,⟨nb,⟨es,⟨l,⟨f,⟨⟨mh,mn⟩,⟨gh,gn⟩⟩⟩⟩⟩⟩⟩⟩⟩⟩⟩,u⟩:=x
 obtain ⟨lo,lc,nco,ncc,nbo,nbc,eo,ec,rfl,hk,_,_,he⟩:=hr
 obtain ⟨_,_,_,_,_,hznc,_,hznb,hfe,hze,hfl,hll,hzl,_,_,_,hzu⟩:=harg
 have HK:=Lib.hid hk
 have HE:=Lib.hid he
 have HFE:=Lib.hid hfe
 have HZE:=Lib.hid hze
 have HFL:=Lib.hid hfl
 have HLL:=Lib.hid hll
 have HZL:=Lib.hid hzl
 have HWX:Hid (hi_wt ((a,(t,(k,((ph,pn),(nc,(nb,(es,(l,(f,((mh,mn),(gh,gn))))))))))),u)=60+(8 * nc.length+8 * nb.length+lwt exSb es+ksw l+u.length)):=Lib.hid rfl
 dsimp only[strV]
 obtain ⟨Xu,hXu⟩:∃ X:ByteArray,(⟨u.toArray⟩:ByteArray)=X:=⟨_,rfl⟩
 have HZU:Hid (Xu.size=u.length):=Lib.hid (by rw[←hXu];simp[ByteArray.size])
 have HBU:Hid (Xu.size≤9223372036854775807):=Lib.hid (by rw[HZU.out];exact hzu)
 rw[hXu]
 have e1:=min_eight nc.length
 have e2:=min_eight nb.length
 clear hro hk he hfe hze hfl hll hzl hzu hXu hznc hznb
 obtain ⟨W,hW⟩:∃ W,w.alloc (.cells #[.slice lo l.length lc,.int .u64 (a:Int),.int .u64 (t:Int),.int .u64 (k:Int),.bool ph,.int .u64 (pn:Int),.bool mh,.int .u64 (mn:Int),.bool gh,.int .u64 (gn:Int),.slice nco nc.length ncc,.slice nbo nb.length nbc,.slice eo es.length ec,.int .u32 (f:Int),.string Xu] 48)=W:=⟨_,rfl⟩
 obtain ⟨bx,hbx⟩:∃ bx,w.heap.size=bx:=⟨_,rfl⟩
 have HB0:Hid (Below w.heap.size w W):=Lib.hid (by rw[←hW];exact below_new _ _)
 have hrow:RowH W bx [.slice lo l.length lc,.int .u64 (a:Int),.int .u64 (t:Int),.int .u64 (k:Int),.bool ph,.int .u64 (pn:Int),.bool mh,.int .u64 (mn:Int),.bool gh,.int .u64 (gn:Int),.slice nco nc.length ncc,.slice nbo nb.length nbc,.slice eo es.length ec,.int .u32 (f:Int),.string Xu]:=by rw[←hW,←hbx];exact heap_alloc_new _ _
 have HROW:=Lib.hid hrow
 have HW:=Lib.hid hW
 have HBX:=Lib.hid hbx
 clear hW hbx hrow
 go_enter Tryd.func29,Tryd.ntmps29
 go_wp2_with fail
 rw[HW.out,HBX.out]
 obtain ⟨D,hD⟩:∃ D,W.drew=D:=⟨_,rfl⟩
 have HBD:Hid (Below W.heap.size W D):=Lib.hid (by rw[←hD];exact (Below.refl _ _).drew)
 have hS:RowH D bx [.slice lo l.length lc,.int .u64 (a:Int),.int .u64 (t:Int),.int .u64 (k:Int),.bool ph,.int .u64 (pn:Int),.bool mh,.int .u64 (mn:Int),.bool gh,.int .u64 (gn:Int),.slice nco nc.length ncc,.slice nbo nb.length nbc,.slice eo es.length ec,.int .u32 (f:Int),.string Xu]:=(HBD.out.block _ (row_lt HROW.out)).trans HROW.out
 have hne:Nonempty {w':World // RowH w' bx [.slice lo l.length lc,.int .u64 (a:Int),.int .u64 (t:Int),.int .u64 (k:Int),.bool ph,.int .u64 (pn:Int),.bool mh,.int .u64 (mn:Int),.bool gh,.int .u64 (gn:Int),.slice nco nc.length ncc,.slice nbo nb.length nbc,.slice eo es.length ec,.int .u32 (f:Int),.string Xu]}:=⟨⟨_,hS⟩⟩
 have HBW:=Lib.hid (below_step HB0.out HBD.out)
 refine wp_region_seq (S:=fun w'=>RowH w' bx [.slice lo l.length lc,.int .u64 (a:Int),.int .u64 (t:Int),.int .u64 (k:Int),.bool ph,.int .u64 (pn:Int),.bool mh,.int .u64 (mn:Int),.bool gh,.int .u64 (gn:Int),.slice nco nc.length ncc,.slice nbo nb.length nbc,.slice eo es.length ec,.int .u32 (f:Int),.string Xu]) [(0,true),(1,true),(2,true),(3,true),(5,true),(6,true),(7,true),(8,true),(9,true),(11,true),(12,true),(13,true),(14,true),(15,true),(4,false),(10,false),(16,false),(17,true)] (by kernel_rfl) (by kernel_rfl) (by kernel_rfl) (by kernel_rfl) (by rw[hD];exact hS) ?_
 rw[hD]
 clear hD
 iterate 2 (refine seq_take _ rfl (fun K2 hK=>?_);go_simp;(first|refine hK _ ?_|refine ⟨_,fun _ _=>rfl,hK _ ?_⟩);clear hK K2)
 refine seq_take _ rfl (fun K2 hK=>?_);go_simp
 refine ⟨.string Xu,fun a ha=>by (have e:a.cell? ⟨bx,14,none⟩=some (.string Xu):=row_cell ha (j:=14) rfl);rw[e];rfl,hK _ ?_⟩;clear hK K2
 iterate 2 (refine seq_take _ rfl (fun K2 hK=>?_);go_simp;(first|refine hK _ ?_|refine ⟨_,fun _ _=>rfl,hK _ ?_⟩);clear hK K2)
 refine seq_take _ rfl (fun K2 hK=>?_);go_simp
 refine ⟨.slice nco nc.length ncc,fun a ha=>by (have e:a.cell? ⟨bx,10,none⟩=some (.slice nco nc.length ncc):=row_cell ha (j:=10) rfl);rw[e];rfl,hK _ ?_⟩;clear hK K2
 iterate 4 (refine seq_take _ rfl (fun K2 hK=>?_);go_simp;(first|refine hK _ ?_|refine ⟨_,fun _ _=>rfl,hK _ ?_⟩);clear hK K2)
 refine seq_take _ rfl (fun K2 hK=>?_);go_simp
 refine ⟨.slice nbo nb.length nbc,fun a ha=>by (have e:a.cell? ⟨bx,11,none⟩=some (.slice nbo nb.length nbc):=row_cell ha (j:=11) rfl);rw[e];rfl,hK _ ?_⟩;clear hK K2
 iterate 3 (refine seq_take _ rfl (fun K2 hK=>?_);go_simp;(first|refine hK _ ?_|refine ⟨_,fun _ _=>rfl,hK _ ?_⟩);clear hK K2)
 refine seq_come _ rfl (fun K2 hK=>?_);go_simp
 refine (roomtake_any room Xu.size D HRO.out HBU.out).mono ?_;rintro e w4 ⟨rfl,r1,rfl,HR1⟩
 have HB1:=Lib.hid (HR1.out.le HRO.out)
 go_simp;refine hK.out _ _ hS ?_;clear hK K2
 refine seq_come _ rfl (fun K2 hK=>?_);go_simp
 (try rw[e1])
 refine (roomtake_any r1 (8 * min nc.length 100000) D HB1.out (by omega)).mono ?_;rintro e w4 ⟨rfl,r2,rfl,HR2⟩
 have HB2:=Lib.hid (HR2.out.le HB1.out)
 go_simp;refine hK.out _ _ hS ?_;clear hK K2
 refine seq_come _ rfl (fun K2 hK=>?_);go_simp
 (try rw[e2])
 refine (roomtake_any r2 (8 * min nb.length 100000) D HB2.out (by omega)).mono ?_;rintro e w4 ⟨rfl,r3,rfl,HR3⟩
 have HB3:=Lib.hid (HR3.out.le HB2.out)
 go_simp;refine hK.out _ _ hS ?_;clear hK K2
 (refine seq_take _ rfl (fun K2 hK=>?_);go_simp;(first|refine hK _ ?_|refine ⟨_,fun _ _=>rfl,hK _ ?_⟩);clear hK K2)
 refine seq_done ?_
 have HR23:Hid (RoomOk room (60+u.length+8 * nc.length+8 * nb.length) r3):=Lib.hid (by
  have h1:=HR1.out
  have h2:=room_min HR2.out (by have:=HRT.out;unfold RoomOk at h1;omega)
  have h3:=room_min HR3.out (by have:=HRT.out;have h4:=HR2.out;unfold RoomOk at h1 h4;omega)
  have h5:=HZU.out
  have h6:=(h1.then h2).then h3
  unfold RoomOk at h6 ⊢
  omega)
 clear hne e1 e2 HR1 HR2 HR3
 go_wp2_with fail
 obtain ⟨D2,hD2⟩:∃ D2,D.drew=D2:=⟨_,rfl⟩
 have HBD2:Hid (Below D.heap.size D D2):=Lib.hid (by rw[←hD2];exact (Below.refl _ _).drew)
 have hS2:RowH D2 bx [.slice lo l.length lc,.int .u64 (a:Int),.int .u64 (t:Int),.int .u64 (k:Int),.bool ph,.int .u64 (pn:Int),.bool mh,.int .u64 (mn:Int),.bool gh,.int .u64 (gn:Int),.slice nco nc.length ncc,.slice nbo nb.length nbc,.slice eo es.length ec,.int .u32 (f:Int),.string Xu]:=(HBD2.out.block _ (row_lt hS)).trans hS
 have hne:Nonempty {w':World // RowH w' bx [.slice lo l.length lc,.int .u64 (a:Int),.int .u64 (t:Int),.int .u64 (k:Int),.bool ph,.int .u64 (pn:Int),.bool mh,.int .u64 (mn:Int),.bool gh,.int .u64 (gn:Int),.slice nco nc.length ncc,.slice nbo nb.length nbc,.slice eo es.length ec,.int .u32 (f:Int),.string Xu]}:=⟨⟨_,hS2⟩⟩
 have HBW2:=Lib.hid (below_step HBW.out HBD2.out)
 refine wp_region_seq (S:=fun w'=>RowH w' bx [.slice lo l.length lc,.int .u64 (a:Int),.int .u64 (t:Int),.int .u64 (k:Int),.bool ph,.int .u64 (pn:Int),.bool mh,.int .u64 (mn:Int),.bool gh,.int .u64 (gn:Int),.slice nco nc.length ncc,.slice nbo nb.length nbc,.slice eo es.length ec,.int .u32 (f:Int),.string Xu]) [(0,true),(1,true),(2,true),(3,true),(4,true),(5,false),(6,false),(7,true)] (by kernel_rfl) (by kernel_rfl) (by kernel_rfl) (by kernel_rfl) (by rw[hD2];exact hS2) ?_
 rw[hD2]
 clear hD2
 (refine seq_take _ rfl (fun K2 hK=>?_);go_simp;(first|refine hK _ ?_|refine ⟨_,fun _ _=>rfl,hK _ ?_⟩);clear hK K2)
 refine seq_take _ rfl (fun K2 hK=>?_);go_simp
 refine ⟨.slice eo es.length ec,fun a ha=>by (have e:a.cell? ⟨bx,12,none⟩=some (.slice eo es.length ec):=row_cell ha (j:=12) rfl);rw[e];rfl,hK _ ?_⟩;clear hK K2
 (refine seq_take _ rfl (fun K2 hK=>?_);go_simp;(first|refine hK _ ?_|refine ⟨_,fun _ _=>rfl,hK _ ?_⟩);clear hK K2)
 refine seq_take _ rfl (fun K2 hK=>?_);go_simp
 refine ⟨.slice lo l.length lc,fun a ha=>by (have e:a.cell? ⟨bx,0,none⟩=some (.slice lo l.length lc):=row_cell ha (j:=0) rfl);rw[e];rfl,hK _ ?_⟩;clear hK K2
 (refine seq_take _ rfl (fun K2 hK=>?_);go_simp;(first|refine hK _ ?_|refine ⟨_,fun _ _=>rfl,hK _ ?_⟩);clear hK K2)
 refine seq_come _ rfl (fun K2 hK=>?_);go_simp
 refine (roomks_any l lo lc P D2 40 r3 HZL.out HLL.out HFL.out (HK.out.below HBW2.out) (by omega) HB3.out).mono ?_;rintro e w5 ⟨hb5,r4,rfl,HR4⟩
 have HB4:=Lib.hid (HR4.out.le HB3.out)
 have hS5:RowH w5 bx [.slice lo l.length lc,.int .u64 (a:Int),.int .u64 (t:Int),.int .u64 (k:Int),.bool ph,.int .u64 (pn:Int),.bool mh,.int .u64 (mn:Int),.bool gh,.int .u64 (gn:Int),.slice nco nc.length ncc,.slice nbo nb.length nbc,.slice eo es.length ec,.int .u32 (f:Int),.string Xu]:=(hb5.block _ (row_lt hS2)).trans hS2
 have HBV:=Lib.hid (below_step HBW2.out hb5)
 go_simp;refine hK.out _ _ hS5 ?_;clear hK K2 hb5
 refine seq_come _ rfl (fun K2 hK=>?_);go_simp
 refine (exrooms_any es eo ec P w5 r4 HZE.out HFE.out (HE.out.below HBV.out) HB4.out).mono ?_;rintro e w6 ⟨hb6,r5,rfl,HR5⟩
 have hS6:RowH w6 bx [.slice lo l.length lc,.int .u64 (a:Int),.int .u64 (t:Int),.int .u64 (k:Int),.bool ph,.int .u64 (pn:Int),.bool mh,.int .u64 (mn:Int),.bool gh,.int .u64 (gn:Int),.slice nco nc.length ncc,.slice nbo nb.length nbc,.slice eo es.length ec,.int .u32 (f:Int),.string Xu]:=(hb6.block _ (row_lt hS5)).trans hS5
 have HBZ:=Lib.hid (below_step HBV.out hb6)
 go_simp;refine hK.out _ _ hS6 ?_;clear hK K2 hb6
 (refine seq_take _ rfl (fun K2 hK=>?_);go_simp;(first|refine hK _ ?_|refine ⟨_,fun _ _=>rfl,hK _ ?_⟩);clear hK K2)
 refine seq_done ?_
 clear hS hS2 hS5 hS6 hne
 go_wp2_with fail
 go_ret
 exact ⟨HBZ.out,r5,rfl,Lib.hid (by
  have h1:=(HR23.out.then HR4.out).then HR5.out
  rw[exsw_lwt] at h1
  have h2:=HWX.out
  unfold RoomOk at h1 ⊢
  omega)⟩
end Go.Proofs.YtoggpnfeioaidaaDoor
