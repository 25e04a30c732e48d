/-
  merge.Fit.
-/
import Derived.Test.YtcblkndiclkacaaDoorMxPut
import Derived.Test.YtcblkndiclkacaaDoorXpOpen
import Derived.Test.YtcblkndiclkacaaDoorFrXp
set_option maxRecDepth 1000000
set_option maxHeartbeats 16000000
namespace Go.Proofs.YtcblkndiclkacaaDoor
open Go.RowKit
theorem aans_len {ps:List Pt} {o:Int} {C:List Nat} (h:aans ps=some (o,C)):C.length≤(width ps).toNat:=by
 unfold aans at h
 simp only at h
 split at h
 ·simp only[Option.some.injEq,Prod.mk.injEq] at h;obtain ⟨_,rfl⟩:=h;simp
 ·split at h
  ·cases h
  ·split at h
   ·cases h
   ·simp only[Option.some.injEq,Prod.mk.injEq] at h
    obtain ⟨_,rfl⟩:=h
    rw[afold_len];simp[width]
def FitNo (x:Sd) (most:Int):Prop:=FtNo x ⟨x.sc,false,0,[],false,0,[]⟩ most∨∃ j,FtAt x ⟨x.sc,false,0,[],false,0,[]⟩ most j∧(aans (x.pos j)=none∨aans (x.neg j)=none)
def FitP (l:List KV) (a t k:Nat) (bp:Bool) (vp:Nat) (bm:Bool) (vm:Nat) (bg:Bool) (vg:Nat) (sc:Int) (zc:Nat) (gp:Bool) (po:Int) (pc:List Nat) (gn:Bool) (no:Int) (nc:List Nat) (es:List Ex) (f th:Nat) (u:List UInt8) (most:Int) (w:World) (E:Ending) (w':World):Prop:=Below w.heap.size w w'∧∃ cs v,E = .returned (.tuple #[.agg cs.toArray,v]) ∧
 ((FitNo ⟨sc,gp,po,pc,gn,no,nc⟩ most∧EC w' v 9∧(∃ T y,v = .iface T y)∧cs=[.slice none 0 0,.int .u64 0,.int .u64 0,.int .u64 0,.bool false,.int .u64 0,.bool false,.int .u64 0,.bool false,.int .u64 0,.int .i32 0,.int .u64 0,.bool false,.int .i32 0,.slice none 0 0,.string ⟨#[]⟩,.bool false,.int .i32 0,.slice none 0 0,.string ⟨#[]⟩,.slice none 0 0,.int .u32 0,.int .u64 0,.string ⟨#[]⟩]) ∨
 (v = .nilIface∧∃ (j:Nat) (o1:Int) (C1:List Nat) (o2:Int) (C2:List Nat),FtAt ⟨sc,gp,po,pc,gn,no,nc⟩ ⟨sc,false,0,[],false,0,[]⟩ most j∧aans (Sd.pos ⟨sc,gp,po,pc,gn,no,nc⟩ j)=some (o1,C1)∧aans (Sd.neg ⟨sc,gp,po,pc,gn,no,nc⟩ j)=some (o2,C2) ∧
  xpCel.R w' (fun q=>w.heap.size≤q) ((l,(a,(t,(k,((bp,vp),(sc - j,(zc,((gp,⟨o1,C1⟩,[]),((gn,⟨o2,C2⟩,[]),(f,(es,((bm,vm),((bg,vg),th))))))))))))),u) cs))
theorem pAt_one (x:Sd) (j:Nat):pAt x ⟨x.sc,false,0,[],false,0,[]⟩ j=x.pos j∧nAt x ⟨x.sc,false,0,[],false,0,[]⟩ j=x.neg j:=by
 unfold pAt nAt dA dB
 simp[Sd.pos,Sd.neg]
theorem fit_any (l:List KV) (a t k:Nat) (bp:Bool) (vp:Nat) (bm:Bool) (vm:Nat) (bg:Bool) (vg:Nat) (sc:Int) (zc:Nat) (gp:Bool) (po:Int) (pc:List Nat) (pu:ByteArray) (gn:Bool) (no:Int) (nc:List Nat) (nu:ByteArray) (es:List Ex) (f th:Nat) (u:List UInt8) (lo:Option Addr) (lc:Nat) (pco:Option Addr) (pcc:Nat) (nco:Option Addr) (ncc:Nat) (eo:Option Addr) (ec:Nat) (most:Int) (ew:Addr) (P:Nat→Prop) (w:World) (hw:ksw l≤1000000) (hes:es.length≤1000000) (hew:Hid (∀ x∈es,ksw x.1.2.2≤1000000)) (H0:Hid (KRels w P l lo 0)) (H13:Hid (CRels natCel w P pc pco)) (H17:Hid (CRels natCel w P nc nco)) (H20:Hid (CRels exCel w P es eo)) (HEW:Hid (WideAt ew w)) (hsc : -2147483648≤sc∧sc≤2147483647) (hok:Hid (∀ sa,sa≤31→(⟨po,pc,sa⟩:Pt).Ok∧(⟨no,nc,sa⟩:Pt).Ok)) :
  Calls Tryd.prog 26 #[.agg #[.slice lo l.length lc,.int .u64 (a:Int),.int .u64 (t:Int),.int .u64 (k:Int),.bool bp,.int .u64 (vp:Int),.bool bm,.int .u64 (vm:Int),.bool bg,.int .u64 (vg:Int),.int .i32 sc,.int .u64 (zc:Int),.bool gp,.int .i32 po,.slice pco pc.length pcc,.string pu,.bool gn,.int .i32 no,.slice nco nc.length ncc,.string nu,.slice eo es.length ec,.int .u32 (f:Int),.int .u64 (th:Int),strV u],.int .i64 most] w (FitP l a t k bp vp bm vm bg vg sc zc gp po pc gn no nc es f th u most w):=by
 obtain ⟨B,HB⟩:∃ b,Hid (w.heap.size=b):=⟨_,Lib.hid rfl⟩
 obtain ⟨W,HW⟩:∃ X,Hid ((w.alloc (.cells #[.slice lo l.length lc,.int .u64 (a:Int),.int .u64 (t:Int),.int .u64 (k:Int),.bool bp,.int .u64 (vp:Int),.bool bm,.int .u64 (vm:Int),.bool bg,.int .u64 (vg:Int),.int .i32 sc,.int .u64 (zc:Int),.bool gp,.int .i32 po,.slice pco pc.length pcc,.string pu,.bool gn,.int .i32 no,.slice nco nc.length ncc,.string nu,.slice eo es.length ec,.int .u32 (f:Int),.int .u64 (th:Int),strV u] 46)).alloc (.cells #[.slice none 0 0,.int .u64 0,.int .u64 0,.int .u64 0,.bool false,.int .u64 0,.bool false,.int .u64 0,.bool false,.int .u64 0,.int .i32 0,.int .u64 0,.bool false,.int .i32 0,.slice none 0 0,.string ⟨#[]⟩,.bool false,.int .i32 0,.slice none 0 0,.string ⟨#[]⟩,.slice none 0 0,.int .u32 0,.int .u64 0,.string ⟨#[]⟩] 46)=X):=⟨_,Lib.hid rfl⟩
 have HBW:Hid (Below w.heap.size w W):=Lib.hid (by rw[←HW.out];exact (below_new _ _).alloc (by simp) _)
 have HXB:Hid (W.heap[B]? = some (.cells #[.slice lo l.length lc,.int .u64 (a:Int),.int .u64 (t:Int),.int .u64 (k:Int),.bool bp,.int .u64 (vp:Int),.bool bm,.int .u64 (vm:Int),.bool bg,.int .u64 (vg:Int),.int .i32 sc,.int .u64 (zc:Int),.bool gp,.int .i32 po,.slice pco pc.length pcc,.string pu,.bool gn,.int .i32 no,.slice nco nc.length ncc,.string nu,.slice eo es.length ec,.int .u32 (f:Int),.int .u64 (th:Int),strV u] 46 (0,0))):=Lib.hid (by rw[←HW.out,←HB.out];exact (Below.heap_alloc _ _ _ (by simp)).trans (heap_alloc_new w _))
 have HRB:Hid (W.heap[B+1]? = some (.cells #[.slice none 0 0,.int .u64 0,.int .u64 0,.int .u64 0,.bool false,.int .u64 0,.bool false,.int .u64 0,.bool false,.int .u64 0,.int .i32 0,.int .u64 0,.bool false,.int .i32 0,.slice none 0 0,.string ⟨#[]⟩,.bool false,.int .i32 0,.slice none 0 0,.string ⟨#[]⟩,.slice none 0 0,.int .u32 0,.int .u64 0,.string ⟨#[]⟩] 46 (0,0))):=Lib.hid (by rw[←HW.out,←HB.out,←World.size_alloc w (.cells #[.slice lo l.length lc,.int .u64 (a:Int),.int .u64 (t:Int),.int .u64 (k:Int),.bool bp,.int .u64 (vp:Int),.bool bm,.int .u64 (vm:Int),.bool bg,.int .u64 (vg:Int),.int .i32 sc,.int .u64 (zc:Int),.bool gp,.int .i32 po,.slice pco pc.length pcc,.string pu,.bool gn,.int .i32 no,.slice nco nc.length ncc,.string nu,.slice eo es.length ec,.int .u32 (f:Int),.int .u64 (th:Int),strV u] 46)];exact heap_alloc_new (w.alloc _) _)
 have HSZ:Hid (W.heap.size=B+2):=Lib.hid (by rw[←HW.out,←HB.out,World.size_alloc,World.size_alloc])
 go_enter Tryd.func26,Tryd.ntmps26
 go_upto_region 1 with fail
 rw[HW.out,HB.out]
 have c10:W.cell? ⟨B,10,none⟩=some (.int .i32 sc):=row_cell HXB.out (j:=10) rfl
 refine wp_region_lit ?_
 refine wpList_load_mid rfl 46 (.tmp 2) rfl B 0 rfl [.slice lo l.length lc,.int .u64 (a:Int),.int .u64 (t:Int),.int .u64 (k:Int),.bool bp,.int .u64 (vp:Int),.bool bm,.int .u64 (vm:Int),.bool bg,.int .u64 (vg:Int),.int .i32 sc,.int .u64 (zc:Int),.bool gp,.int .i32 po,.slice pco pc.length pcc,.string pu,.bool gn,.int .i32 no,.slice nco nc.length ncc,.string nu,.slice eo es.length ec,.int .u32 (f:Int),.int .u64 (th:Int),strV u] _ (range_rowf HXB.out) Tryd.underlying46 rfl (by kernel_rfl) ?_
 refine wpList_plain rfl (fun K hK=>?_);go_simp;refine hK _ _ ?_;clear hK K
 refine wpList_plain rfl (fun K hK=>?_);go_simp;refine hK _ _ ?_;clear hK K
 refine wpList_plain rfl (fun K hK=>?_);go_simp;refine hK _ _ ?_;clear hK K
 refine wpList_plain rfl (fun K hK=>?_);go_simp;refine hK _ _ ?_;clear hK K
 refine wpList_plain rfl (fun K hK=>?_);go_simp
 have htk1:TkP ⟨sc,gp,po,pc,gn,no,nc⟩ [.slice lo l.length lc,.int .u64 (a:Int),.int .u64 (t:Int),.int .u64 (k:Int),.bool bp,.int .u64 (vp:Int),.bool bm,.int .u64 (vm:Int),.bool bg,.int .u64 (vg:Int),.int .i32 sc,.int .u64 (zc:Int),.bool gp,.int .i32 po,.slice pco pc.length pcc,.string pu,.bool gn,.int .i32 no,.slice nco nc.length ncc,.string nu,.slice eo es.length ec,.int .u32 (f:Int),.int .u64 (th:Int),strV u] B W:=⟨l,a,t,k,bp,vp,bm,vm,bg,vg,zc,pu,nu,es,f,th,u,lo,lc,pco,pcc,nco,ncc,eo,ec,rfl,CRels.upd (S:=fun _=>False) (Upd.of_new HBW.out) (fun _ _ h=>h) (fun _ hk=>by rw[←HB.out];exact hk.2) (CRels.lt H13.out),CRels.upd (S:=fun _=>False) (Upd.of_new HBW.out) (fun _ _ h=>h) (fun _ hk=>by rw[←HB.out];exact hk.2) (CRels.lt H17.out)⟩
 have htk2:TkP ⟨sc,false,0,[],false,0,[]⟩ [.slice none 0 0,.int .u64 0,.int .u64 0,.int .u64 0,.bool false,.int .u64 0,.bool false,.int .u64 0,.bool false,.int .u64 0,.int .i32 sc,.int .u64 0,.bool false,.int .i32 0,.slice none 0 0,.string ⟨#[]⟩,.bool false,.int .i32 0,.slice none 0 0,.string ⟨#[]⟩,.slice none 0 0,.int .u32 0,.int .u64 0,.string ⟨#[]⟩] B W:=⟨[],0,0,0,false,0,false,0,false,0,0,⟨#[]⟩,⟨#[]⟩,[],0,0,[],none,0,none,0,none,0,none,0,rfl,fun j hj=>by simp at hj,fun j hj=>by simp at hj⟩
 have HTK1:=Lib.hid htk1
 have HTK2:=Lib.hid htk2
 clear htk1 htk2 c10
 refine (fitted_any ⟨sc,gp,po,pc,gn,no,nc⟩ ⟨sc,false,0,[],false,0,[]⟩ [.slice lo l.length lc,.int .u64 (a:Int),.int .u64 (t:Int),.int .u64 (k:Int),.bool bp,.int .u64 (vp:Int),.bool bm,.int .u64 (vm:Int),.bool bg,.int .u64 (vg:Int),.int .i32 sc,.int .u64 (zc:Int),.bool gp,.int .i32 po,.slice pco pc.length pcc,.string pu,.bool gn,.int .i32 no,.slice nco nc.length ncc,.string nu,.slice eo es.length ec,.int .u32 (f:Int),.int .u64 (th:Int),strV u] [.slice none 0 0,.int .u64 0,.int .u64 0,.int .u64 0,.bool false,.int .u64 0,.bool false,.int .u64 0,.bool false,.int .u64 0,.int .i32 sc,.int .u64 0,.bool false,.int .i32 0,.slice none 0 0,.string ⟨#[]⟩,.bool false,.int .i32 0,.slice none 0 0,.string ⟨#[]⟩,.slice none 0 0,.int .u32 0,.int .u64 0,.string ⟨#[]⟩] most ew W (Lib.hid (HEW.out.below HBW.out)) B (by have:=HSZ.out;omega) HTK1 HTK2 hsc hsc (Lib.hid (fun sa sb ha hb=>by
  refine ⟨fun p hp=>?_,fun p hp=>?_⟩
  ·simp only[Sd.pos,Bool.false_eq_true,if_false,List.append_nil] at hp
   split at hp
   ·obtain rfl:=List.mem_singleton.1 hp;exact (hok.out sa ha).1
   ·cases hp
  ·simp only[Sd.neg,Bool.false_eq_true,if_false,List.append_nil] at hp
   split at hp
   ·obtain rfl:=List.mem_singleton.1 hp;exact (hok.out sa ha).2
   ·cases hp))).mono ?_
 rintro E v1 ⟨hb,s1,s2,sv,v,rfl,hcase⟩
 have HB1:=Lib.hid (below_step HBW.out hb)
 have HX1:=Lib.hid ((hb.block _ (row_lt HXB.out)).trans HXB.out)
 have HR1:=Lib.hid ((hb.block _ (row_lt HRB.out)).trans HRB.out)
 have HSZ1:Hid (B+2≤v1.heap.size):=Lib.hid (by have:=hb.size;have:=HSZ.out;omega)
 clear hb
 rcases hcase with ⟨hno,hec,rfl,rfl⟩|⟨rfl,j,hat,hsv,hs1,hs2,hk1,hk2⟩
 ·obtain ⟨T,y,rfl⟩:=hec.iface
  have HEC:=Lib.hid hec
  have HNO:=Lib.hid hno
  clear hec hno
  go_simp
  refine hK _ _ ?_;clear hK K
  refine wpList_plain rfl (fun K hK=>?_);go_simp;refine hK _ _ ?_;clear hK K
  refine wpList_plain rfl (fun K hK=>?_);go_simp;refine hK _ _ ?_;clear hK K
  refine wpList_plain rfl (fun K hK=>?_);go_simp;refine hK _ _ ?_;clear hK K
  refine wpList_plain rfl (fun K hK=>?_);go_simp;refine hK _ _ ?_;clear hK K
  refine wpList_plain rfl (fun K hK=>?_);go_simp;refine hK _ _ ?_;clear hK K
  have HZ0:=heap_alloc_new v1 (.cells #[.slice none 0 0,.slice none 0 0] 90)
  refine wpList_store_row rfl 90 (.tmp 6) (.tmp 17) rfl v1.heap.size #[.slice none 0 0,.slice none 0 0] rfl rfl 90 _ HZ0 (by kernel_rfl) rfl (by simp[Value.oneCell']) ?_
  obtain ⟨t0,HT0⟩:∃ t,Hid (v1.heap.size=t):=⟨_,Lib.hid rfl⟩
  obtain ⟨v2,HV2⟩:∃ X,Hid ((v1.alloc (.cells #[.slice none 0 0,.slice none 0 0] 90)).setRow v1.heap.size #[.slice none 0 0,.slice none 0 0]=X):=⟨_,Lib.hid rfl⟩
  have HT0R:Hid (v2.heap[t0]? = some (.cells #[.slice none 0 0,.slice none 0 0] 90 (0,0))):=Lib.hid (by rw[←HV2.out,←HT0.out];exact setRow_heap _ _ _ _ _ _ HZ0)
  have hb2:Below v1.heap.size v1 v2:=by rw[←HV2.out];exact below_setRow (below_new _ _) (Nat.le_refl _) _
  rw[HV2.out,HT0.out]
  have HB2:=Lib.hid (below_step HB1.out hb2)
  have HX2:=Lib.hid ((hb2.block _ (row_lt HX1.out)).trans HX1.out)
  have HR2:=Lib.hid ((hb2.block _ (row_lt HR1.out)).trans HR1.out)
  have HBB:=Lib.hid hb2
  clear hb2 HZ0 HV2
  refine wpList_plain rfl (fun K hK=>?_);go_simp;refine hK _ _ ?_;clear hK K
  refine wpList_plain rfl (fun K hK=>?_);go_simp;refine hK _ _ ?_;clear hK K
  go_upto_region 3 with fail
  refine wp_region_lit ?_
  refine wpList_plain rfl (fun K hK=>?_);go_simp;refine hK _ _ ?_;clear hK K
  refine wpList_plain rfl (fun K hK=>?_);go_simp;refine hK _ _ ?_;clear hK K
  refine wpList_store_row rfl 46 (.tmp 4) (.tmp 22) rfl (B+1) #[.slice none 0 0,.int .u64 0,.int .u64 0,.int .u64 0,.bool false,.int .u64 0,.bool false,.int .u64 0,.bool false,.int .u64 0,.int .i32 0,.int .u64 0,.bool false,.int .i32 0,.slice none 0 0,.string ⟨#[]⟩,.bool false,.int .i32 0,.slice none 0 0,.string ⟨#[]⟩,.slice none 0 0,.int .u32 0,.int .u64 0,.string ⟨#[]⟩] rfl rfl 46 _ HR2.out (by kernel_rfl) rfl (by simp[Value.oneCell']) ?_
  obtain ⟨v3,HW9⟩:∃ X,Hid (v2.setRow (B+1) #[.slice none 0 0,.int .u64 0,.int .u64 0,.int .u64 0,.bool false,.int .u64 0,.bool false,.int .u64 0,.bool false,.int .u64 0,.int .i32 0,.int .u64 0,.bool false,.int .i32 0,.slice none 0 0,.string ⟨#[]⟩,.bool false,.int .i32 0,.slice none 0 0,.string ⟨#[]⟩,.slice none 0 0,.int .u32 0,.int .u64 0,.string ⟨#[]⟩]=X):=⟨_,Lib.hid rfl⟩
  rw[HW9.out]
  have hu:Upd (fun k=>k=B+1) v2 v3:=by rw[←HW9.out];exact upd_setRow _ _ _
  have hr:v3.heap[B+1]? = some (.cells #[.slice none 0 0,.int .u64 0,.int .u64 0,.int .u64 0,.bool false,.int .u64 0,.bool false,.int .u64 0,.bool false,.int .u64 0,.int .i32 0,.int .u64 0,.bool false,.int .i32 0,.slice none 0 0,.string ⟨#[]⟩,.bool false,.int .i32 0,.slice none 0 0,.string ⟨#[]⟩,.slice none 0 0,.int .u32 0,.int .u64 0,.string ⟨#[]⟩] 46 (0,0)):=by rw[←HW9.out];exact setRow_heap _ _ _ _ _ _ HR2.out
  have HEC9:Hid (EC v3 (.iface T y) 9):=Lib.hid (ec_upd15 (HEC.out.below HBB.out) hu HR2.out (by show (24:Nat)≠2;decide))
  have HB9:Hid (Below w.heap.size w v3):=Lib.hid (HB2.out.trans (hu.below HB2.out.size (fun k _ hk=>by have hk:k=B+1:=hk;have:=HB.out;omega)))
  have HR9:=Lib.hid hr
  clear hu hr
  go_wp2_with fail
  (try simp only[Exit.inBlock,Exit.then])
  refine body_cell2v rfl rfl (run_loadVar_row _ (B+1) 46 46 _ (0,0) _ HR9.out Tryd.underlying46 rfl (by kernel_rfl)) rfl ?_
  exact ⟨HB9.out,_,_,rfl,.inl ⟨.inl HNO.out,HEC9.out,⟨_,_,rfl⟩,rfl⟩⟩
 ·obtain rfl:sv=sc - (j:Int):=by rw[hsv];show min sc sc - (j:Int)=_;omega
  clear hsv
  obtain ⟨lo1,cp1,rfl⟩:=hs1.slice
  obtain ⟨lo2,cp2,rfl⟩:=hs2.slice
  have HS1:=Lib.hid hs1
  have HS2:=Lib.hid hs2
  have HK1:=Lib.hid hk1
  have HK2:=Lib.hid hk2
  have HAT:=Lib.hid hat
  obtain ⟨T1,HT1⟩:∃ X,Hid (pAt ⟨sc,gp,po,pc,gn,no,nc⟩ ⟨sc,false,0,[],false,0,[]⟩ j=X):=⟨_,Lib.hid rfl⟩
  obtain ⟨T2,HT2⟩:∃ X,Hid (nAt ⟨sc,gp,po,pc,gn,no,nc⟩ ⟨sc,false,0,[],false,0,[]⟩ j=X):=⟨_,Lib.hid rfl⟩
  rw[HT1.out] at HS1 HK1 ⊢
  rw[HT2.out] at HS2 HK2 ⊢
  clear hs1 hs2 hk1 hk2 hat
  go_simp
  refine hK _ _ ?_;clear hK K
  refine wpList_plain rfl (fun K hK=>?_);go_simp;refine hK _ _ ?_;clear hK K
  refine wpList_plain rfl (fun K hK=>?_);go_simp;refine hK _ _ ?_;clear hK K
  refine wpList_plain rfl (fun K hK=>?_);go_simp;refine hK _ _ ?_;clear hK K
  refine wpList_plain rfl (fun K hK=>?_);go_simp;refine hK _ _ ?_;clear hK K
  refine wpList_plain rfl (fun K hK=>?_);go_simp;refine hK _ _ ?_;clear hK K
  have HZ0:=heap_alloc_new v1 (.cells #[.slice none 0 0,.slice none 0 0] 90)
  refine wpList_store_row rfl 90 (.tmp 6) (.tmp 17) rfl v1.heap.size #[.slice lo1 T1.length cp1,.slice lo2 T2.length cp2] rfl rfl 90 _ HZ0 (by kernel_rfl) rfl (by simp[Value.oneCell']) ?_
  obtain ⟨t0,HT0⟩:∃ t,Hid (v1.heap.size=t):=⟨_,Lib.hid rfl⟩
  obtain ⟨v2,HV2⟩:∃ X,Hid ((v1.alloc (.cells #[.slice none 0 0,.slice none 0 0] 90)).setRow v1.heap.size #[.slice lo1 T1.length cp1,.slice lo2 T2.length cp2]=X):=⟨_,Lib.hid rfl⟩
  have HT0R:Hid (v2.heap[t0]? = some (.cells #[.slice lo1 T1.length cp1,.slice lo2 T2.length cp2] 90 (0,0))):=Lib.hid (by rw[←HV2.out,←HT0.out];exact setRow_heap _ _ _ _ _ _ HZ0)
  have hb2:Below v1.heap.size v1 v2:=by rw[←HV2.out];exact below_setRow (below_new _ _) (Nat.le_refl _) _
  rw[HV2.out,HT0.out]
  have HB2:=Lib.hid (below_step HB1.out hb2)
  have HX2:=Lib.hid ((hb2.block _ (row_lt HX1.out)).trans HX1.out)
  have HR2:=Lib.hid ((hb2.block _ (row_lt HR1.out)).trans HR1.out)
  have HBB:=Lib.hid hb2
  clear hb2 HZ0 HV2
  refine wpList_plain rfl (fun K hK=>?_);go_simp;refine hK _ _ ?_;clear hK K
  refine wpList_plain rfl (fun K hK=>?_);go_simp;refine hK _ _ ?_;clear hK K
  have hz10:v2.frozen? ⟨B,10,none⟩=false:=row_thaw HX2.out 10
  have hc10:v2.cell? ⟨B,10,none⟩=some (.int .i32 sc):=row_cell HX2.out (j:=10) rfl
  go_upto_region 5 with fail
  obtain ⟨v3,HV3⟩:∃ X,Hid (v2.setCell ⟨B,10,none⟩ (.int .i32 (sc - (j:Int)))=X):=⟨_,Lib.hid rfl⟩
  rw[HV3.out]
  have hu3:Upd (fun k=>k=B) v2 v3:=by rw[←HV3.out];exact Upd.set _ ⟨B,10,none⟩ _
  have HX3:Hid (v3.heap[B]? = some (.cells #[.slice lo l.length lc,.int .u64 (a:Int),.int .u64 (t:Int),.int .u64 (k:Int),.bool bp,.int .u64 (vp:Int),.bool bm,.int .u64 (vm:Int),.bool bg,.int .u64 (vg:Int),.int .i32 (sc - (j:Int)),.int .u64 (zc:Int),.bool gp,.int .i32 po,.slice pco pc.length pcc,.string pu,.bool gn,.int .i32 no,.slice nco nc.length ncc,.string nu,.slice eo es.length ec,.int .u32 (f:Int),.int .u64 (th:Int),strV u] 46 (0,0))):=Lib.hid (by rw[←HV3.out];exact row_set HX2.out 10 _)
  have hk10:∀ k,W.heap.size≤k→¬k=B:=fun k hk h=>by have:=HSZ.out;omega
  have HT3:=Lib.hid ((hu3.block _ (row_lt HT0R.out) (fun h=>by have h:t0=B:=h;have h1:=HSZ1.out;have h2:=HT0.out;omega)).trans HT0R.out)
  have HR3:=Lib.hid ((hu3.block _ (row_lt HR2.out) (fun h=>by have h:B+1=B:=h;omega)).trans HR2.out)
  have HB3:=Lib.hid (HB2.out.trans (hu3.below HB2.out.size (fun k _ hk=>by have hk:k=B:=hk;have:=HB.out;omega)))
  have HP1:=Lib.hid ((HS1.out.upd (S:=fun _=>False) (Upd.of_new HBB.out) (fun _ h=>h.elim) (fun _ _ h=>h)).upd hu3 (fun k hk=>by have hk:k=B:=hk;omega) (fun k hk h=>hk10 k (HK1.out k hk) h))
  have HP2:=Lib.hid ((HS2.out.upd (S:=fun _=>False) (Upd.of_new HBB.out) (fun _ h=>h.elim) (fun _ _ h=>h)).upd hu3 (fun k hk=>by have hk:k=B:=hk;omega) (fun k hk h=>hk10 k (HK2.out k hk) h))
  have hj31:j≤31:=by have:=bAt_le HAT.out.2.1;omega
  have HOKS:Hid ((∀ p∈T1,p.Ok)∧∀ p∈T2,p.Ok):=Lib.hid (by
   rw[←HT1.out,←HT2.out,(pAt_one ⟨sc,gp,po,pc,gn,no,nc⟩ j).1,(pAt_one ⟨sc,gp,po,pc,gn,no,nc⟩ j).2]
   refine ⟨fun p hp=>?_,fun p hp=>?_⟩
   ·unfold Sd.pos at hp
    split at hp
    ·obtain rfl:=List.mem_singleton.1 hp;exact (hok.out j hj31).1
    ·cases hp
   ·unfold Sd.neg at hp
    split at hp
    ·obtain rfl:=List.mem_singleton.1 hp;exact (hok.out j hj31).2
    ·cases hp)
  have HLNS:Hid (T1.length≤2∧T2.length≤2):=Lib.hid (by
   rw[←HT1.out,←HT2.out,(pAt_one ⟨sc,gp,po,pc,gn,no,nc⟩ j).1,(pAt_one ⟨sc,gp,po,pc,gn,no,nc⟩ j).2]
   have h1:=Sd.pos_len ⟨sc,gp,po,pc,gn,no,nc⟩ j
   have h2:=Sd.neg_len ⟨sc,gp,po,pc,gn,no,nc⟩ j
   omega)
  have HWDS:Hid (width T1≤100000000∧width T2≤100000000):=Lib.hid (by
   have h:=HAT.out.2.2.1
   have hm:=HAT.out.1
   unfold wAt wide at h
   rw[HT1.out,HT2.out] at h
   simp only[Bool.or_eq_false_iff,decide_eq_false_iff_not] at h
   omega)
  clear hu3 hz10 hc10 HX2 HR2 HT0R HS1 HS2 hj31
  go_wp2_with fail
  refine (put_any B t0 B T1 T2 (.slice lo1 T1.length cp1) (.slice lo2 T2.length cp2) l a t k bp vp bm vm bg vg (sc - (j:Int)) zc gp po pu gn no nu es f th u lo lc pco pc.length pcc nco nc.length ncc eo ec v3 HLNS.out.1 HLNS.out.2 HOKS HWDS (by have h1:=HSZ1.out;have h2:=HT0.out;omega) (Nat.le_refl _) ⟨fun h=>hk10 _ (HK1.out _ h) rfl,fun h=>hk10 _ (HK2.out _ h) rfl⟩ HP1.out HP2.out HT3.out HX3.out).mono ?_
  rintro E v4 ⟨hu,v,rfl,hcase⟩
  have HB4:=Lib.hid (HB3.out.trans (hu.below HB3.out.size (fun k _ hk=>by have hk:k=B:=hk;have:=HB.out;omega)))
  have HR4:=Lib.hid ((hu.block _ (row_lt HR3.out) (fun h=>by have h:B+1=B:=h;omega)).trans HR3.out)
  clear hu hk10
  rcases hcase with ⟨hnone,hec,T,y,rfl⟩|⟨rfl,o1,C1,o2,C2,ha1,ha2,q1,d1,q2,d2,hrow,hn1,hn2,-,-⟩
  ·have HEC:=Lib.hid hec
   have HNN:Hid (aans T1=none∨aans T2=none):=Lib.hid hnone
   clear hec hnone
   go_upto_region 7 with fail
   refine wp_region_lit ?_
   refine wpList_plain rfl (fun K hK=>?_);go_simp;refine hK _ _ ?_;clear hK K
   refine wpList_plain rfl (fun K hK=>?_);go_simp;refine hK _ _ ?_;clear hK K
   refine wpList_store_row rfl 46 (.tmp 4) (.tmp 29) rfl (B+1) #[.slice none 0 0,.int .u64 0,.int .u64 0,.int .u64 0,.bool false,.int .u64 0,.bool false,.int .u64 0,.bool false,.int .u64 0,.int .i32 0,.int .u64 0,.bool false,.int .i32 0,.slice none 0 0,.string ⟨#[]⟩,.bool false,.int .i32 0,.slice none 0 0,.string ⟨#[]⟩,.slice none 0 0,.int .u32 0,.int .u64 0,.string ⟨#[]⟩] rfl rfl 46 _ HR4.out (by kernel_rfl) rfl (by simp[Value.oneCell']) ?_
   obtain ⟨v5,HW9⟩:∃ X,Hid (v4.setRow (B+1) #[.slice none 0 0,.int .u64 0,.int .u64 0,.int .u64 0,.bool false,.int .u64 0,.bool false,.int .u64 0,.bool false,.int .u64 0,.int .i32 0,.int .u64 0,.bool false,.int .i32 0,.slice none 0 0,.string ⟨#[]⟩,.bool false,.int .i32 0,.slice none 0 0,.string ⟨#[]⟩,.slice none 0 0,.int .u32 0,.int .u64 0,.string ⟨#[]⟩]=X):=⟨_,Lib.hid rfl⟩
   rw[HW9.out]
   have hu:Upd (fun k=>k=B+1) v4 v5:=by rw[←HW9.out];exact upd_setRow _ _ _
   have hr:v5.heap[B+1]? = some (.cells #[.slice none 0 0,.int .u64 0,.int .u64 0,.int .u64 0,.bool false,.int .u64 0,.bool false,.int .u64 0,.bool false,.int .u64 0,.int .i32 0,.int .u64 0,.bool false,.int .i32 0,.slice none 0 0,.string ⟨#[]⟩,.bool false,.int .i32 0,.slice none 0 0,.string ⟨#[]⟩,.slice none 0 0,.int .u32 0,.int .u64 0,.string ⟨#[]⟩] 46 (0,0)):=by rw[←HW9.out];exact setRow_heap _ _ _ _ _ _ HR4.out
   have HEC9:Hid (EC v5 (.iface T y) 9):=Lib.hid (ec_upd15 HEC.out hu HR4.out (by show (24:Nat)≠2;decide))
   have HB9:Hid (Below w.heap.size w v5):=Lib.hid (HB4.out.trans (hu.below HB4.out.size (fun k _ hk=>by have hk:k=B+1:=hk;have:=HB.out;omega)))
   have HR9:=Lib.hid hr
   clear hu hr
   go_wp2_with fail
   (try simp only[Exit.inBlock,Exit.then])
   refine body_cell2v rfl rfl (run_loadVar_row _ (B+1) 46 46 _ (0,0) _ HR9.out Tryd.underlying46 rfl (by kernel_rfl)) rfl ?_
   exact ⟨HB9.out,_,_,rfl,.inl ⟨.inr ⟨j,HAT.out,by have h:=HNN.out;rw[←HT1.out,←HT2.out,(pAt_one ⟨sc,gp,po,pc,gn,no,nc⟩ j).1,(pAt_one ⟨sc,gp,po,pc,gn,no,nc⟩ j).2] at h;exact h⟩,HEC9.out,⟨_,_,rfl⟩,rfl⟩⟩
  ·have HA1:=Lib.hid ha1
   have HA2:=Lib.hid ha2
   have HX4:=Lib.hid hrow
   have HN1:=Lib.hid hn1
   have HN2:=Lib.hid hn2
   clear ha1 ha2 hrow hn1 hn2
   have HCL:Hid (C1.length≤1000000∧C2.length≤1000000):=Lib.hid (by
    have h1:=aans_len HA1.out
    have h2:=aans_len HA2.out
    have h3:=HWDS.out
    have hm:(width T1).toNat≤320∧(width T2).toNat≤320:=by
     have h:=HAT.out.2.2.1
     have hm:=HAT.out.1
     unfold wAt wide at h
     rw[HT1.out,HT2.out] at h
     simp only[Bool.or_eq_false_iff,decide_eq_false_iff_not] at h
     omega
    omega)
   have HBP:Hid (Below w.heap.size w v4):=HB4
   go_upto_region 8 with fail
   refine wp_region_lit ?_
   refine wpList_load_mid rfl 46 (.tmp 2) rfl B 0 rfl [.slice lo l.length lc,.int .u64 (a:Int),.int .u64 (t:Int),.int .u64 (k:Int),.bool bp,.int .u64 (vp:Int),.bool bm,.int .u64 (vm:Int),.bool bg,.int .u64 (vg:Int),.int .i32 (sc - (j:Int)),.int .u64 (zc:Int),.bool gp,.int .i32 o1,.slice q1 C1.length d1,.string ⟨#[]⟩,.bool gn,.int .i32 o2,.slice q2 C2.length d2,.string ⟨#[]⟩,.slice eo es.length ec,.int .u32 (f:Int),.int .u64 (th:Int),strV u] _ (range_rowf HX4.out) Tryd.underlying46 rfl (by kernel_rfl) ?_
   refine wpList_plain rfl (fun K hK=>?_);go_simp
   refine (frexp_any l a t k bp vp bm vm bg vg (sc - (j:Int)) zc gp o1 C1 ⟨#[]⟩ gn o2 C2 ⟨#[]⟩ es f th u lo lc q1 d1 q2 d2 eo ec P v4 hw HCL.out.1 HCL.out.2 hes hew (Lib.hid (H0.out.below HBP.out)) HN1 HN2 (Lib.hid (H20.out.below HBP.out))).mono ?_
   rintro E v5 ⟨hb,lo5,lc5,pco5,pcc5,nco5,ncc5,eo5,ec5,rfl,hk5,hp5,hn5,he5⟩
   have HB5:=Lib.hid (below_step HB4.out hb)
   have HR5:=Lib.hid ((hb.block _ (row_lt HR4.out)).trans HR4.out)
   clear hb
   have HK5:=Lib.hid hk5
   have HP5:=Lib.hid hp5
   have HN5:=Lib.hid hn5
   have HE5:=Lib.hid he5
   clear hk5 hp5 hn5 he5
   go_simp
   refine hK _ _ ?_;clear hK K
   refine wpList_store_row rfl 46 (.tmp 4) (.tmp 32) rfl (B+1) #[.slice lo5 l.length lc5,.int .u64 (a:Int),.int .u64 (t:Int),.int .u64 (k:Int),.bool bp,.int .u64 (vp:Int),.bool bm,.int .u64 (vm:Int),.bool bg,.int .u64 (vg:Int),.int .i32 (sc - (j:Int)),.int .u64 (zc:Int),.bool gp,.int .i32 o1,.slice pco5 C1.length pcc5,.string ⟨#[]⟩,.bool gn,.int .i32 o2,.slice nco5 C2.length ncc5,.string ⟨#[]⟩,.slice eo5 es.length ec5,.int .u32 (f:Int),.int .u64 (th:Int),strV u] rfl rfl 46 _ HR5.out (by kernel_rfl) rfl (by simp[Value.oneCell',strV]) ?_
   obtain ⟨v6,HV6⟩:∃ X,Hid (v5.setRow (B+1) #[.slice lo5 l.length lc5,.int .u64 (a:Int),.int .u64 (t:Int),.int .u64 (k:Int),.bool bp,.int .u64 (vp:Int),.bool bm,.int .u64 (vm:Int),.bool bg,.int .u64 (vg:Int),.int .i32 (sc - (j:Int)),.int .u64 (zc:Int),.bool gp,.int .i32 o1,.slice pco5 C1.length pcc5,.string ⟨#[]⟩,.bool gn,.int .i32 o2,.slice nco5 C2.length ncc5,.string ⟨#[]⟩,.slice eo5 es.length ec5,.int .u32 (f:Int),.int .u64 (th:Int),strV u]=X):=⟨_,Lib.hid rfl⟩
   rw[HV6.out]
   have hu:Upd (fun k=>k=B+1) v5 v6:=by rw[←HV6.out];exact upd_setRow _ _ _
   have hr:v6.heap[B+1]? = some (.cells #[.slice lo5 l.length lc5,.int .u64 (a:Int),.int .u64 (t:Int),.int .u64 (k:Int),.bool bp,.int .u64 (vp:Int),.bool bm,.int .u64 (vm:Int),.bool bg,.int .u64 (vg:Int),.int .i32 (sc - (j:Int)),.int .u64 (zc:Int),.bool gp,.int .i32 o1,.slice pco5 C1.length pcc5,.string ⟨#[]⟩,.bool gn,.int .i32 o2,.slice nco5 C2.length ncc5,.string ⟨#[]⟩,.slice eo5 es.length ec5,.int .u32 (f:Int),.int .u64 (th:Int),strV u] 46 (0,0)):=by rw[←HV6.out];exact setRow_heap _ _ _ _ _ _ HR5.out
   have HB6:Hid (Below w.heap.size w v6):=Lib.hid (HB5.out.trans (hu.below HB5.out.size (fun k _ hk=>by have hk:k=B+1:=hk;have:=HB.out;omega)))
   have HU6:=Lib.hid hu
   have HR6:=Lib.hid hr
   clear hu hr
   go_wp2_with fail
   (try simp only[Exit.inBlock,Exit.then])
   refine body_cell2v rfl rfl (run_loadVar_row _ (B+1) 46 46 _ (0,0) _ HR6.out Tryd.underlying46 rfl (by kernel_rfl)) rfl ?_
   have hpw:∀ k,v4.heap.size≤k→¬k=B+1:=fun k hk h=>by have h1:=HB4.out.size;have h2:=row_lt HR4.out;omega
   have hpq:∀ k,v4.heap.size≤k→w.heap.size≤k:=fun k hk=>Nat.le_trans HB4.out.size hk
   refine ⟨HB6.out,[.slice lo5 l.length lc5,.int .u64 (a:Int),.int .u64 (t:Int),.int .u64 (k:Int),.bool bp,.int .u64 (vp:Int),.bool bm,.int .u64 (vm:Int),.bool bg,.int .u64 (vg:Int),.int .i32 (sc - (j:Int)),.int .u64 (zc:Int),.bool gp,.int .i32 o1,.slice pco5 C1.length pcc5,.string ⟨#[]⟩,.bool gn,.int .i32 o2,.slice nco5 C2.length ncc5,.string ⟨#[]⟩,.slice eo5 es.length ec5,.int .u32 (f:Int),.int .u64 (th:Int),strV u],_,rfl,.inr ⟨rfl,j,o1,C1,o2,C2,HAT.out,by rw[←(pAt_one ⟨sc,gp,po,pc,gn,no,nc⟩ j).1];exact (HT1.out ▸ HA1.out),by rw[←(pAt_one ⟨sc,gp,po,pc,gn,no,nc⟩ j).2];exact (HT2.out ▸ HA2.out),lo5,lc5,pco5,pcc5,nco5,ncc5,eo5,ec5,rfl,?_,?_,?_,?_⟩⟩
   ·exact KRels.upd HU6.out hpw hpq _ _ _ HK5.out
   ·exact CRels.upd HU6.out hpw hpq HP5.out
   ·exact CRels.upd HU6.out hpw hpq HN5.out
   ·exact CRels.upd HU6.out hpw hpq HE5.out
end Go.Proofs.YtcblkndiclkacaaDoor
