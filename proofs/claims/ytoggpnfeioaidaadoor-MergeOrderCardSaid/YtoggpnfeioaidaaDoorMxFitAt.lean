/-
  merge.fittedAt.
-/
import Derived.Test.YtoggpnfeioaidaaDoorMxTakeW
import Derived.Test.YtoggpnfeioaidaaDoorMxIs
import Derived.Test.YtoggpnfeioaidaaDoorMxDoor
import Derived.Test.YtoggpnfeioaidaaDoorMgSat
import Derived.BigQuiet
set_option maxRecDepth 1000000
set_option maxHeartbeats 16000000
namespace Go.Proofs.YtoggpnfeioaidaaDoor
open Go.RowKit
structure Sd where
 sc:Int
 gp:Bool
 po:Int
 pc:List Nat
 gn:Bool
 no:Int
 nc:List Nat
def Sd.pos (x:Sd) (sh:Nat):List Pt:=if x.gp=true then [⟨x.po,x.pc,sh⟩] else []
def Sd.neg (x:Sd) (sh:Nat):List Pt:=if x.gn=true then [⟨x.no,x.nc,sh⟩] else []
def TkP (x:Sd) (cs:List Value) (base:Nat) (w:World):Prop:=∃ (l:List KV) (a t k:Nat) (bp:Bool) (vp:Nat) (bm:Bool) (vm:Nat) (bg:Bool) (vg:Nat) (zc:Nat) (pu:ByteArray) (nu:ByteArray) (es:List Ex) (f th:Nat) (u:List UInt8) (lo:Option Addr) (lc:Nat) (pco:Option Addr) (pcc:Nat) (nco:Option Addr) (ncc:Nat) (eo:Option Addr) (ec:Nat),cs=[.slice lo l.length lc,.int .u64 (a:Int),.int .u64 (t:Int),.int .u64 (k:Int),.bool bp,.int .u64 (vp:Int),.bool bm,.int .u64 (vm:Int),.bool bg,.int .u64 (vg:Int),.int .i32 x.sc,.int .u64 (zc:Int),.bool x.gp,.int .i32 x.po,.slice pco x.pc.length pcc,.string pu,.bool x.gn,.int .i32 x.no,.slice nco x.nc.length ncc,.string nu,.slice eo es.length ec,.int .u32 (f:Int),.int .u64 (th:Int),strV u]∧CRels natCel w (fun k=>k<base) x.pc pco∧CRels natCel w (fun k=>k<base) x.nc nco
theorem TkP.len {x:Sd} {cs:List Value} {base:Nat} {w:World} (h:TkP x cs base w):cs.length=24:=by
 obtain ⟨l,a,t,k,bp,vp,bm,vm,bg,vg,zc,pu,nu,es,f,th,u,lo,lc,pco,pcc,nco,ncc,eo,ec,rfl,_⟩:=h;rfl
theorem TkP.scale {x:Sd} {cs:List Value} {base:Nat} {w:World} (h:TkP x cs base w):cs.toArray[10]? = some (.int .i32 x.sc):=by
 obtain ⟨l,a,t,k,bp,vp,bm,vm,bg,vg,zc,pu,nu,es,f,th,u,lo,lc,pco,pcc,nco,ncc,eo,ec,rfl,_⟩:=h;rfl
theorem TkP.upd {S:Nat→Prop} {x:Sd} {cs:List Value} {base b2:Nat} {w w':World} (h:TkP x cs base w) (hu:Upd S w w') (hs:∀ k,S k→base≤k) (hb:base≤b2):TkP x cs b2 w':=by
 obtain ⟨l,a,t,k,bp,vp,bm,vm,bg,vg,zc,pu,nu,es,f,th,u,lo,lc,pco,pcc,nco,ncc,eo,ec,rfl,h1,h2⟩:=h
 exact ⟨l,a,t,k,bp,vp,bm,vm,bg,vg,zc,pu,nu,es,f,th,u,lo,lc,pco,pcc,nco,ncc,eo,ec,rfl,CRels.upd hu (fun k hk hh=>by have:=hs k hh;have hk:k<base:=hk;omega) (fun k hk=>by have hk:k<base:=hk;show k<b2;omega) h1,CRels.upd hu (fun k hk hh=>by have:=hs k hh;have hk:k<base:=hk;omega) (fun k hk=>by have hk:k<base:=hk;show k<b2;omega) h2⟩
theorem tk_any (x:Sd) (cs:List Value) (sh s base:Nat) (pp pn:List Pt) (w:World) (hb0:base≤w.heap.size) (hlp:pp.length≤5) (hln:pn.length≤5) (hS0:Hid (SidesAt w s base pp pn)) (h:Hid (TkP x cs base w)) :
  Calls Tryd.prog 61 #[.pointer (some ⟨s,0,none⟩),.agg cs.toArray,.int .i64 (sh:Int)] w fun E w'=>E = .returned (.tuple #[])∧Upd (fun k=>s≤k) w w'∧SidesAt w' s base (pp++x.pos sh) (pn++x.neg sh):=by
 obtain ⟨l,a,t,k,bp,vp,bm,vm,bg,vg,zc,pu,nu,es,f,th,u,lo,lc,pco,pcc,nco,ncc,eo,ec,rfl,h1,h2⟩:=h.out
 exact mxtake_any l a t k bp vp bm vm bg vg x.sc zc x.gp x.po x.pc pu x.gn x.no x.nc nu es f th u lo lc pco pcc nco ncc eo ec sh s base pp pn w hb0 hlp hln hS0 (Lib.hid h1) (Lib.hid h2)
theorem ends_bound {ps:List Pt} (hok:∀ x∈ps,x.Ok) {f t:Int} (h:efold (0,0) (allP ps)=(f,t)) : -2147483648≤f∧f≤t∧t≤2149483649:=by
 have hq:∀ q∈allP ps,-2147483648≤q.1∧q.1≤2149483648:=by
  intro q hq
  obtain ⟨x,hx,hq⟩:=List.mem_flatMap.1 hq
  obtain ⟨i,hi,rfl⟩:=List.mem_map.1 hq
  have hi:i<x.cs.length:=List.mem_range.1 (List.mem_filter.1 hi).1
  exact pl_bound (hok x hx) (by have:=(hok x hx).len;omega)
 by_cases he:allP ps=[]
 ·rw[he] at h
  obtain ⟨rfl,rfl⟩:(0:Int)=f∧(0:Int)=t:=by simpa [efold] using h
  omega
 ·obtain ⟨h1,⟨q1,m1,e1⟩,q2,m2,e2⟩:=efold_some he
  rw[h] at h1 e1 e2
  have b1:=hq q1 m1
  have b2:=hq q2 m2
  simp only at h1 e1 e2
  omega
theorem Sd.pos_len (x:Sd) (sh:Nat):(x.pos sh).length≤1:=by unfold Sd.pos;split<;>simp
theorem Sd.neg_len (x:Sd) (sh:Nat):(x.neg sh).length≤1:=by unfold Sd.neg;split<;>simp
theorem WideAt.pos {a:Addr} {w:World} (h:WideAt a w):0<w.heap.size:=by
 rcases Nat.lt_or_ge 0 w.heap.size with h0|h1
 ·exact h0
 ·simp[WideAt,World.cell?,Array.getElem?_eq_none h1] at h
theorem WideAt.below {a:Addr} {w w':World} (h:WideAt a w) (hb:Below w.heap.size w w'):WideAt a w':=(hb.cell (p:=⟨0,0,none⟩) h.pos).trans h
def fBad (da db:Nat) (sc:Int):Bool:=decide (31<max da db)||(decide (0<min da db)&&decide (sc < -10))
theorem sd_end {w W:World} {a:Nat} {x y u v:Value} {T:TypeId} (hb:Below w.heap.size w W) (ha:w.heap.size≤a) (h:W.heap[a]? = some (.cells #[x,y] T (0,0))) :
  Below w.heap.size w ((W.setCell ⟨a,0,none⟩ u).setCell ⟨a,1,none⟩ v)∧((W.setCell ⟨a,0,none⟩ u).setCell ⟨a,1,none⟩ v).heap[a]? = some (.cells #[u,v] T (0,0))∧Upd (fun k=>k=a) W ((W.setCell ⟨a,0,none⟩ u).setCell ⟨a,1,none⟩ v):=by
 have hu:Upd (fun k=>k=a) W ((W.setCell ⟨a,0,none⟩ u).setCell ⟨a,1,none⟩ v):=(Upd.set W ⟨a,0,none⟩ u).trans (Upd.set _ ⟨a,1,none⟩ v)
 have h1:(W.setCell ⟨a,0,none⟩ u).heap[a]? = some (.cells #[u,y] T (0,0)):=row_set h 0 u
 have h2:((W.setCell ⟨a,0,none⟩ u).setCell ⟨a,1,none⟩ v).heap[a]? = some (.cells #[u,v] T (0,0)):=row_set h1 1 v
 exact ⟨hb.trans (hu.below hb.size (fun k _ hk=>by have hk:k=a:=hk;omega)),h2,hu⟩
theorem load_sd {w:World} {g:Nat} {cs:Array Value} (hg:w.heap[g]? = some (.cells cs 68 (0,0))) (hc:cs.size=2):(loadVar 68 ⟨g,0,none⟩).run Tryd.prog w = .ok (.agg cs) w :=
 run_loadVar_row w g 68 68 cs (0,0) _ hg Tryd.underlying68 rfl (by rw[hc];kernel_rfl)
def width (ps:List Pt):Int:=(efold (0,0) (allP ps)).2 - (efold (0,0) (allP ps)).1
def wide (ps qs:List Pt) (most:Int):Bool:=decide (most<width ps)||decide (most<width qs)
def FatPost (x y:Sd) (da db:Nat) (most sc:Int) (lim:Nat) (ew:Value) (w:World) (E:Ending) (w':World):Prop:=Below w.heap.size w w'∧∃ S v,E = .returned (.tuple #[S,v]) ∧
 ((fBad da db sc=true∧S = .agg #[.slice none 0 0,.slice none 0 0]∧EC w' v 9) ∨
 (fBad da db sc=false∧wide (x.pos da++y.pos db) (x.neg da++y.neg db) most=true∧S = .agg #[.slice none 0 0,.slice none 0 0]∧v=ew) ∨
 (fBad da db sc=false∧wide (x.pos da++y.pos db) (x.neg da++y.neg db) most=false∧v = .nilIface∧∃ v1 v2,S = .agg #[v1,v2]∧SdAt lim v1 (x.pos da++y.pos db) w'∧SdAt lim v2 (x.neg da++y.neg db) w'∧(∀ k,v1.ownBlock=some k→w.heap.size≤k)∧(∀ k,v2.ownBlock=some k→w.heap.size≤k)))
theorem fitat_any (x y:Sd) (c1 c2:List Value) (most sc:Int) (da db:Nat) (ew:Addr) (w:World) (hew:Hid (WideAt ew w)) (lim:Nat) (hlim:lim≤w.heap.size) (h1:Hid (TkP x c1 lim w)) (h2:Hid (TkP y c2 lim w)) (hda:x.sc - sc=(da:Int)) (hdb:y.sc - sc=(db:Int)) (hd1:da≤4294967400) (hd2:db≤4294967400) (hsx : -2147483648≤x.sc∧x.sc≤2147483647) (hsy : -2147483648≤y.sc∧y.sc≤2147483647) (hm:1≤most∧most≤1000000) (hok:Hid (da≤31→db≤31→(∀ p∈x.pos da++y.pos db,p.Ok)∧(∀ p∈x.neg da++y.neg db,p.Ok))) :
  Calls Tryd.prog 42 #[.agg c1.toArray,.agg c2.toArray,.int .i64 most,.int .i64 sc] w (FatPost x y da db most sc lim (.iface 165 (.pointer (some ew))) w):=by
 have HL1:=Lib.hid h1.out.len
 have HL2:=Lib.hid h2.out.len
 have kka:IntKind.i64.wrap (x.sc - sc)=(da:Int):=by rw[hda];exact i64_wrap_id (by omega) (by omega)
 have kkb:IntKind.i64.wrap (y.sc - sc)=(db:Int):=by rw[hdb];exact i64_wrap_id (by omega) (by omega)
 obtain ⟨B,HB⟩:∃ b,Hid (w.heap.size=b):=⟨_,Lib.hid rfl⟩
 obtain ⟨W,HW⟩:∃ X,Hid (((w.alloc (.cells c1.toArray 32)).alloc (.cells c2.toArray 32)).alloc (.cells #[.slice none 0 0,.slice none 0 0] 68)=X):=⟨_,Lib.hid rfl⟩
 have HBW:Hid (Below w.heap.size w W):=Lib.hid (by rw[←HW.out];exact ((below_new _ _).alloc (by simp) _).alloc (by simp;omega) _)
 have HA:Hid (W.heap[B]? = some (.cells c1.toArray 32 (0,0))):=Lib.hid (by rw[←HW.out,←HB.out];exact (Below.heap_alloc _ _ _ (by simp;omega)).trans ((Below.heap_alloc _ _ _ (by simp)).trans (heap_alloc_new w _)))
 have HAB:Hid (W.heap[B+1]? = some (.cells c2.toArray 32 (0,0))):=Lib.hid (by rw[←HW.out,←HB.out];exact (Below.heap_alloc _ _ _ (by simp)).trans (by rw[←World.size_alloc w (.cells c1.toArray 32)];exact heap_alloc_new (w.alloc _) _))
 have HR:Hid (W.heap[B+2]? = some (.cells #[.slice none 0 0,.slice none 0 0] 68 (0,0))):=Lib.hid (by rw[←HW.out,←HB.out];rw[show w.heap.size+2=((w.alloc (.cells c1.toArray 32)).alloc (.cells c2.toArray 32)).heap.size by rw[World.size_alloc,World.size_alloc]];exact heap_alloc_new ((w.alloc _).alloc _) _)
 have HSZ:Hid (W.heap.size=B+3):=Lib.hid (by rw[←HW.out,←HB.out];rw[World.size_alloc,World.size_alloc,World.size_alloc])
 have HLB:Hid (lim≤B):=Lib.hid (by rw[←HB.out];exact hlim)
 go_enter Tryd.func42,Tryd.ntmps42
 go_upto_region 1 with fail
 rw[show w.heap.size+1+1=w.heap.size+2 from rfl,HW.out,HB.out]
 have ca:W.cell? ⟨B,10,none⟩=some (.int .i32 x.sc):=row_cell HA.out h1.out.scale
 have cb:W.cell? ⟨B+1,10,none⟩=some (.int .i32 y.sc):=row_cell HAB.out h2.out.scale
 go_quiet (fail)
 obtain ⟨D,HD⟩:∃ D,Hid (W.drewN nq=D):=⟨_,Lib.hid rfl⟩
 rw[HD.out]
 have HBD:Hid (Below w.heap.size w D):=Lib.hid (by rw[←HD.out];exact HBW.out.trans ⟨rfl,rfl,rfl,Nat.le_refl _,fun _ _=>rfl⟩)
 have HAD:Hid (D.heap[B]? = some (.cells c1.toArray 32 (0,0))):=Lib.hid (by rw[←HD.out];exact HA.out)
 have HABD:Hid (D.heap[B+1]? = some (.cells c2.toArray 32 (0,0))):=Lib.hid (by rw[←HD.out];exact HAB.out)
 have HRD:Hid (D.heap[B+2]? = some (.cells #[.slice none 0 0,.slice none 0 0] 68 (0,0))):=Lib.hid (by rw[←HD.out];exact HR.out)
 have HSD:Hid (D.heap.size=B+3):=Lib.hid (by rw[←HD.out];exact HSZ.out)
 clear HA HAB HR HSZ HBW HD ca cb HW kka kkb
 have fzd:∀ k,D.frozen? ⟨B+2,k,none⟩=false:=row_thaw HRD.out
 by_cases k1:(31:Int)<max (da:Int) (db:Int)
 ·have dk1:decide ((31:Int)<max (da:Int) (db:Int))=true:=decide_eq_true k1
  have HBAD:Hid (fBad da db sc=true):=Lib.hid (by unfold fBad;simp;omega)
  clear k1
  go_wp2_with fail
  refine (in_any 6 _ _ D).mono ?_;rintro E w3 ⟨rfl,hw3⟩
  have hn3:Below D.heap.size D w3:=by rw[hw3];exact below_new _ _
  have HB3:Hid (Below w.heap.size w w3):=Lib.hid (below_step HBD.out hn3)
  have HR3:=Lib.hid ((hn3.block _ (row_lt HRD.out)).trans HRD.out)
  have HF3:Hid (w3.heap[D.heap.size]? = some (.cells #[.int .i64 6,.iface 59 (.int .i64 9)] 99 (0,0))):=Lib.hid (by rw[hw3];exact heap_alloc_new D _)
  rw[HSD.out] at HF3 ⊢
  clear hn3 hw3 fzd
  have hz0:w3.frozen? ⟨B+2,0,none⟩=false:=row_thaw HR3.out 0
  have hz1:w3.frozen? ⟨B+2,1,none⟩=false:=row_thaw HR3.out 1
  have ha0:w3.cell? ⟨B+2,0,none⟩=some (.slice none 0 0):=row_cell HR3.out (j:=0) rfl
  have ha1:w3.cell? ⟨B+2,1,none⟩=some (.slice none 0 0):=row_cell HR3.out (j:=1) rfl
  go_wp2_with fail
  (try simp only[Exit.inBlock,Exit.then])
  have HZ:=sd_end (u := .slice none 0 0) (v := .slice none 0 0) HB3.out (by have:=HB.out;omega) HR3.out
  refine body_cell2v rfl rfl (load_sd HZ.2.1 rfl) rfl ?_
  exact ⟨HZ.1,_,_,rfl,.inl ⟨HBAD.out,rfl,field_ec ((HZ.2.2.block _ (row_lt HF3.out) (by omega)).trans HF3.out)⟩⟩
 ·have dk1:decide ((31:Int)<max (da:Int) (db:Int))=false:=decide_eq_false k1
  by_cases k2:(0:Int)<min (da:Int) (db:Int)
  ·have dk2:decide ((0:Int)<min (da:Int) (db:Int))=true:=decide_eq_true k2
   by_cases k3:sc < -10
   ·have dk3:decide (sc < -10)=true:=decide_eq_true k3
    have HBAD:Hid (fBad da db sc=true):=Lib.hid (by unfold fBad;simp;omega)
    clear k1 k2 k3
    go_wp2_with fail
    refine (in_any 6 _ _ D).mono ?_;rintro E w3 ⟨rfl,hw3⟩
    have hn3:Below D.heap.size D w3:=by rw[hw3];exact below_new _ _
    have HB3:Hid (Below w.heap.size w w3):=Lib.hid (below_step HBD.out hn3)
    have HR3:=Lib.hid ((hn3.block _ (row_lt HRD.out)).trans HRD.out)
    have HF3:Hid (w3.heap[D.heap.size]? = some (.cells #[.int .i64 6,.iface 59 (.int .i64 9)] 99 (0,0))):=Lib.hid (by rw[hw3];exact heap_alloc_new D _)
    rw[HSD.out] at HF3 ⊢
    clear hn3 hw3 fzd
    have hz0:w3.frozen? ⟨B+2,0,none⟩=false:=row_thaw HR3.out 0
    have hz1:w3.frozen? ⟨B+2,1,none⟩=false:=row_thaw HR3.out 1
    have ha0:w3.cell? ⟨B+2,0,none⟩=some (.slice none 0 0):=row_cell HR3.out (j:=0) rfl
    have ha1:w3.cell? ⟨B+2,1,none⟩=some (.slice none 0 0):=row_cell HR3.out (j:=1) rfl
    go_wp2_with fail
    (try simp only[Exit.inBlock,Exit.then])
    have HZ:=sd_end (u := .slice none 0 0) (v := .slice none 0 0) HB3.out (by have:=HB.out;omega) HR3.out
    refine body_cell2v rfl rfl (load_sd HZ.2.1 rfl) rfl ?_
    exact ⟨HZ.1,_,_,rfl,.inl ⟨HBAD.out,rfl,field_ec ((HZ.2.2.block _ (row_lt HF3.out) (by omega)).trans HF3.out)⟩⟩
   ·have dk3:decide (sc < -10)=false:=decide_eq_false k3
    have HBAD:Hid (fBad da db sc=false):=Lib.hid (by unfold fBad;simp;omega)
    have HDA:Hid (da≤31∧db≤31):=Lib.hid (by omega)
    clear k1 k2 k3
    go_upto_region 5 with fail
    obtain ⟨D1,HD1w⟩:∃ X,Hid (D.alloc (.cells #[.slice none 0 0,.slice none 0 0] 68)=X):=⟨_,Lib.hid rfl⟩
    rw[HD1w.out,HSD.out]
    have hn1:Below D.heap.size D D1:=by rw[←HD1w.out];exact below_new _ _
    have HB1:Hid (Below w.heap.size w D1):=Lib.hid (below_step HBD.out hn1)
    have HA0:=Lib.hid ((hn1.block _ (row_lt HAD.out)).trans HAD.out)
    have HA1:=Lib.hid ((hn1.block _ (row_lt HABD.out)).trans HABD.out)
    have HR1:=Lib.hid ((hn1.block _ (row_lt HRD.out)).trans HRD.out)
    have HSZ1:Hid (B+4≤D1.heap.size):=Lib.hid (by rw[←HD1w.out,World.size_alloc,HSD.out];omega)
    have HT1:Hid (TkP x c1 lim D1):=Lib.hid (h1.out.upd (S:=fun _=>False) (Upd.of_new HB1.out) (fun _ h=>h.elim) (Nat.le_refl _))
    have HS1:Hid (SidesAt D1 (B+3) lim [] []):=Lib.hid ⟨_,_,by rw[←HD1w.out,←HSD.out];exact heap_alloc_new D _,SdAt.nil _ _,SdAt.nil _ _,fun k h=>by simp[Value.ownBlock] at h,fun k h=>by simp[Value.ownBlock] at h,by have:=HLB.out;omega⟩
    clear hn1 HD1w fzd HBD HAD HABD HRD
    go_upto_region 5 with fail
    refine wp_region_lit ?_
    refine wpList_load_mid rfl 32 (.tmp 4) rfl B 0 rfl c1 _ (range_rowf HA0.out) Tryd.underlying32 rfl (by rw[HL1.out];kernel_rfl) ?_
    refine wpList_plain rfl (fun K hK=>?_);go_simp;refine hK _ _ ?_;clear hK K
    refine wpList_plain rfl (fun K hK=>?_);go_simp
    refine (tk_any x c1 da (B+3) lim [] [] D1 (by have:=HSZ1.out;have:=HLB.out;omega) (by simp) (by simp) HS1 HT1).mono ?_;rintro E w1 ⟨rfl,hu,hs⟩
    go_simp
    refine hK _ _ ?_;clear hK K
    have hwu:Below w.heap.size w w1:=HB1.out.trans (hu.below (by have:=HSZ1.out;have:=HB.out;omega) (fun k _ hk=>by have:=HB.out;have hk:B+3≤k:=hk;omega))
    have HB2:=Lib.hid hwu
    have HA2:=Lib.hid ((hu.block _ (row_lt HA1.out) (fun h=>by have h:B+3≤B+1:=h;omega)).trans HA1.out)
    have HR2:=Lib.hid ((hu.block _ (row_lt HR1.out) (fun h=>by have h:B+3≤B+2:=h;omega)).trans HR1.out)
    have HSZ2:Hid (B+4≤w1.heap.size):=Lib.hid (by have:=HSZ1.out;have:=hu.size;omega)
    have HT2:Hid (TkP y c2 lim w1):=Lib.hid (h2.out.upd (S:=fun _=>False) (Upd.of_new hwu) (fun _ h=>h.elim) (Nat.le_refl _))
    (try simp only[List.nil_append] at hs)
    have HS2:=Lib.hid hs
    clear hu hs hwu
    go_upto_region 6 with fail
    refine wp_region_lit ?_
    refine wpList_load_mid rfl 32 (.tmp 5) rfl (B+1) 0 rfl c2 _ (range_rowf HA2.out) Tryd.underlying32 rfl (by rw[HL2.out];kernel_rfl) ?_
    refine wpList_plain rfl (fun K hK=>?_);go_simp;refine hK _ _ ?_;clear hK K
    refine wpList_plain rfl (fun K hK=>?_);go_simp
    refine (tk_any y c2 db (B+3) lim (x.pos da) (x.neg da) w1 (by have:=HSZ2.out;have:=HLB.out;omega) (by have:=x.pos_len da;omega) (by have:=x.neg_len da;omega) HS2 HT2).mono ?_;rintro E w2 ⟨rfl,hu,hs⟩
    go_simp
    refine hK _ _ ?_;clear hK K
    have hwu:Below w.heap.size w w2:=HB2.out.trans (hu.below (by have:=HSZ2.out;have:=HB.out;omega) (fun k _ hk=>by have:=HB.out;have hk:B+3≤k:=hk;omega))
    have HB3:=Lib.hid hwu
    have HA3:=Lib.hid ((hu.block _ (row_lt HA2.out) (fun h=>by have h:B+3≤B+1:=h;omega)).trans HA2.out)
    have HR3:=Lib.hid ((hu.block _ (row_lt HR2.out) (fun h=>by have h:B+3≤B+2:=h;omega)).trans HR2.out)
    have HSZ3:Hid (B+4≤w2.heap.size):=Lib.hid (by have:=HSZ2.out;have:=hu.size;omega)
    have HT3:Hid (TkP y c2 lim w2):=Lib.hid (h2.out.upd (S:=fun _=>False) (Upd.of_new hwu) (fun _ h=>h.elim) (Nat.le_refl _))
    (try simp only[List.nil_append] at hs)
    have HS3:=Lib.hid hs
    clear hu hs hwu
    go_upto_region 7 with fail
    obtain ⟨P1,HP1⟩:∃ P,Hid (x.pos da++y.pos db=P):=⟨_,Lib.hid rfl⟩
    obtain ⟨P2,HP2⟩:∃ P,Hid (x.neg da++y.neg db=P):=⟨_,Lib.hid rfl⟩
    rw[HP1.out,HP2.out] at HS3
    have HOK:=Lib.hid (hok.out HDA.out.1 HDA.out.2)
    rw[HP1.out,HP2.out] at HOK
    have HLN:Hid (P1.length≤2∧P2.length≤2):=Lib.hid (by
     rw[←HP1.out,←HP2.out,List.length_append,List.length_append]
     have a1:=x.pos_len da
     have a2:=y.pos_len db
     have a3:=x.neg_len da
     have a4:=y.neg_len db
     omega)
    obtain ⟨tp,tn,hrow,hsp,hsn,hd1,hd2,-⟩:=HS3.out
    obtain ⟨lo1,cp1,rfl⟩:=hsp.slice
    obtain ⟨lo2,cp2,rfl⟩:=hsn.slice
    have HSP:=Lib.hid hsp
    have HSN:=Lib.hid hsn
    have HRW:=Lib.hid hrow
    have HD1:=Lib.hid hd1
    have HD2:=Lib.hid hd2
    clear hd1 hd2 hrow hsp hsn HS1 HS2 HS3 HA0 HA1 HA2 HA3 HR1 HR2 HT1 HT2 HT3 HB1 HB2 HSZ1 HSZ2
    obtain ⟨⟨f1,t1⟩,HE1⟩:∃ p,Hid (efold (0,0) (allP P1)=p):=⟨_,Lib.hid rfl⟩
    obtain ⟨⟨f2,t2⟩,HE2⟩:∃ p,Hid (efold (0,0) (allP P2)=p):=⟨_,Lib.hid rfl⟩
    have cs0:w2.cell? ⟨B+3,0,none⟩=some (.slice lo1 P1.length cp1):=row_cell HRW.out (j:=0) rfl
    have cs1:w2.cell? ⟨B+3,1,none⟩=some (.slice lo2 P2.length cp2):=row_cell HRW.out (j:=1) rfl
    go_wp2_with fail
    obtain ⟨q,HQN⟩:∃ b,Hid (w2.heap.size=b):=⟨_,Lib.hid rfl⟩
    obtain ⟨w3,HW3⟩:∃ X,Hid (w2.alloc (.cells #[.slice lo1 P1.length cp1,.slice lo2 P2.length cp2] 66)=X):=⟨_,Lib.hid rfl⟩
    rw[HW3.out,HQN.out]
    have hn3:Below w2.heap.size w2 w3:=by rw[←HW3.out];exact below_new _ _
    have HB4:=Lib.hid (below_step HB3.out hn3)
    have HQ:Hid (w3.heap[q]? = some (.cells #[.slice lo1 P1.length cp1,.slice lo2 P2.length cp2] 66 (0,0))):=Lib.hid (by rw[←HW3.out,←HQN.out];exact heap_alloc_new w2 _)
    have HRW3:=Lib.hid ((hn3.block _ (row_lt HRW.out)).trans HRW.out)
    have HRR3:=Lib.hid ((hn3.block _ (row_lt HR3.out)).trans HR3.out)
    have HSP3:=Lib.hid (HSP.out.upd (Upd.of_new (S:=fun _=>False) hn3) (fun _ h=>h.elim) (fun _ _ h=>h))
    have HSN3:=Lib.hid (HSN.out.upd (Upd.of_new (S:=fun _=>False) hn3) (fun _ h=>h.elim) (fun _ _ h=>h))
    have HQ1:Hid (PartsAt w3 lo1 P1):=Lib.hid HSP3.out.parts
    have HQ2:Hid (PartsAt w3 lo2 P2):=Lib.hid HSN3.out.parts
    clear hn3 HW3 HRW HR3 HSP HSN cs0 cs1 HB3 HSZ3
    go_loopg [56] 2 (fun k i wr=>∃ j:Nat,i = .int .i64 (j:Int)∧j+k=2∧Hid (Below w3.heap.size w3 wr)∧Hid ((1≤j→¬most<t1 - f1)∧(2≤j→¬most<t2 - f2)))
    case atStart=>exact ⟨0,rfl,by omega,Lib.hid (Below.refl _ _),Lib.hid (by omega)⟩
    case round =>
     obtain ⟨j,rfl,hj,HBR,HWJ⟩:=hrel
     have hj3:j=0∨j=1∨j=2:=by omega
     rcases hj3 with rfl|rfl|rfl
     ·have hqr:=(HBR.out.block _ (row_lt HQ.out)).trans HQ.out
      have hcq:wr.cell? ⟨q,0,none⟩=some (.slice lo1 P1.length cp1):=row_cell hqr (j:=0) rfl
      have hpa:Hid (PartsAt wr lo1 P1):=Lib.hid (PartsAt.below HQ1.out HBR.out)
      clear hqr
      go_wp2_with fail
      refine (ends_any P1 lo1 cp1 wr (by have:=HLN.out;omega) (Lib.hid HOK.out.1) hpa HE1).mono ?_;rintro E v1 ⟨rfl,hb⟩
      have HB5:=Lib.hid (below_step HBR.out hb)
      clear hb hcq
      have hbd:=ends_bound HOK.out.1 HE1.out
      have kkw:IntKind.i64.wrap (t1 - f1)=t1 - f1:=i64_wrap_id (by omega) (by omega)
      have kmw:IntKind.i64.wrap most=most:=i64_wrap_id (by omega) (by omega)
      clear hbd
      by_cases kw:most<t1 - f1
      ·have dkw:decide (most<t1 - f1)=true:=decide_eq_true kw
       have HWD:Hid (wide P1 P2 most=true):=Lib.hid (by unfold wide width;rw[HE1.out,HE2.out];simp;omega)
       clear kw
       go_upto_region 12 with fail
       obtain ⟨D2,HDD⟩:∃ D,Hid (v1.drew=D):=⟨_,Lib.hid rfl⟩
       have hbv:Below w.heap.size w v1:=below_step HB4.out HB5.out
       have hR:D2.heap[B+2]? = some (.cells #[.slice none 0 0,.slice none 0 0] 68 (0,0)):=by rw[←HDD.out];exact (HB5.out.block _ (row_lt HRR3.out)).trans HRR3.out
       have hS:WideAt ew D2:=by rw[←HDD.out];exact (hew.out.below hbv:WideAt ew v1)
       have HBV:Hid (Below w.heap.size w D2):=Lib.hid (by rw[←HDD.out];exact hbv.trans ⟨rfl,rfl,rfl,Nat.le_refl _,fun _ _=>rfl⟩)
       have hne:Nonempty {w':World // WideAt ew w'}:=⟨⟨_,hS⟩⟩
       have l0:∀ t:{w':World // WideAt ew w'},t.1.cell? ⟨0,0,none⟩=some (.iface 165 (.pointer (some ew))):=fun t=>t.2
       refine wp_region_seqB (WideAt ew) [] [(0,true),(1,true),(2,false),(3,false)] (by kernel_rfl) (by kernel_rfl) (by kernel_rfl) (by kernel_rfl) ?_
       rw[HDD.out]
       iterate 2 (refine seqB_take _ rfl hS (fun KC hK=>?_);go_simp;(first|refine hK _ ?_|refine ⟨_,fun _ _=>rfl,hK _ ?_⟩);clear hK KC)
       have hz0:D2.frozen? ⟨B+2,0,none⟩=false:=row_thaw hR 0
       have hz1:D2.frozen? ⟨B+2,1,none⟩=false:=row_thaw hR 1
       have ha0:D2.cell? ⟨B+2,0,none⟩=some (.slice none 0 0):=row_cell hR (j:=0) rfl
       have ha1:D2.cell? ⟨B+2,1,none⟩=some (.slice none 0 0):=row_cell hR (j:=1) rfl
       have HZ:=sd_end (u := .slice none 0 0) (v := .slice none 0 0) HBV.out (by have:=HB.out;omega) hR
       have hS4:WideAt ew ((D2.setCell ⟨B+2,0,none⟩ (.slice none 0 0)).setCell ⟨B+2,1,none⟩ (.slice none 0 0)):=(HZ.2.2.cell (a:=⟨0,0,none⟩) (by have:=HBV.out.size;have:=hew.out.pos;show 0<_;omega) (by show ¬(0=B+2);have:=hew.out.pos;have:=HB.out;omega)).trans hS
       iterate 2 (refine seqB_come _ rfl (fun KC hK=>?_);go_simp;refine hK.out _ _ (fun _=>hS4) ?_;clear hK KC)
       refine seqB_done ?_
       go_wp2_with fail
       (try simp only[Exit.inBlock,Exit.then])
       refine body_cell2v rfl rfl (load_sd HZ.2.1 rfl) rfl ?_
       exact ⟨HZ.1,_,_,rfl,.inr (.inl ⟨HBAD.out,by rw[HP1.out,HP2.out];exact HWD.out,rfl,rfl⟩)⟩
      ·have dkw:decide (most<t1 - f1)=false:=decide_eq_false kw
       go_wp2_with fail
       go_roundg (gk - 1)
       case measure=>omega
       case rel=>exact ⟨1,rfl,by omega,HB5,Lib.hid (by have:=HWJ.out;omega)⟩
     ·have hqr:=(HBR.out.block _ (row_lt HQ.out)).trans HQ.out
      have hcq:wr.cell? ⟨q,1,none⟩=some (.slice lo2 P2.length cp2):=row_cell hqr (j:=1) rfl
      have hpa:Hid (PartsAt wr lo2 P2):=Lib.hid (PartsAt.below HQ2.out HBR.out)
      clear hqr
      go_wp2_with fail
      refine (ends_any P2 lo2 cp2 wr (by have:=HLN.out;omega) (Lib.hid HOK.out.2) hpa HE2).mono ?_;rintro E v1 ⟨rfl,hb⟩
      have HB5:=Lib.hid (below_step HBR.out hb)
      clear hb hcq
      have hbd:=ends_bound HOK.out.2 HE2.out
      have kkw:IntKind.i64.wrap (t2 - f2)=t2 - f2:=i64_wrap_id (by omega) (by omega)
      have kmw:IntKind.i64.wrap most=most:=i64_wrap_id (by omega) (by omega)
      clear hbd
      by_cases kw:most<t2 - f2
      ·have dkw:decide (most<t2 - f2)=true:=decide_eq_true kw
       have HWD:Hid (wide P1 P2 most=true):=Lib.hid (by unfold wide width;rw[HE1.out,HE2.out];simp;omega)
       clear kw
       go_upto_region 12 with fail
       obtain ⟨D2,HDD⟩:∃ D,Hid (v1.drew=D):=⟨_,Lib.hid rfl⟩
       have hbv:Below w.heap.size w v1:=below_step HB4.out HB5.out
       have hR:D2.heap[B+2]? = some (.cells #[.slice none 0 0,.slice none 0 0] 68 (0,0)):=by rw[←HDD.out];exact (HB5.out.block _ (row_lt HRR3.out)).trans HRR3.out
       have hS:WideAt ew D2:=by rw[←HDD.out];exact (hew.out.below hbv:WideAt ew v1)
       have HBV:Hid (Below w.heap.size w D2):=Lib.hid (by rw[←HDD.out];exact hbv.trans ⟨rfl,rfl,rfl,Nat.le_refl _,fun _ _=>rfl⟩)
       have hne:Nonempty {w':World // WideAt ew w'}:=⟨⟨_,hS⟩⟩
       have l0:∀ t:{w':World // WideAt ew w'},t.1.cell? ⟨0,0,none⟩=some (.iface 165 (.pointer (some ew))):=fun t=>t.2
       refine wp_region_seqB (WideAt ew) [] [(0,true),(1,true),(2,false),(3,false)] (by kernel_rfl) (by kernel_rfl) (by kernel_rfl) (by kernel_rfl) ?_
       rw[HDD.out]
       iterate 2 (refine seqB_take _ rfl hS (fun KC hK=>?_);go_simp;(first|refine hK _ ?_|refine ⟨_,fun _ _=>rfl,hK _ ?_⟩);clear hK KC)
       have hz0:D2.frozen? ⟨B+2,0,none⟩=false:=row_thaw hR 0
       have hz1:D2.frozen? ⟨B+2,1,none⟩=false:=row_thaw hR 1
       have ha0:D2.cell? ⟨B+2,0,none⟩=some (.slice none 0 0):=row_cell hR (j:=0) rfl
       have ha1:D2.cell? ⟨B+2,1,none⟩=some (.slice none 0 0):=row_cell hR (j:=1) rfl
       have HZ:=sd_end (u := .slice none 0 0) (v := .slice none 0 0) HBV.out (by have:=HB.out;omega) hR
       have hS4:WideAt ew ((D2.setCell ⟨B+2,0,none⟩ (.slice none 0 0)).setCell ⟨B+2,1,none⟩ (.slice none 0 0)):=(HZ.2.2.cell (a:=⟨0,0,none⟩) (by have:=HBV.out.size;have:=hew.out.pos;show 0<_;omega) (by show ¬(0=B+2);have:=hew.out.pos;have:=HB.out;omega)).trans hS
       iterate 2 (refine seqB_come _ rfl (fun KC hK=>?_);go_simp;refine hK.out _ _ (fun _=>hS4) ?_;clear hK KC)
       refine seqB_done ?_
       go_wp2_with fail
       (try simp only[Exit.inBlock,Exit.then])
       refine body_cell2v rfl rfl (load_sd HZ.2.1 rfl) rfl ?_
       exact ⟨HZ.1,_,_,rfl,.inr (.inl ⟨HBAD.out,by rw[HP1.out,HP2.out];exact HWD.out,rfl,rfl⟩)⟩
      ·have dkw:decide (most<t2 - f2)=false:=decide_eq_false kw
       go_wp2_with fail
       go_roundg (gk - 1)
       case measure=>omega
       case rel=>exact ⟨2,rfl,by omega,HB5,Lib.hid (by have:=HWJ.out;omega)⟩
     ·have HWD:Hid (wide P1 P2 most=false):=Lib.hid (by have:=HWJ.out;unfold wide width;rw[HE1.out,HE2.out];simp;omega)
      have HR5:=Lib.hid ((HBR.out.block _ (row_lt HRR3.out)).trans HRR3.out)
      have HS5:=Lib.hid ((HBR.out.block _ (row_lt HRW3.out)).trans HRW3.out)
      have hz0:wr.frozen? ⟨B+2,0,none⟩=false:=row_thaw HR5.out 0
      have hz1:wr.frozen? ⟨B+2,1,none⟩=false:=row_thaw HR5.out 1
      have ha0:wr.cell? ⟨B+2,0,none⟩=some (.slice none 0 0):=row_cell HR5.out (j:=0) rfl
      have ha1:wr.cell? ⟨B+2,1,none⟩=some (.slice none 0 0):=row_cell HR5.out (j:=1) rfl
      have hb0:wr.cell? ⟨B+3,0,none⟩=some (.slice lo1 P1.length cp1):=row_cell HS5.out (j:=0) rfl
      have hb1:wr.cell? ⟨B+3,1,none⟩=some (.slice lo2 P2.length cp2):=row_cell HS5.out (j:=1) rfl
      go_wp2_with fail
      (try simp only[Exit.inBlock,Exit.then])
      have hbw:Below w.heap.size w wr:=below_step HB4.out HBR.out
      have HZ:=sd_end (u := .slice lo1 P1.length cp1) (v := .slice lo2 P2.length cp2) hbw (by have:=HB.out;omega) HR5.out
      refine body_cell2v rfl rfl (load_sd HZ.2.1 rfl) rfl ?_
      have hsd:∀ {v:Value} {P:List Pt},(∀ k,v.ownBlock=some k→B+3<k)→SdAt lim v P w3→SdAt lim v P ((wr.setCell ⟨B+2,0,none⟩ (.slice lo1 P1.length cp1)).setCell ⟨B+2,1,none⟩ (.slice lo2 P2.length cp2)):=fun hv h=>(h.upd (Upd.of_new (S:=fun _=>False) HBR.out) (fun _ h=>h.elim) (fun _ _ h=>h)).upd HZ.2.2 (fun k hk=>by have hk:k=B+2:=hk;have:=HLB.out;omega) (fun k hk h=>by have:=hv k hk;have h:k=B+2:=h;omega)
      refine ⟨HZ.1,_,_,rfl,.inr (.inr ⟨HBAD.out,?_,rfl,_,_,rfl,?_,?_,fun k hk=>by have:=(HD1.out k hk).1;have:=HB.out;omega,fun k hk=>by have:=HD2.out k hk;have:=HB.out;omega⟩)⟩
      ·rw[HP1.out,HP2.out];exact HWD.out
      ·rw[HP1.out];exact hsd (fun k hk=>(HD1.out k hk).1) HSP3.out
      ·rw[HP2.out];exact hsd HD2.out HSN3.out
  ·have dk2:decide ((0:Int)<min (da:Int) (db:Int))=false:=decide_eq_false k2
   have HBAD:Hid (fBad da db sc=false):=Lib.hid (by unfold fBad;simp;omega)
   have HDA:Hid (da≤31∧db≤31):=Lib.hid (by omega)
   clear k1 k2
   go_upto_region 5 with fail
   obtain ⟨D1,HD1w⟩:∃ X,Hid (D.alloc (.cells #[.slice none 0 0,.slice none 0 0] 68)=X):=⟨_,Lib.hid rfl⟩
   rw[HD1w.out,HSD.out]
   have hn1:Below D.heap.size D D1:=by rw[←HD1w.out];exact below_new _ _
   have HB1:Hid (Below w.heap.size w D1):=Lib.hid (below_step HBD.out hn1)
   have HA0:=Lib.hid ((hn1.block _ (row_lt HAD.out)).trans HAD.out)
   have HA1:=Lib.hid ((hn1.block _ (row_lt HABD.out)).trans HABD.out)
   have HR1:=Lib.hid ((hn1.block _ (row_lt HRD.out)).trans HRD.out)
   have HSZ1:Hid (B+4≤D1.heap.size):=Lib.hid (by rw[←HD1w.out,World.size_alloc,HSD.out];omega)
   have HT1:Hid (TkP x c1 lim D1):=Lib.hid (h1.out.upd (S:=fun _=>False) (Upd.of_new HB1.out) (fun _ h=>h.elim) (Nat.le_refl _))
   have HS1:Hid (SidesAt D1 (B+3) lim [] []):=Lib.hid ⟨_,_,by rw[←HD1w.out,←HSD.out];exact heap_alloc_new D _,SdAt.nil _ _,SdAt.nil _ _,fun k h=>by simp[Value.ownBlock] at h,fun k h=>by simp[Value.ownBlock] at h,by have:=HLB.out;omega⟩
   clear hn1 HD1w fzd HBD HAD HABD HRD
   go_upto_region 5 with fail
   refine wp_region_lit ?_
   refine wpList_load_mid rfl 32 (.tmp 4) rfl B 0 rfl c1 _ (range_rowf HA0.out) Tryd.underlying32 rfl (by rw[HL1.out];kernel_rfl) ?_
   refine wpList_plain rfl (fun K hK=>?_);go_simp;refine hK _ _ ?_;clear hK K
   refine wpList_plain rfl (fun K hK=>?_);go_simp
   refine (tk_any x c1 da (B+3) lim [] [] D1 (by have:=HSZ1.out;have:=HLB.out;omega) (by simp) (by simp) HS1 HT1).mono ?_;rintro E w1 ⟨rfl,hu,hs⟩
   go_simp
   refine hK _ _ ?_;clear hK K
   have hwu:Below w.heap.size w w1:=HB1.out.trans (hu.below (by have:=HSZ1.out;have:=HB.out;omega) (fun k _ hk=>by have:=HB.out;have hk:B+3≤k:=hk;omega))
   have HB2:=Lib.hid hwu
   have HA2:=Lib.hid ((hu.block _ (row_lt HA1.out) (fun h=>by have h:B+3≤B+1:=h;omega)).trans HA1.out)
   have HR2:=Lib.hid ((hu.block _ (row_lt HR1.out) (fun h=>by have h:B+3≤B+2:=h;omega)).trans HR1.out)
   have HSZ2:Hid (B+4≤w1.heap.size):=Lib.hid (by have:=HSZ1.out;have:=hu.size;omega)
   have HT2:Hid (TkP y c2 lim w1):=Lib.hid (h2.out.upd (S:=fun _=>False) (Upd.of_new hwu) (fun _ h=>h.elim) (Nat.le_refl _))
   (try simp only[List.nil_append] at hs)
   have HS2:=Lib.hid hs
   clear hu hs hwu
   go_upto_region 6 with fail
   refine wp_region_lit ?_
   refine wpList_load_mid rfl 32 (.tmp 5) rfl (B+1) 0 rfl c2 _ (range_rowf HA2.out) Tryd.underlying32 rfl (by rw[HL2.out];kernel_rfl) ?_
   refine wpList_plain rfl (fun K hK=>?_);go_simp;refine hK _ _ ?_;clear hK K
   refine wpList_plain rfl (fun K hK=>?_);go_simp
   refine (tk_any y c2 db (B+3) lim (x.pos da) (x.neg da) w1 (by have:=HSZ2.out;have:=HLB.out;omega) (by have:=x.pos_len da;omega) (by have:=x.neg_len da;omega) HS2 HT2).mono ?_;rintro E w2 ⟨rfl,hu,hs⟩
   go_simp
   refine hK _ _ ?_;clear hK K
   have hwu:Below w.heap.size w w2:=HB2.out.trans (hu.below (by have:=HSZ2.out;have:=HB.out;omega) (fun k _ hk=>by have:=HB.out;have hk:B+3≤k:=hk;omega))
   have HB3:=Lib.hid hwu
   have HA3:=Lib.hid ((hu.block _ (row_lt HA2.out) (fun h=>by have h:B+3≤B+1:=h;omega)).trans HA2.out)
   have HR3:=Lib.hid ((hu.block _ (row_lt HR2.out) (fun h=>by have h:B+3≤B+2:=h;omega)).trans HR2.out)
   have HSZ3:Hid (B+4≤w2.heap.size):=Lib.hid (by have:=HSZ2.out;have:=hu.size;omega)
   have HT3:Hid (TkP y c2 lim w2):=Lib.hid (h2.out.upd (S:=fun _=>False) (Upd.of_new hwu) (fun _ h=>h.elim) (Nat.le_refl _))
   (try simp only[List.nil_append] at hs)
   have HS3:=Lib.hid hs
   clear hu hs hwu
   go_upto_region 7 with fail
   obtain ⟨P1,HP1⟩:∃ P,Hid (x.pos da++y.pos db=P):=⟨_,Lib.hid rfl⟩
   obtain ⟨P2,HP2⟩:∃ P,Hid (x.neg da++y.neg db=P):=⟨_,Lib.hid rfl⟩
   rw[HP1.out,HP2.out] at HS3
   have HOK:=Lib.hid (hok.out HDA.out.1 HDA.out.2)
   rw[HP1.out,HP2.out] at HOK
   have HLN:Hid (P1.length≤2∧P2.length≤2):=Lib.hid (by
    rw[←HP1.out,←HP2.out,List.length_append,List.length_append]
    have a1:=x.pos_len da
    have a2:=y.pos_len db
    have a3:=x.neg_len da
    have a4:=y.neg_len db
    omega)
   obtain ⟨tp,tn,hrow,hsp,hsn,hd1,hd2,-⟩:=HS3.out
   obtain ⟨lo1,cp1,rfl⟩:=hsp.slice
   obtain ⟨lo2,cp2,rfl⟩:=hsn.slice
   have HSP:=Lib.hid hsp
   have HSN:=Lib.hid hsn
   have HRW:=Lib.hid hrow
   have HD1:=Lib.hid hd1
   have HD2:=Lib.hid hd2
   clear hd1 hd2 hrow hsp hsn HS1 HS2 HS3 HA0 HA1 HA2 HA3 HR1 HR2 HT1 HT2 HT3 HB1 HB2 HSZ1 HSZ2
   obtain ⟨⟨f1,t1⟩,HE1⟩:∃ p,Hid (efold (0,0) (allP P1)=p):=⟨_,Lib.hid rfl⟩
   obtain ⟨⟨f2,t2⟩,HE2⟩:∃ p,Hid (efold (0,0) (allP P2)=p):=⟨_,Lib.hid rfl⟩
   have cs0:w2.cell? ⟨B+3,0,none⟩=some (.slice lo1 P1.length cp1):=row_cell HRW.out (j:=0) rfl
   have cs1:w2.cell? ⟨B+3,1,none⟩=some (.slice lo2 P2.length cp2):=row_cell HRW.out (j:=1) rfl
   go_wp2_with fail
   obtain ⟨q,HQN⟩:∃ b,Hid (w2.heap.size=b):=⟨_,Lib.hid rfl⟩
   obtain ⟨w3,HW3⟩:∃ X,Hid (w2.alloc (.cells #[.slice lo1 P1.length cp1,.slice lo2 P2.length cp2] 66)=X):=⟨_,Lib.hid rfl⟩
   rw[HW3.out,HQN.out]
   have hn3:Below w2.heap.size w2 w3:=by rw[←HW3.out];exact below_new _ _
   have HB4:=Lib.hid (below_step HB3.out hn3)
   have HQ:Hid (w3.heap[q]? = some (.cells #[.slice lo1 P1.length cp1,.slice lo2 P2.length cp2] 66 (0,0))):=Lib.hid (by rw[←HW3.out,←HQN.out];exact heap_alloc_new w2 _)
   have HRW3:=Lib.hid ((hn3.block _ (row_lt HRW.out)).trans HRW.out)
   have HRR3:=Lib.hid ((hn3.block _ (row_lt HR3.out)).trans HR3.out)
   have HSP3:=Lib.hid (HSP.out.upd (Upd.of_new (S:=fun _=>False) hn3) (fun _ h=>h.elim) (fun _ _ h=>h))
   have HSN3:=Lib.hid (HSN.out.upd (Upd.of_new (S:=fun _=>False) hn3) (fun _ h=>h.elim) (fun _ _ h=>h))
   have HQ1:Hid (PartsAt w3 lo1 P1):=Lib.hid HSP3.out.parts
   have HQ2:Hid (PartsAt w3 lo2 P2):=Lib.hid HSN3.out.parts
   clear hn3 HW3 HRW HR3 HSP HSN cs0 cs1 HB3 HSZ3
   go_loopg [56] 2 (fun k i wr=>∃ j:Nat,i = .int .i64 (j:Int)∧j+k=2∧Hid (Below w3.heap.size w3 wr)∧Hid ((1≤j→¬most<t1 - f1)∧(2≤j→¬most<t2 - f2)))
   case atStart=>exact ⟨0,rfl,by omega,Lib.hid (Below.refl _ _),Lib.hid (by omega)⟩
   case round =>
    obtain ⟨j,rfl,hj,HBR,HWJ⟩:=hrel
    have hj3:j=0∨j=1∨j=2:=by omega
    rcases hj3 with rfl|rfl|rfl
    ·have hqr:=(HBR.out.block _ (row_lt HQ.out)).trans HQ.out
     have hcq:wr.cell? ⟨q,0,none⟩=some (.slice lo1 P1.length cp1):=row_cell hqr (j:=0) rfl
     have hpa:Hid (PartsAt wr lo1 P1):=Lib.hid (PartsAt.below HQ1.out HBR.out)
     clear hqr
     go_wp2_with fail
     refine (ends_any P1 lo1 cp1 wr (by have:=HLN.out;omega) (Lib.hid HOK.out.1) hpa HE1).mono ?_;rintro E v1 ⟨rfl,hb⟩
     have HB5:=Lib.hid (below_step HBR.out hb)
     clear hb hcq
     have hbd:=ends_bound HOK.out.1 HE1.out
     have kkw:IntKind.i64.wrap (t1 - f1)=t1 - f1:=i64_wrap_id (by omega) (by omega)
     have kmw:IntKind.i64.wrap most=most:=i64_wrap_id (by omega) (by omega)
     clear hbd
     by_cases kw:most<t1 - f1
     ·have dkw:decide (most<t1 - f1)=true:=decide_eq_true kw
      have HWD:Hid (wide P1 P2 most=true):=Lib.hid (by unfold wide width;rw[HE1.out,HE2.out];simp;omega)
      clear kw
      go_upto_region 12 with fail
      obtain ⟨D2,HDD⟩:∃ D,Hid (v1.drew=D):=⟨_,Lib.hid rfl⟩
      have hbv:Below w.heap.size w v1:=below_step HB4.out HB5.out
      have hR:D2.heap[B+2]? = some (.cells #[.slice none 0 0,.slice none 0 0] 68 (0,0)):=by rw[←HDD.out];exact (HB5.out.block _ (row_lt HRR3.out)).trans HRR3.out
      have hS:WideAt ew D2:=by rw[←HDD.out];exact (hew.out.below hbv:WideAt ew v1)
      have HBV:Hid (Below w.heap.size w D2):=Lib.hid (by rw[←HDD.out];exact hbv.trans ⟨rfl,rfl,rfl,Nat.le_refl _,fun _ _=>rfl⟩)
      have hne:Nonempty {w':World // WideAt ew w'}:=⟨⟨_,hS⟩⟩
      have l0:∀ t:{w':World // WideAt ew w'},t.1.cell? ⟨0,0,none⟩=some (.iface 165 (.pointer (some ew))):=fun t=>t.2
      refine wp_region_seqB (WideAt ew) [] [(0,true),(1,true),(2,false),(3,false)] (by kernel_rfl) (by kernel_rfl) (by kernel_rfl) (by kernel_rfl) ?_
      rw[HDD.out]
      iterate 2 (refine seqB_take _ rfl hS (fun KC hK=>?_);go_simp;(first|refine hK _ ?_|refine ⟨_,fun _ _=>rfl,hK _ ?_⟩);clear hK KC)
      have hz0:D2.frozen? ⟨B+2,0,none⟩=false:=row_thaw hR 0
      have hz1:D2.frozen? ⟨B+2,1,none⟩=false:=row_thaw hR 1
      have ha0:D2.cell? ⟨B+2,0,none⟩=some (.slice none 0 0):=row_cell hR (j:=0) rfl
      have ha1:D2.cell? ⟨B+2,1,none⟩=some (.slice none 0 0):=row_cell hR (j:=1) rfl
      have HZ:=sd_end (u := .slice none 0 0) (v := .slice none 0 0) HBV.out (by have:=HB.out;omega) hR
      have hS4:WideAt ew ((D2.setCell ⟨B+2,0,none⟩ (.slice none 0 0)).setCell ⟨B+2,1,none⟩ (.slice none 0 0)):=(HZ.2.2.cell (a:=⟨0,0,none⟩) (by have:=HBV.out.size;have:=hew.out.pos;show 0<_;omega) (by show ¬(0=B+2);have:=hew.out.pos;have:=HB.out;omega)).trans hS
      iterate 2 (refine seqB_come _ rfl (fun KC hK=>?_);go_simp;refine hK.out _ _ (fun _=>hS4) ?_;clear hK KC)
      refine seqB_done ?_
      go_wp2_with fail
      (try simp only[Exit.inBlock,Exit.then])
      refine body_cell2v rfl rfl (load_sd HZ.2.1 rfl) rfl ?_
      exact ⟨HZ.1,_,_,rfl,.inr (.inl ⟨HBAD.out,by rw[HP1.out,HP2.out];exact HWD.out,rfl,rfl⟩)⟩
     ·have dkw:decide (most<t1 - f1)=false:=decide_eq_false kw
      go_wp2_with fail
      go_roundg (gk - 1)
      case measure=>omega
      case rel=>exact ⟨1,rfl,by omega,HB5,Lib.hid (by have:=HWJ.out;omega)⟩
    ·have hqr:=(HBR.out.block _ (row_lt HQ.out)).trans HQ.out
     have hcq:wr.cell? ⟨q,1,none⟩=some (.slice lo2 P2.length cp2):=row_cell hqr (j:=1) rfl
     have hpa:Hid (PartsAt wr lo2 P2):=Lib.hid (PartsAt.below HQ2.out HBR.out)
     clear hqr
     go_wp2_with fail
     refine (ends_any P2 lo2 cp2 wr (by have:=HLN.out;omega) (Lib.hid HOK.out.2) hpa HE2).mono ?_;rintro E v1 ⟨rfl,hb⟩
     have HB5:=Lib.hid (below_step HBR.out hb)
     clear hb hcq
     have hbd:=ends_bound HOK.out.2 HE2.out
     have kkw:IntKind.i64.wrap (t2 - f2)=t2 - f2:=i64_wrap_id (by omega) (by omega)
     have kmw:IntKind.i64.wrap most=most:=i64_wrap_id (by omega) (by omega)
     clear hbd
     by_cases kw:most<t2 - f2
     ·have dkw:decide (most<t2 - f2)=true:=decide_eq_true kw
      have HWD:Hid (wide P1 P2 most=true):=Lib.hid (by unfold wide width;rw[HE1.out,HE2.out];simp;omega)
      clear kw
      go_upto_region 12 with fail
      obtain ⟨D2,HDD⟩:∃ D,Hid (v1.drew=D):=⟨_,Lib.hid rfl⟩
      have hbv:Below w.heap.size w v1:=below_step HB4.out HB5.out
      have hR:D2.heap[B+2]? = some (.cells #[.slice none 0 0,.slice none 0 0] 68 (0,0)):=by rw[←HDD.out];exact (HB5.out.block _ (row_lt HRR3.out)).trans HRR3.out
      have hS:WideAt ew D2:=by rw[←HDD.out];exact (hew.out.below hbv:WideAt ew v1)
      have HBV:Hid (Below w.heap.size w D2):=Lib.hid (by rw[←HDD.out];exact hbv.trans ⟨rfl,rfl,rfl,Nat.le_refl _,fun _ _=>rfl⟩)
      have hne:Nonempty {w':World // WideAt ew w'}:=⟨⟨_,hS⟩⟩
      have l0:∀ t:{w':World // WideAt ew w'},t.1.cell? ⟨0,0,none⟩=some (.iface 165 (.pointer (some ew))):=fun t=>t.2
      refine wp_region_seqB (WideAt ew) [] [(0,true),(1,true),(2,false),(3,false)] (by kernel_rfl) (by kernel_rfl) (by kernel_rfl) (by kernel_rfl) ?_
      rw[HDD.out]
      iterate 2 (refine seqB_take _ rfl hS (fun KC hK=>?_);go_simp;(first|refine hK _ ?_|refine ⟨_,fun _ _=>rfl,hK _ ?_⟩);clear hK KC)
      have hz0:D2.frozen? ⟨B+2,0,none⟩=false:=row_thaw hR 0
      have hz1:D2.frozen? ⟨B+2,1,none⟩=false:=row_thaw hR 1
      have ha0:D2.cell? ⟨B+2,0,none⟩=some (.slice none 0 0):=row_cell hR (j:=0) rfl
      have ha1:D2.cell? ⟨B+2,1,none⟩=some (.slice none 0 0):=row_cell hR (j:=1) rfl
      have HZ:=sd_end (u := .slice none 0 0) (v := .slice none 0 0) HBV.out (by have:=HB.out;omega) hR
      have hS4:WideAt ew ((D2.setCell ⟨B+2,0,none⟩ (.slice none 0 0)).setCell ⟨B+2,1,none⟩ (.slice none 0 0)):=(HZ.2.2.cell (a:=⟨0,0,none⟩) (by have:=HBV.out.size;have:=hew.out.pos;show 0<_;omega) (by show ¬(0=B+2);have:=hew.out.pos;have:=HB.out;omega)).trans hS
      iterate 2 (refine seqB_come _ rfl (fun KC hK=>?_);go_simp;refine hK.out _ _ (fun _=>hS4) ?_;clear hK KC)
      refine seqB_done ?_
      go_wp2_with fail
      (try simp only[Exit.inBlock,Exit.then])
      refine body_cell2v rfl rfl (load_sd HZ.2.1 rfl) rfl ?_
      exact ⟨HZ.1,_,_,rfl,.inr (.inl ⟨HBAD.out,by rw[HP1.out,HP2.out];exact HWD.out,rfl,rfl⟩)⟩
     ·have dkw:decide (most<t2 - f2)=false:=decide_eq_false kw
      go_wp2_with fail
      go_roundg (gk - 1)
      case measure=>omega
      case rel=>exact ⟨2,rfl,by omega,HB5,Lib.hid (by have:=HWJ.out;omega)⟩
    ·have HWD:Hid (wide P1 P2 most=false):=Lib.hid (by have:=HWJ.out;unfold wide width;rw[HE1.out,HE2.out];simp;omega)
     have HR5:=Lib.hid ((HBR.out.block _ (row_lt HRR3.out)).trans HRR3.out)
     have HS5:=Lib.hid ((HBR.out.block _ (row_lt HRW3.out)).trans HRW3.out)
     have hz0:wr.frozen? ⟨B+2,0,none⟩=false:=row_thaw HR5.out 0
     have hz1:wr.frozen? ⟨B+2,1,none⟩=false:=row_thaw HR5.out 1
     have ha0:wr.cell? ⟨B+2,0,none⟩=some (.slice none 0 0):=row_cell HR5.out (j:=0) rfl
     have ha1:wr.cell? ⟨B+2,1,none⟩=some (.slice none 0 0):=row_cell HR5.out (j:=1) rfl
     have hb0:wr.cell? ⟨B+3,0,none⟩=some (.slice lo1 P1.length cp1):=row_cell HS5.out (j:=0) rfl
     have hb1:wr.cell? ⟨B+3,1,none⟩=some (.slice lo2 P2.length cp2):=row_cell HS5.out (j:=1) rfl
     go_wp2_with fail
     (try simp only[Exit.inBlock,Exit.then])
     have hbw:Below w.heap.size w wr:=below_step HB4.out HBR.out
     have HZ:=sd_end (u := .slice lo1 P1.length cp1) (v := .slice lo2 P2.length cp2) hbw (by have:=HB.out;omega) HR5.out
     refine body_cell2v rfl rfl (load_sd HZ.2.1 rfl) rfl ?_
     have hsd:∀ {v:Value} {P:List Pt},(∀ k,v.ownBlock=some k→B+3<k)→SdAt lim v P w3→SdAt lim v P ((wr.setCell ⟨B+2,0,none⟩ (.slice lo1 P1.length cp1)).setCell ⟨B+2,1,none⟩ (.slice lo2 P2.length cp2)):=fun hv h=>(h.upd (Upd.of_new (S:=fun _=>False) HBR.out) (fun _ h=>h.elim) (fun _ _ h=>h)).upd HZ.2.2 (fun k hk=>by have hk:k=B+2:=hk;have:=HLB.out;omega) (fun k hk h=>by have:=hv k hk;have h:k=B+2:=h;omega)
     refine ⟨HZ.1,_,_,rfl,.inr (.inr ⟨HBAD.out,?_,rfl,_,_,rfl,?_,?_,fun k hk=>by have:=(HD1.out k hk).1;have:=HB.out;omega,fun k hk=>by have:=HD2.out k hk;have:=HB.out;omega⟩)⟩
     ·rw[HP1.out,HP2.out];exact HWD.out
     ·rw[HP1.out];exact hsd (fun k hk=>(HD1.out k hk).1) HSP3.out
     ·rw[HP2.out];exact hsd HD2.out HSN3.out
end Go.Proofs.YtoggpnfeioaidaaDoor
