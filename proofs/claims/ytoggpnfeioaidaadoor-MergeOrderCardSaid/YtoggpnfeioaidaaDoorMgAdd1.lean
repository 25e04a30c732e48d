/-
  MgEnds, MgAdd1
-/
import Derived.Test.YtoggpnfeioaidaaDoorMgEach
import Derived.Test.YtoggpnfeioaidaaDoorOrd
import Derived.Lib.MinMax
import Derived.Shelf.Abstract
import Derived.Test.YtoggpnfeioaidaaDoorErrNew
import Derived.Test.YtoggpnfeioaidaaDoorMsgRead
set_option maxRecDepth 1000000
set_option maxHeartbeats 16000000
namespace Go.Proofs.YtoggpnfeioaidaaDoor
open Go.RowKit
def mgest (s:Int × Int) (p:Int):Int × Int:=(min (if s.1=s.2 then p else s.1) p,max (if s.1=s.2 then p+1 else s.2) (p+1))
def EnRow (a b:Nat) (f t:Int) (w':World):Prop:=w'.heap[a]? = some (.cells #[.int .i64 f] 2 (0,0))∧w'.heap[b]? = some (.cells #[.int .i64 t] 2 (0,0))
theorem end1_any (f t p:Int) (n:Nat) (a b:Nat) (hab:a≠b) (w:World) (hp : -1099511627776≤p∧p≤1099511627776) (HR:Hid (EnRow a b f t w)) :
  Calls Tryd.prog 60 #[.int .i64 p,.int .u64 (n:Int),.pointer (some ⟨a,0,none⟩),.pointer (some ⟨b,0,none⟩)] w fun e w'=>e = .returned (.tuple #[])∧Upd (fun k=>k=a∨k=b) w w'∧EnRow a b (mgest (f,t) p).1 (mgest (f,t) p).2 w':=by
 have q1:IntKind.i64.wrap (p+1)=p+1:=IntWalk.i64_in _ (by omega)
 have hc0:w.cell? ⟨a,0,none⟩=some (.int .i64 f):=row_cell HR.out.1 (j:=0) rfl
 have hc1:w.cell? ⟨b,0,none⟩=some (.int .i64 t):=row_cell HR.out.2 (j:=0) rfl
 have hf0:w.frozen? ⟨a,0,none⟩=false:=row_thaw HR.out.1 0
 have hf1:w.frozen? ⟨b,0,none⟩=false:=row_thaw HR.out.2 0
 have hba:b≠a:=fun e=>hab e.symm
 by_cases hft:f=t
 ·have e1:(f == t)=true:=beq_iff_eq.2 hft
  have HE:Hid (mgest (f,t) p=(min p p,max (p+1) (p+1))):=Lib.hid (by show (min (if f=t then p else f) p,max (if f=t then p+1 else t) (p+1))=_;rw[if_pos hft,if_pos hft])
  clear hft
  go_enter Tryd.func60,Tryd.ntmps60
  go_upto_region 2 with fail
  clear hc0 hc1 hf0 hf1
  obtain ⟨w1,hw1⟩:∃ X,(w.setCell ⟨a,0,none⟩ (.int .i64 p)).setCell ⟨b,0,none⟩ (.int .i64 (p+1))=X:=⟨_,rfl⟩
  have HUP:Hid (Upd (fun k=>k=a∨k=b) w w1):=Lib.hid (by rw[←hw1];exact ((Upd.set w ⟨a,0,none⟩ _).mono fun k _ h => .inl h).trans ((Upd.set _ ⟨b,0,none⟩ _).mono fun k _ h => .inr h))
  obtain ⟨p1,hp1⟩:∃ p1,p+1=p1:=⟨_,rfl⟩
  obtain ⟨p0,hp0⟩:∃ p0,p0=p:=⟨_,rfl⟩
  have HRW:Hid (EnRow a b p0 p1 w1):=Lib.hid (by
   rw[←hw1,hp1,hp0]
   have h0:=row_set HR.out.1 0 (.int .i64 p)
   have h1:=((Upd.set w ⟨a,0,none⟩ (.int .i64 p)).block b (row_lt HR.out.2) (fun e=>hab e.symm)).trans HR.out.2
   have h2:=row_set h1 0 (.int .i64 p1)
   exact ⟨((Upd.set _ ⟨b,0,none⟩ (.int .i64 p1)).block a (row_lt h0) (fun e=>hab e)).trans h0,h2⟩)
  have HE0:Hid ((mgest (f,t) p).1=min p0 p):=Lib.hid (by rw[HE.out,hp0])
  have HE1:Hid ((mgest (f,t) p).2=max p1 (p+1)):=Lib.hid (by rw[HE.out,hp1])
  rw[hw1]
  clear hw1
  have HP1:=Lib.hid hp1
  have HP0:=Lib.hid hp0
  clear hp1 hp0
  obtain ⟨D,hD⟩:∃ D,w1.drew=D:=⟨_,rfl⟩
  have HUD:Hid (Upd (fun k=>k=a∨k=b) w D):=Lib.hid (by rw[←hD];exact HUP.out.trans (Upd.drew _ _))
  have hSa:D.heap[a]? = some (.cells #[.int .i64 p0] 2 (0,0)):=by rw[←hD];exact HRW.out.1
  have hS:D.heap[b]? = some (.cells #[.int .i64 p1] 2 (0,0)):=by rw[←hD];exact HRW.out.2
  have hne:Nonempty {w':World // w'.heap[b]? = some (.cells #[.int .i64 p1] 2 (0,0))}:=⟨⟨_,hS⟩⟩
  have hl1:∀ s:{w':World // w'.heap[b]? = some (.cells #[.int .i64 p1] 2 (0,0))},s.1.cell? ⟨b,0,none⟩=some (.int .i64 p1):=fun s=>row_cell s.2 (j:=0) rfl
  refine wp_region_seqB (fun w'=>w'.heap[b]? = some (.cells #[.int .i64 p1] 2 (0,0))) [8] [(1,true),(3,true),(4,true),(5,true),(6,true),(0,false),(2,false),(7,false),(8,false)] (by kernel_rfl) (by kernel_rfl) (by kernel_rfl) (by kernel_rfl) ?_
  rw[hD]
  clear hD
  iterate 5 (refine seqB_take _ rfl hS (fun KC hK=>?_);go_simp;(first|refine hK _ ?_|refine ⟨_,fun _ _=>rfl,hK _ ?_⟩);clear hK KC)
  clear hl1 hne
  obtain ⟨V1,HV1⟩:∃ V,Hid (max p1 (p+1)=V):=⟨_,Lib.hid rfl⟩
  rw[HV1.out]
  have hca:D.cell? ⟨a,0,none⟩=some (.int .i64 p0):=row_cell hSa (j:=0) rfl
  have hfa:D.frozen? ⟨a,0,none⟩=false:=row_thaw hSa 0
  refine seqB_come _ rfl (fun KC hK=>?_);go_simp
  refine hK.out _ _ (fun _=>hS) ?_;clear hK KC
  refine seqB_come _ rfl (fun KC hK=>?_);go_simp
  refine hK.out _ _ (fun _=>hS) ?_;clear hK KC
  obtain ⟨V0,HV0⟩:∃ V,Hid (min p0 p=V):=⟨_,Lib.hid rfl⟩
  rw[HV0.out]
  obtain ⟨D1,hD1⟩:∃ X,D.setCell ⟨a,0,none⟩ (.int .i64 V0)=X:=⟨_,rfl⟩
  have hu1:Upd (fun k=>k=a) D D1:=by rw[←hD1];exact Upd.set D ⟨a,0,none⟩ _
  have hra:D1.heap[a]? = some (.cells #[.int .i64 V0] 2 (0,0)):=by rw[←hD1];exact row_set hSa 0 _
  have hrb:D1.heap[b]? = some (.cells #[.int .i64 p1] 2 (0,0)):=(hu1.block b (row_lt hS) (fun e=>hab e.symm)).trans hS
  refine seqB_come _ rfl (fun KC hK=>?_);go_simp
  try rw[hD1]
  refine hK.out _ _ (fun _=>hrb) ?_;clear hK KC hca hfa hD1
  have hcb:D1.cell? ⟨b,0,none⟩=some (.int .i64 p1):=row_cell hrb (j:=0) rfl
  have hfb:D1.frozen? ⟨b,0,none⟩=false:=row_thaw hrb 0
  refine seqB_come _ rfl (fun KC hK=>?_);go_simp
  refine hK.out _ _ (fun h=>by cases h) ?_;clear hK KC hcb hfb
  refine seqB_done ?_
  have hu2:=Upd.set D1 ⟨b,0,none⟩ (.int .i64 V1)
  go_wp2_with fail
  go_end0
  refine ⟨rfl,(HUD.out.trans (hu1.mono fun k _ h => .inl h)).trans (hu2.mono fun k _ h => .inr h),?_,?_⟩
  ·rw[HE0.out,HV0.out];exact (hu2.block a (row_lt hra) (fun e=>hab e)).trans hra
  ·rw[HE1.out,HV1.out];exact row_set hrb 0 _
 ·have e1:(f == t)=false:=beq_eq_false_iff_ne.2 hft
  have HE0:Hid ((mgest (f,t) p).1=min f p):=Lib.hid (by show min (if f=t then p else f) p=_;rw[if_neg hft])
  have HE1:Hid ((mgest (f,t) p).2=max t (p+1)):=Lib.hid (by show max (if f=t then p+1 else t) (p+1)=_;rw[if_neg hft])
  have HUP:Hid (Upd (fun k=>k=a∨k=b) w w):=Lib.hid (Upd.refl _ _)
  have HRW:=HR
  clear hft
  go_enter Tryd.func60,Tryd.ntmps60
  go_upto_region 2 with fail
  clear hc0 hc1 hf0 hf1
  obtain ⟨D,hD⟩:∃ D,w.drew=D:=⟨_,rfl⟩
  have HUD:Hid (Upd (fun k=>k=a∨k=b) w D):=Lib.hid (by rw[←hD];exact HUP.out.trans (Upd.drew _ _))
  have hSa:D.heap[a]? = some (.cells #[.int .i64 f] 2 (0,0)):=by rw[←hD];exact HRW.out.1
  have hS:D.heap[b]? = some (.cells #[.int .i64 t] 2 (0,0)):=by rw[←hD];exact HRW.out.2
  have hne:Nonempty {w':World // w'.heap[b]? = some (.cells #[.int .i64 t] 2 (0,0))}:=⟨⟨_,hS⟩⟩
  have hl1:∀ s:{w':World // w'.heap[b]? = some (.cells #[.int .i64 t] 2 (0,0))},s.1.cell? ⟨b,0,none⟩=some (.int .i64 t):=fun s=>row_cell s.2 (j:=0) rfl
  refine wp_region_seqB (fun w'=>w'.heap[b]? = some (.cells #[.int .i64 t] 2 (0,0))) [8] [(1,true),(3,true),(4,true),(5,true),(6,true),(0,false),(2,false),(7,false),(8,false)] (by kernel_rfl) (by kernel_rfl) (by kernel_rfl) (by kernel_rfl) ?_
  rw[hD]
  clear hD
  iterate 5 (refine seqB_take _ rfl hS (fun KC hK=>?_);go_simp;(first|refine hK _ ?_|refine ⟨_,fun _ _=>rfl,hK _ ?_⟩);clear hK KC)
  clear hl1 hne
  obtain ⟨V1,HV1⟩:∃ V,Hid (max t (p+1)=V):=⟨_,Lib.hid rfl⟩
  rw[HV1.out]
  have hca:D.cell? ⟨a,0,none⟩=some (.int .i64 f):=row_cell hSa (j:=0) rfl
  have hfa:D.frozen? ⟨a,0,none⟩=false:=row_thaw hSa 0
  refine seqB_come _ rfl (fun KC hK=>?_);go_simp
  refine hK.out _ _ (fun _=>hS) ?_;clear hK KC
  refine seqB_come _ rfl (fun KC hK=>?_);go_simp
  refine hK.out _ _ (fun _=>hS) ?_;clear hK KC
  obtain ⟨V0,HV0⟩:∃ V,Hid (min f p=V):=⟨_,Lib.hid rfl⟩
  rw[HV0.out]
  obtain ⟨D1,hD1⟩:∃ X,D.setCell ⟨a,0,none⟩ (.int .i64 V0)=X:=⟨_,rfl⟩
  have hu1:Upd (fun k=>k=a) D D1:=by rw[←hD1];exact Upd.set D ⟨a,0,none⟩ _
  have hra:D1.heap[a]? = some (.cells #[.int .i64 V0] 2 (0,0)):=by rw[←hD1];exact row_set hSa 0 _
  have hrb:D1.heap[b]? = some (.cells #[.int .i64 t] 2 (0,0)):=(hu1.block b (row_lt hS) (fun e=>hab e.symm)).trans hS
  refine seqB_come _ rfl (fun KC hK=>?_);go_simp
  try rw[hD1]
  refine hK.out _ _ (fun _=>hrb) ?_;clear hK KC hca hfa hD1
  have hcb:D1.cell? ⟨b,0,none⟩=some (.int .i64 t):=row_cell hrb (j:=0) rfl
  have hfb:D1.frozen? ⟨b,0,none⟩=false:=row_thaw hrb 0
  refine seqB_come _ rfl (fun KC hK=>?_);go_simp
  refine hK.out _ _ (fun h=>by cases h) ?_;clear hK KC hcb hfb
  refine seqB_done ?_
  have hu2:=Upd.set D1 ⟨b,0,none⟩ (.int .i64 V1)
  go_wp2_with fail
  go_end0
  refine ⟨rfl,(HUD.out.trans (hu1.mono fun k _ h => .inl h)).trans (hu2.mono fun k _ h => .inr h),?_,?_⟩
  ·rw[HE0.out,HV0.out];exact (hu2.block a (row_lt hra) (fun e=>hab e)).trans hra
  ·rw[HE1.out,HV1.out];exact row_set hrb 0 _
theorem pl_bound {x:Pt} (h:x.Ok) {i:Nat} (hi:i≤1000000) : -2147483648≤x.pl i∧x.pl i≤2149483648:=by
 have hp:(0:Int)<2 ^ x.sh:=Int.pow_pos (by omega)
 have h1:(1:Int)≤2 ^ x.sh:=by omega
 have hl:=h.lo
 have hh:=h.hi
 unfold Pt.pl
 constructor
 ·rw[Int.le_ediv_iff_mul_le hp]
  generalize (2:Int) ^ x.sh=B at h1 hp
  omega
 ·have h2:(x.off+(i:Int)) / 2 ^ x.sh<2149483649:=by
   rw[Int.ediv_lt_iff_lt_mul hp]
   generalize (2:Int) ^ x.sh=B at h1 hp
   omega
  omega
def PartsAt (w:World) (ao:Option Addr) (ps:List Pt):Prop:=∀ j (hj:j<ps.length),∃ g off bo cap U,ao=some ⟨g,off,none⟩∧g<w.heap.size∧w.cell? ⟨g,off+j * 4,none⟩=some (.int .i32 ps[j].off)∧w.cell? ⟨g,off+j * 4+1,none⟩=some (.slice bo ps[j].cs.length cap)∧w.cell? ⟨g,off+j * 4+2,none⟩=some (.string U)∧w.cell? ⟨g,off+j * 4+3,none⟩=some (.int .i64 (ps[j].sh:Int))∧Nats .u64 w bo ps[j].cs
theorem PartsAt.below {w w':World} {ao:Option Addr} {ps:List Pt} (h:PartsAt w ao ps) (hb:Below w.heap.size w w'):PartsAt w' ao ps:=fun j hj=>by
 obtain ⟨g,off,bo,cap,U,e,hg,h0,h1,h2,h3,h4⟩:=h j hj
 exact ⟨g,off,bo,cap,U,e,Nat.lt_of_lt_of_le hg hb.size,(hb.cell (p:=⟨g,off+j * 4,none⟩) hg).trans h0,(hb.cell (p:=⟨g,off+j * 4+1,none⟩) hg).trans h1,(hb.cell (p:=⟨g,off+j * 4+2,none⟩) hg).trans h2,(hb.cell (p:=⟨g,off+j * 4+3,none⟩) hg).trans h3,h4.below hb⟩
def allP (ps:List Pt):List (Int × Nat):=ps.flatMap fun x=>x.pls x.cs.length
theorem allP_take {ps:List Pt} {j:Nat} (h:j<ps.length):allP (ps.take (j+1))=allP (ps.take j)++ps[j].pls ps[j].cs.length:=by
 unfold allP
 rw[List.take_succ_eq_append_getElem h,List.flatMap_append];simp
def efold (s:Int × Int) (l:List (Int × Nat)):Int × Int:=l.foldl (fun s p=>mgest s p.1) s
theorem efold_app (s:Int × Int) (a b:List (Int × Nat)):efold s (a++b)=efold (efold s a) b:=by unfold efold;rw[List.foldl_append]
theorem ends_any (ps:List Pt) (ao:Option Addr) (cap:Nat) (w:World) (hps:ps.length≤1000) (hok:Hid (∀ x∈ps,x.Ok)) (hp:Hid (PartsAt w ao ps)) {f t:Int} (hr:Hid (efold (0,0) (allP ps)=(f,t))) :
  Calls Tryd.prog 39 #[.slice ao ps.length cap] w fun e w'=>e = .returned (.tuple #[.int .i64 f,.int .i64 t])∧Below w.heap.size w w':=by
 have HE:=enters_of Tryd.func60 (by kernel_rfl) rfl
 obtain ⟨a,ha⟩:∃ a,w.heap.size=a:=⟨_,rfl⟩
 obtain ⟨b,hb⟩:∃ b,w.heap.size+1=b:=⟨_,rfl⟩
 obtain ⟨W,hW⟩:∃ W,(w.alloc (.cells #[.int .i64 0] 2)).alloc (.cells #[.int .i64 0] 2)=W:=⟨_,rfl⟩
 have HBW:Hid (Below w.heap.size w W):=Lib.hid (by rw[←hW];exact below_step (below_new _ _) (below_new _ _))
 have HRW:Hid (EnRow a b 0 0 W):=Lib.hid (by
  rw[←hW,←ha,←hb]
  refine ⟨(Below.heap_alloc _ _ _ (by simp)).trans (heap_alloc_new w _),?_⟩
  have h:=heap_alloc_new (w.alloc (.cells #[.int .i64 0] 2)) (.cells #[.int .i64 0] 2)
  rw[show (w.alloc (.cells #[.int .i64 0] 2)).heap.size=w.heap.size+1 by simp] at h
  exact h)
 have hab:a≠b:=by omega
 have HAW:Hid (w.heap.size=a∧w.heap.size+1=b):=Lib.hid ⟨ha,hb⟩
 have HW:=Lib.hid hW
 have HA:=Lib.hid ha
 have HB:=Lib.hid hb
 clear hW ha hb
 go_enter Tryd.func39,Tryd.ntmps39
 go_upto_region 2 with fail
 rw[HW.out,HB.out,HA.out]
 go_wp2_with fail
 go_loopg [10] ps.length (fun k i wr=>∃ (j:Nat) (f0 t0:Int),i = .int .i64 (j:Int)∧j+k=ps.length∧Hid (Below w.heap.size w wr)∧Hid (EnRow a b f0 t0 wr)∧Hid (efold (0,0) (allP (ps.take j))=(f0,t0)))
 case atStart=>exact ⟨0,0,0,rfl,by omega,HBW,HRW,Lib.hid rfl⟩
 case round =>
  obtain ⟨j,f0,t0,rfl,hj,HBR,HRR,HEF⟩:=hrel
  have HJ:=Lib.hid hj
  clear hj
  by_cases hlt:j<ps.length
  ·obtain ⟨g,off,bo,cp,U,rfl,hg,h0,h1,h2,h3,h4⟩:=hp.out j hlt
   obtain ⟨x,hx⟩:∃ x,ps[j]=x:=⟨_,rfl⟩
   have HOKX:Hid x.Ok:=Lib.hid (hok.out x (hx ▸ List.getElem_mem hlt))
   have HEX:Hid (efold (0,0) (allP (ps.take (j+1)))=efold (f0,t0) (x.pls x.cs.length)):=Lib.hid (by rw[allP_take hlt,efold_app,HEF.out,hx])
   rw[hx] at h0 h1 h3 h4
   have H4:=Lib.hid h4
   have k0:=(HBR.out.cell (p:=⟨g,off+j * 4,none⟩) hg).trans h0
   have k1:=(HBR.out.cell (p:=⟨g,off+j * 4+1,none⟩) hg).trans h1
   have k2:=(HBR.out.cell (p:=⟨g,off+j * 4+2,none⟩) hg).trans h2
   have k3:=(HBR.out.cell (p:=⟨g,off+j * 4+3,none⟩) hg).trans h3
   have hxl:=HOKX.out.len
   clear hx h0 h1 h2 h3 h4
   go_wp2_with fail
   obtain ⟨wq,hwq⟩:∃ X,wr.alloc (.cells #[.int .i32 x.off,.slice bo x.cs.length cp,.string U,.int .i64 (x.sh:Int)] 65)=X:=⟨_,rfl⟩
   rw[hwq]
   have HBQ:Hid (Below w.heap.size w wq):=Lib.hid (below_step HBR.out (by rw[←hwq];exact below_new _ _))
   have HRQ:Hid (EnRow a b f0 t0 wq):=Lib.hid (by
    have hq:Below wr.heap.size wr wq:=by rw[←hwq];exact below_new _ _
    exact ⟨(hq.block _ (row_lt HRR.out.1)).trans HRR.out.1,(hq.block _ (row_lt HRR.out.2)).trans HRR.out.2⟩)
   clear hwq k0 k1 k2 k3
   refine (each_any 60 HE #[.pointer (some ⟨a,0,none⟩),.pointer (some ⟨b,0,none⟩)] x HOKX bo cp U wq (fun k=>k=a∨k=b) (Lib.hid (fun k hk=>by rcases hk with rfl|rfl;exact row_lt HRQ.out.1;exact row_lt HRQ.out.2)) (Lib.hid (H4.out.below HBQ.out)) (Lib.hid (fun hn b' o' e hk=>by
    obtain ⟨b2,o2,e2,hb2,_⟩:=H4.out hn
    rw[e] at e2
    simp only[Option.some.injEq,Addr.mk.injEq] at e2
    have h9:=HAW.out
    rcases hk with hk|hk<;>omega))
    (fun i w'=>EnRow a b (efold (f0,t0) (x.pls i)).1 (efold (f0,t0) (x.pls i)).2 w')
    (Lib.hid (fun w' hu he=>by
     subst he
     exact ⟨(Below.heap_alloc _ _ _ (row_lt HRQ.out.1)).trans HRQ.out.1,(Below.heap_alloc _ _ _ (row_lt HRQ.out.2)).trans HRQ.out.2⟩))
    (Lib.hid (fun i w2 hi hct hu hI=>by
     have hb:=pl_bound HOKX.out (i:=i) (by omega)
     refine (end1_any _ _ (x.pl i) (x.ct i) a b hab w2 (by omega) (Lib.hid hI)).mono ?_
     rintro e w3 ⟨rfl,h1,h2⟩
     refine ⟨rfl,h1,?_⟩
     rw[pls_yes hct,efold_app]
     exact h2))
    (Lib.hid (fun i w2 hct hI=>by rw[pls_no hct];exact hI))).mono ?_
   rintro e w3 ⟨rfl,hu,hI⟩
   have HB3:Hid (Below w.heap.size w w3):=Lib.hid (HBQ.out.trans (hu.below HBQ.out.size (fun k _ hk=>by have h9:=HAW.out;rcases hk with hk|hk<;>omega)))
   have HI3:=Lib.hid hI
   clear hu hI
   go_wp2_with fail
   have hj:=HJ.out
   go_roundg (gk - 1)
   case measure=>omega
   case rel=>exact ⟨j+1,_,_,by simp,by omega,HB3,HI3,Lib.hid HEX.out⟩
  ·have hje:j=ps.length:=by have:=HJ.out;omega
   have hff:(f0,t0)=(f,t):=by
    have h:=HEF.out
    rw[hje,List.take_length,hr.out] at h
    exact h.symm
   obtain ⟨rfl,rfl⟩:=Prod.mk.inj hff
   have hI:EnRow a b f0 t0 wr.drew:=HRR.out
   have hne:Nonempty {w':World // EnRow a b f0 t0 w'}:=⟨⟨_,hI⟩⟩
   have hl0:∀ s:{w':World // EnRow a b f0 t0 w'},s.1.cell? ⟨a,0,none⟩=some (.int .i64 f0):=fun s=>row_cell s.2.1 (j:=0) rfl
   have hl1:∀ s:{w':World // EnRow a b f0 t0 w'},s.1.cell? ⟨b,0,none⟩=some (.int .i64 t0):=fun s=>row_cell s.2.2 (j:=0) rfl
   go_upto_region 7 with fail
   refine wp_region_seq (S:=EnRow a b f0 t0) [(0,true),(1,true),(2,true),(3,true)] (by kernel_rfl) (by kernel_rfl) (by kernel_rfl) (by kernel_rfl) hI ?_
   iterate 4 (refine seq_take _ rfl (fun KC hK=>?_);go_simp;(first|refine hK _ ?_|refine ⟨_,fun _ _=>rfl,hK _ ?_⟩);clear hK KC)
   refine seq_done ?_
   clear hl0 hl1 hne
   go_wp2_with fail
   go_ret2
   exact ⟨rfl,HBR.out.trans ((Below.refl _ _).drew.mono HBR.out.size)⟩
open Go.RowKit
def EdgeRow (lim c:Nat) (e:Bool) (w:World):Prop:=∃ v,w.heap[c]? = some (.cells #[v] 74 (0,0))∧if e=true then ∃ (q:Nat) (m:Int),lim≤q∧v = .iface 97 (.pointer (some ⟨q,0,none⟩))∧w.heap[q]? = some (.cells #[.int .i64 m,.iface 59 (.int .i64 9)] 99 (0,0)) else v = .nilIface
theorem EdgeRow.no {lim c:Nat} {w:World} (h:w.heap[c]? = some (.cells #[.nilIface] 74 (0,0))):EdgeRow lim c false w:=⟨_,h,by rw[if_neg (by decide)]⟩
theorem EdgeRow.row_no {lim c:Nat} {w:World} (h:EdgeRow lim c false w):w.heap[c]? = some (.cells #[.nilIface] 74 (0,0)):=by
 obtain ⟨v,hv,he⟩:=h
 rw[if_neg (by decide)] at he
 rw[hv,he]
theorem EdgeRow.row_yes {lim c:Nat} {w:World} (h:EdgeRow lim c true w):∃ (q:Nat) (m:Int),lim≤q∧w.heap[c]? = some (.cells #[.iface 97 (.pointer (some ⟨q,0,none⟩))] 74 (0,0))∧w.heap[q]? = some (.cells #[.int .i64 m,.iface 59 (.int .i64 9)] 99 (0,0)):=by
 obtain ⟨v,hv,he⟩:=h
 rw[if_pos rfl] at he
 obtain ⟨q,m,h1,rfl,h2⟩:=he
 exact ⟨q,m,h1,hv,h2⟩
theorem EdgeRow.upd {S:Nat→Prop} {lim c:Nat} {e:Bool} {w w':World} (h:EdgeRow lim c e w) (hu:Upd S w w') (hc:¬S c) (hS:∀ k,S k→k<lim):EdgeRow lim c e w':=by
 obtain ⟨v,hv,he⟩:=h
 refine ⟨v,(hu.block c (row_lt hv) hc).trans hv,?_⟩
 cases e with
 | false=>exact he
 | true =>
  rw[if_pos rfl] at he ⊢
  obtain ⟨q,m,h1,h2,h3⟩:=he
  exact ⟨q,m,h1,h2,(hu.block q (row_lt h3) (fun hk=>by have:=hS q hk;omega)).trans h3⟩
theorem field_ec {w:World} {q:Nat} {m:Int} (h:w.heap[q]? = some (.cells #[.int .i64 m,.iface 59 (.int .i64 9)] 99 (0,0))):EC w (.iface 97 (.pointer (some ⟨q,0,none⟩))) 9 :=
 ⟨[(false,m)],q,_,rfl,row_lt h,h,rfl⟩
def usum (x y:Nat):Nat:=(x+y) % 18446744073709551616
theorem usum_wrap (x y:Nat):IntKind.u64.wrap ((x:Int)+(y:Int))=(usum x y:Int):=by
 unfold usum
 show ((x:Int)+(y:Int)) % 18446744073709551616=_
 omega
theorem plus_any (m:Int) (x y:Nat) (hx:x<18446744073709551616) (hy:y<18446744073709551616) (lim c:Nat) (e:Bool) (w:World) (hl:lim≤w.heap.size) (HR:Hid (EdgeRow lim c e w)) {e':Bool} (HE:Hid ((e||decide (18446744073709551616≤x+y))=e')) :
  Calls Tryd.prog 26 #[.pointer (some ⟨c,0,none⟩),.int .i64 m,.int .u64 (x:Int),.int .u64 (y:Int)] w fun E w'=>E = .returned (.int .u64 (usum x y:Int))∧Upd (fun k=>k=c) w w'∧EdgeRow lim c e' w':=by
 have q1:=usum_wrap x y
 obtain ⟨z,HZ⟩:∃ z,Hid (usum x y=z):=⟨_,Lib.hid rfl⟩
 rw[HZ.out] at q1 ⊢
 by_cases ho:18446744073709551616≤x+y
 ·have d1:decide ((z:Int)<(x:Int))=true:=decide_eq_true (by have:=HZ.out;unfold usum at this;omega)
  have d2:decide (z<x)=true:=decide_eq_true (by have:=HZ.out;unfold usum at this;omega)
  have HX:Hid (e'=true):=Lib.hid (by rw[←HE.out,decide_eq_true ho];simp)
  clear ho
  cases e with
  | true =>
   obtain ⟨q,m',hq,hr,hf⟩:=HR.out.row_yes
   have hc0:w.cell? ⟨c,0,none⟩=some (.iface 97 (.pointer (some ⟨q,0,none⟩))):=row_cell hr (j:=0) rfl
   have HQ:=Lib.hid (And.intro hq (And.intro hr hf))
   clear hq hr hf
   go_enter Tryd.func26,Tryd.ntmps26
   go_wp2_with fail
   go_ret
   exact ⟨rfl,Upd.refl _ _,by rw[HX.out];exact HR.out⟩
  | false =>
   have hr:=HR.out.row_no
   have hc0:w.cell? ⟨c,0,none⟩=some .nilIface:=row_cell hr (j:=0) rfl
   have hcl:=row_lt hr
   have HRR:=Lib.hid hr
   clear hr
   go_enter Tryd.func26,Tryd.ntmps26
   go_wp2_with fail
   refine (in_any m _ _ w).mono ?_;rintro E w1 ⟨rfl,hw1⟩
   have hr1:w1.heap[c]? = some (.cells #[.nilIface] 74 (0,0)):=by rw[hw1];exact (Below.heap_alloc _ _ _ hcl).trans HRR.out
   have hq1:w1.heap[w.heap.size]? = some (.cells #[.int .i64 m,.iface 59 (.int .i64 9)] 99 (0,0)):=by rw[hw1];exact heap_alloc_new w _
   have HU:Hid (Upd (fun k=>k=c) w w1):=Lib.hid (by rw[hw1];exact Upd.alloc _ _ _)
   clear hw1
   have hfz:w1.frozen? ⟨c,0,none⟩=false:=row_thaw hr1 0
   have hc1:w1.cell? ⟨c,0,none⟩=some .nilIface:=row_cell hr1 (j:=0) rfl
   have HR1:=Lib.hid (And.intro hr1 hq1)
   obtain ⟨b,HB⟩:∃ b,Hid (w.heap.size=b):=⟨_,Lib.hid rfl⟩
   rw[HB.out] at HR1 ⊢
   clear hr1 hq1 hc0
   have hu2:=Upd.set w1 ⟨c,0,none⟩ (.iface 97 (.pointer (some ⟨b,0,none⟩)))
   have HU2:=Lib.hid hu2
   clear hu2
   go_wp2_with fail
   go_ret
   refine ⟨rfl,HU.out.trans HU2.out,?_⟩
   rw[HX.out]
   refine ⟨_,row_set HR1.out.1 0 _,?_⟩
   rw[if_pos rfl]
   have hb:=HB.out
   exact ⟨b,m,by omega,rfl,(HU2.out.block b (row_lt HR1.out.2) (show ¬b=c by omega)).trans HR1.out.2⟩
 ·have d1:decide ((z:Int)<(x:Int))=false:=decide_eq_false (by have:=HZ.out;unfold usum at this;omega)
  have d2:decide (z<x)=false:=decide_eq_false (by have:=HZ.out;unfold usum at this;omega)
  have HX:Hid (e'=e):=Lib.hid (by rw[←HE.out,decide_eq_false ho];simp)
  clear ho
  go_enter Tryd.func26,Tryd.ntmps26
  go_wp2_with fail
  go_ret
  exact ⟨rfl,Upd.refl _ _,by rw[HX.out];exact HR.out⟩
open Go.RowKit
def CtRow (base g:Nat) (C:List Nat) (w:World):Prop:=w.ownsRow base 23 1 (.slice (some ⟨g,0,none⟩) C.length C.length) C.length (nvals C)
def AddS (base g b6 b4:Nat) (C:List Nat) (f:Int) (w:World):Prop:=CtRow base g C w∧w.heap[b6]? = some (.cells #[.slice (some ⟨g,0,none⟩) C.length C.length] 26 (0,0))∧w.heap[b4]? = some (.cells #[.int .i64 f] 2 (0,0))
theorem CtRow.upd {S:Nat→Prop} {base g:Nat} {C:List Nat} {w w':World} (h:CtRow base g C w) (hu:Upd S w w') (hg:¬S g):CtRow base g C w':=hu.own h (fun k hk hs=>by simp[Value.ownBlock] at hk;subst hk;exact hg hs)
theorem nvals_set (C:List Nat) (i n:Nat):(nvals C).set i (.int .u64 (n:Int))=nvals (C.set i n):=by
 unfold nvals;rw[List.map_set]
theorem nvals_at (C:List Nat) (i:Nat) (hi:i<C.length):(nvals C)[i]? = some (.int .u64 ((C.getD i 0:Nat):Int)):=by
 unfold nvals;rw[List.getElem?_map,List.getElem?_eq_getElem hi,List.getD_eq_getElem?_getD,List.getElem?_eq_getElem hi];rfl
theorem add1_any (lim base c g b6 b4:Nat) (C:List Nat) (f p:Int) (i n:Nat) (hpf:p - f=(i:Int)) (hi:i<C.length) (hC:C.length≤2147483647) (hn:n<18446744073709551616) (hCn:C.getD i 0<18446744073709551616) (e:Bool) (w:World) (hl:lim≤w.heap.size)
  (hd:c≠g∧b6≠c∧b6≠g∧b4≠c∧b4≠g) (hcl:c<lim∧g<lim) (HS:Hid (AddS base g b6 b4 C f w)) (HR:Hid (EdgeRow lim c e w)) {e':Bool} (HE:Hid ((e||decide (18446744073709551616≤C.getD i 0+n))=e')) {C':List Nat} (HC:Hid (C.set i (usum (C.getD i 0) n)=C')) :
  Calls Tryd.prog 41 #[.int .i64 p,.int .u64 (n:Int),.pointer (some ⟨c,0,none⟩),.pointer (some ⟨b6,0,none⟩),.pointer (some ⟨b4,0,none⟩)] w fun E w'=>E = .returned (.tuple #[])∧Upd (fun k=>k=g∨k=c) w w'∧AddS base g b6 b4 C' f w'∧EdgeRow lim c e' w':=by
 obtain ⟨x,HX⟩:∃ x,Hid (C.getD i 0=x):=⟨_,Lib.hid rfl⟩
 have hx:x<18446744073709551616:=by rw[←HX.out];exact hCn
 rw[HX.out] at HE HC
 obtain ⟨N,HN⟩:∃ N,Hid (C.length=N):=⟨_,Lib.hid rfl⟩
 have hiN:i<N:=by rw[←HN.out];exact hi
 have hN9:N≤2147483647:=by rw[←HN.out];exact hC
 have q1:IntKind.i64.wrap (p - f)=(i:Int):=by rw[hpf];exact IntWalk.i64_in _ (by omega)
 have HPF:=Lib.hid hpf
 have HD:=Lib.hid hd
 have HCL:=Lib.hid hcl
 have HL:=Lib.hid hl
 have hi1:(i:Int)<(N:Int):=by omega
 have hi0:(0:Int)≤(i:Int):=by omega
 have HCN:=Lib.hid hCn
 have HI:=Lib.hid hi
 have HHC:=Lib.hid hC
 clear hpf hd hcl hl hCn hi hC
 go_enter Tryd.func41,Tryd.ntmps41
 go_upto_region 0 with fail
 obtain ⟨D,hD⟩:∃ D,w.drew=D:=⟨_,rfl⟩
 have HUD:Hid (Upd (fun k=>k=g∨k=c) w D):=Lib.hid (by rw[←hD];exact Upd.drew _ _)
 have hS:AddS base g b6 b4 C f D:=by rw[←hD];exact HS.out
 have HRD:Hid (EdgeRow lim c e D):=Lib.hid (by rw[←hD];exact HR.out)
 have HLD:Hid (lim≤D.heap.size):=Lib.hid (by rw[←hD];exact HL.out)
 have hne:Nonempty {w':World // AddS base g b6 b4 C f w'}:=⟨⟨_,hS⟩⟩
 have hl6:∀ s:{w':World // AddS base g b6 b4 C f w'},s.1.cell? ⟨b6,0,none⟩=some (.slice (some ⟨g,0,none⟩) N N):=fun s=>by rw[←HN.out];exact row_cell s.2.2.1 (j:=0) rfl
 have hl4:∀ s:{w':World // AddS base g b6 b4 C f w'},s.1.cell? ⟨b4,0,none⟩=some (.int .i64 f):=fun s=>row_cell s.2.2.2 (j:=0) rfl
 have hle:∀ s:{w':World // AddS base g b6 b4 C f w'},s.1.cell? ⟨g,i,none⟩=some (.int .u64 (x:Int)):=fun s=>by
  rw[←HX.out];exact (s.2.1.cellAt i (by have:=HI.out;omega)).trans (nvals_at C i HI.out)
 refine wp_region_seqB (AddS base g b6 b4 C f) [13] [(0,true),(1,true),(2,true),(3,true),(4,true),(5,true),(6,true),(7,true),(8,true),(9,true),(10,true),(11,false),(12,true),(13,false)] (by kernel_rfl) (by kernel_rfl) (by kernel_rfl) (by kernel_rfl) ?_
 rw[hD]
 clear hD
 iterate 11 (refine seqB_take _ rfl hS (fun KC hK=>?_);go_simp;(first|refine hK _ ?_|refine ⟨_,fun _ _=>rfl,hK _ ?_⟩);clear hK KC)
 clear hl6 hl4 hle hne
 refine seqB_come _ rfl (fun KC hK=>?_);go_simp
 refine (plus_any 2 x n hx hn lim c e D HLD.out HRD HE).mono ?_;rintro E w1 ⟨rfl,hu,her⟩
 have hd:=HD.out
 have hS1:AddS base g b6 b4 C f w1:=⟨hS.1.upd hu (fun h=>hd.1 h.symm),(hu.block _ (row_lt hS.2.1) (show ¬b6=c from hd.2.1)).trans hS.2.1,(hu.block _ (row_lt hS.2.2) (show ¬b4=c from hd.2.2.2.1)).trans hS.2.2⟩
 go_simp;refine hK.out _ _ (fun _=>hS1) ?_;clear hK KC
 refine seqB_take _ rfl hS1 (fun KC hK=>?_);go_simp;(first|refine hK _ ?_|refine ⟨_,fun _ _=>rfl,hK _ ?_⟩);clear hK KC
 have HU1:Hid (Upd (fun k=>k=g∨k=c) w w1):=Lib.hid (HUD.out.trans (hu.mono fun k _ h => .inr h))
 have HE1:=Lib.hid her
 have HS1:=Lib.hid hS1
 clear hu her hS1 hS hd
 have hfz:w1.frozen? ⟨g,i,none⟩=false:=HS1.out.1.frozenAt i
 have hce:w1.cell? ⟨g,i,none⟩=some (.int .u64 (x:Int)):=by rw[←HX.out];exact (HS1.out.1.cellAt i (by have:=HI.out;omega)).trans (nvals_at C i HI.out)
 obtain ⟨z,HZ⟩:∃ z,Hid (usum x n=z):=⟨_,Lib.hid rfl⟩
 rw[HZ.out]
 refine seqB_come _ rfl (fun KC hK=>?_);go_simp
 refine hK.out _ _ (fun h=>by cases h) ?_;clear hK KC
 refine seqB_done ?_
 have HO4:=(HS1.out.1.stored i (.int .u64 (z:Int))).1
 have hu2:=Upd.set w1 ⟨g,i,none⟩ (.int .u64 (z:Int))
 rw[nvals_set] at HO4
 have HC2:=HC.out
 rw[HZ.out] at HC2
 rw[HC2] at HO4
 have hlen:C'.length=C.length:=by rw[←HC2];simp
 have HFIN:Hid (Upd (fun k=>k=g∨k=c) w (w1.setCell ⟨g,i,none⟩ (.int .u64 (z:Int)))∧AddS base g b6 b4 C' f (w1.setCell ⟨g,i,none⟩ (.int .u64 (z:Int)))∧EdgeRow lim c e' (w1.setCell ⟨g,i,none⟩ (.int .u64 (z:Int)))):=Lib.hid (by
  have hd:=HD.out
  have hcl:=HCL.out
  refine ⟨HU1.out.trans (hu2.mono fun k _ h => .inl h),⟨?_,?_,?_⟩,?_⟩
  ·unfold CtRow;rw[hlen];exact HO4
  ·rw[hlen];exact (hu2.block _ (row_lt HS1.out.2.1) (show ¬b6=g from hd.2.2.1)).trans HS1.out.2.1
  ·exact (hu2.block _ (row_lt HS1.out.2.2) (show ¬b4=g from hd.2.2.2.2)).trans HS1.out.2.2
  ·exact HE1.out.upd hu2 (show ¬c=g from hd.1) (fun k hk=>by have hk:k=g:=hk;omega))
 clear HO4 hu2 HC2 hlen
 go_wp2_with fail
 go_end0
 exact ⟨rfl,HFIN.out.1,HFIN.out.2.1,HFIN.out.2.2⟩
end Go.Proofs.YtoggpnfeioaidaaDoor
