/-
  MsgPack, OpenV
-/
import Derived.Test.YtficgfemmijaaaaGreatDoorMsgRead
import Derived.Test.YtficgfemmijaaaaGreatDoorMsgMath
import Derived.Test.YtficgfemmijaaaaGreatDoorOrd
import Derived.Test.YtficgfemmijaaaaGreatDoorMsgWrite
import Derived.Laws.OwnMore
import Derived.Test.YtficgfemmijaaaaGreatDoorAlikeB
import Derived.Deep.Strs
import Derived.Deep.SlicePairs
import Derived.Test.YtficgfemmijaaaaGreatDoorVal
set_option maxRecDepth 1000000
set_option maxHeartbeats 16000000
namespace Go.Proofs.YtficgfemmijaaaaGreatDoor
open Go.RowKit
open Lib (hid)
theorem wpList_app_nats_at {P:Program} {w:World} {ops:Array Oper} {rest:List Oper} {o:Oper} {a:Act} {Q:Exit→Act→World→Prop} (s x:Operand) (t:TypeId)
    (ho:o.op = .call { callee := .builtin .append,args:=#[s,x],argTypes:=#[t,t] }) (hg:o.guard=none)
    {base:Nat} {e:TypeId} {z:Value} {bytes:Nat} (he:Elem P t e z 1 bytes)
    {v:Value} {n:Nat} {xs:List Value} (hown:w.ownsRow base e 1 v n xs) (hs:a.eval s=v)
    {ao:Option Addr} {cap:Nat} {l:List Nat} (hu:Nats .u64 w ao l) (hnil:ao=none→cap=0) (hx:a.eval x = .slice ao l.length cap)
    (h63:n+l.length≤maxLen) (hbytes:(n+l.length) * bytes≤140737488355328) (hbase:base≤w.heap.size)
    (h:∀ v' w',w'.ownsRow base e 1 v' (n+l.length) (xs++nvals l)→w.grownBy w' v.ownBlock→(∀ k,v'.ownBlock=some k→v.ownBlock=some k∨w.heap.size≤k)→wpList P ops Q rest (a.put o.dst v') w'):wpList P ops Q (o::rest) a w:=by
  obtain ⟨ht,hi0,hzs⟩:=he;obtain ⟨i,hi,hz,hsize,hby⟩:=info_parts hi0
  have key:∀ AD:Addr,ao=some AD→(∀ j (y:Value),(nvals l)[j]? = some y→w.cell? (AD.add j)=some y)→wpList P ops Q (o::rest) a w:=by
    intro AD hA hcell;refine wpList_append_own_at w hg s x t ho base e i z 1 bytes ht hi hz hsize hby hzs (by decide) v n xs hs hown AD l.length cap (nvals l) (by rw[hx,hA]) (by simp[nvals]) ?_ ?_ h63 hbytes hbase fun v' w' h2 h3 _ h5=>h v' w' h2 h3 (fun k hk=>?_)
    · exact hcell
    · intro y hy
      obtain ⟨q,_,rfl⟩:=List.mem_map.1 hy
      rfl
    · rcases h5 with h5|h5
      · exact .inl (h5 ▸ hk)
      · rw[h5] at hk;exact .inr (by have:=Option.some.inj hk;omega)
  by_cases hl:l=[]
  · subst hl
    cases ao with
    | none =>
      refine wpList_append_own_none hg s x t ho base e i 1 ht hi v n xs hs hown (by rw[hx,hnil rfl];rfl) ?_;exact h v w (by simpa [nvals] using hown) ⟨rfl,rfl,rfl,Nat.le_refl _,fun _ _ _=>rfl⟩ (fun k hk => .inl hk)
    | some AD=>exact key AD rfl (fun j y hy=>by simp[nvals] at hy)
  · obtain ⟨b,off,hA,_,hc⟩:=hu hl
    refine key _ hA fun j y hj=>?_
    have hj':j<l.length:=by
      have:=(List.getElem?_eq_some_iff.1 hj).1
      simpa [nvals] using this
    have hadd:(⟨b,off,none⟩:Addr).add j=⟨b,off+j,none⟩:=by unfold Addr.add;split<;>simp_all
    rw[hadd,hc j hj']
    simpa [nvals,List.getElem?_eq_getElem hj'] using hj
theorem own_nil {w:World}{base:Nat}{e:TypeId}{size:Nat}{v:Value}{n:Nat}{xs:List Value}(h:w.ownsRow base e size v n xs):∀ ao m cap,v = .slice ao m cap→ao=none→cap=0:=by
  rintro ao m cap rfl rfl
  rcases h.2 with ⟨h1,_⟩|⟨g,cap',cur,h1,_⟩
  · simp only[Value.slice.injEq] at h1;exact h1.2.2
  · simp only[Value.slice.injEq] at h1;cases h1.1
def pstep (xs:List Nat)(r:Rec):Except Nat (List Nat):=if r.ty≠2 then .ok (xs++[r.n]) else match wvars r.s with
  | .error c => .error c
  | .ok ns => .ok (xs++ns)
def PackPost (cs:Array Value)(T:TypeId)(b o:Nat)(v:Value)(B:Nat)(xs:List Nat)(r:Rec)(w:World)(e:Ending)(w':World):Prop :=
  Upd (fun k=>k=b∨v.ownBlock=some k) w w'∧match pstep xs r with
    | .error c=>∃ x,e = .returned x∧EC w' x c
    | .ok ys=>e = .returned .nilIface∧∃ v',w'.heap[b]? = some (.cells (cs.setIfInBounds o v') T (0,0))∧w'.ownsRow B 24 1 v' ys.length (nats64 ys)∧∀ k,v'.ownBlock=some k→v.ownBlock=some k∨w.heap.size≤k
theorem pk_ok {cs:Array Value}{T:TypeId}{b o:Nat}{v:Value}{B:Nat}{xs:List Nat}{r:Rec}{w w2:World}{v':Value}{ys:List Nat}(hp:pstep xs r = .ok ys)(hrow:w2.heap[b]? = some (.cells cs T (0,0)))(hu:Upd (fun k=>k=b∨v.ownBlock=some k) w w2)(hown:w2.ownsRow B 24 1 v' ys.length (nats64 ys))(hb:b<B)(hn:∀ k,v'.ownBlock=some k→v.ownBlock=some k∨w.heap.size≤k) :
    PackPost cs T b o v B xs r w (.returned .nilIface) (w2.setCell ⟨b,o,none⟩ v'):=by
  have hu2:=Upd.set w2 ⟨b,o,none⟩ v';refine ⟨hu.trans (hu2.mono fun k _ hk => .inl hk),?_⟩;rw[hp];refine ⟨rfl,v',row_set hrow o v',hu2.own hown (fun k hk h=>?_),hn⟩;have e:k=b:=h;have:=(hown.lt k hk).1;omega
def PkS (rb b o:Nat)(r:Rec)(v:Value)(w':World):Prop:=w'.heap[rb]? = some (.cells #[.int .i64 r.num,.int .i64 r.ty,.int .u64 r.n,.string ⟨r.s.toArray⟩,.string ⟨r.raw.toArray⟩] 61 (0,0))∧w'.cell? ⟨b,o,none⟩=some v
theorem PkS.upd {rb b o:Nat}{r:Rec}{v:Value}{w w':World}{S:Nat→Prop}(h:PkS rb b o r v w)(hu:Upd S w w')(h1:¬S rb)(h2:¬S b)(hb:b<w.heap.size):PkS rb b o r v w' :=
  ⟨(hu.block _ (row_lt h.1) h1).trans h.1,(hu.cell (a:=⟨b,o,none⟩) hb h2).trans h.2⟩
theorem pack_one {cs:Array Value}{T:TypeId}(b o:Nat)(v:Value)(xs:List Nat)(B:Nat)(r:Rec)(FR:Nat)(w:World)(hrow:Hid (w.heap[b]? = some (.cells cs T (0,0))))(hcs:cs[o]? = some v)(hown:w.ownsRow B 24 1 v xs.length (nats64 xs))(hbB:b<B)(hB:B≤w.heap.size)(hx:xs.length≤1000000)(hty:r.ty≠2) :
    Calls Tryz.prog 137 #[.pointer (some ⟨b,o,none⟩),recV r,.func (.func FR) #[] #[]] w (PackPost cs T b o v B xs r w):=by
  have HP:Hid (pstep xs r = .ok (xs++[r.n])):=hid (if_pos hty);have d1:((r.ty:Int) != 2)=true:=by rw[bne_iff_ne];omega
  obtain ⟨ao,cap,rfl⟩:=own_slice hown;have HO:=hid hown;clear hown hty;unfold recV;go_enter Tryz.func137,Tryz.ntmps137;go_wp2_with fail;obtain ⟨W0,hW0⟩:∃ W0,w.alloc (.cells #[.int .i64 r.num,.int .i64 r.ty,.int .u64 r.n,.string ⟨r.s.toArray⟩,.string ⟨r.raw.toArray⟩] 61)=W0:=⟨_,rfl⟩
  rw[hW0];have HRB:Hid (W0.heap[w.heap.size]? = some (.cells #[.int .i64 r.num,.int .i64 r.ty,.int .u64 r.n,.string ⟨r.s.toArray⟩,.string ⟨r.raw.toArray⟩] 61 (0,0))):=hid (by rw[←hW0];exact heap_alloc_new w _);have HU0:Hid (Upd (fun _=>False) w W0):=hid (by rw[←hW0];exact Upd.alloc _ _ _);clear hW0;have HRW0:Hid (W0.heap[b]? = some (.cells cs T (0,0))):=hid ((HU0.out.block b (row_lt hrow.out) (fun h=>h)).trans hrow.out);have hS:PkS w.heap.size b o r (.slice ao xs.length cap) W0.drew:=⟨HRB.out,row_cell HRW0.out (j:=o) hcs⟩
  have hne:Nonempty { w':World // PkS w.heap.size b o r (.slice ao xs.length cap) w' }:=⟨⟨_,hS⟩⟩
  have hx2:∀ t:{ w':World // PkS w.heap.size b o r (.slice ao xs.length cap) w' },t.1.cell? ⟨w.heap.size,2,none⟩=some (.int .u64 r.n):=fun t=>row_cell t.2.1 (j:=2) rfl
  have hxb:∀ t:{ w':World // PkS w.heap.size b o r (.slice ao xs.length cap) w' },t.1.cell? ⟨b,o,none⟩=some (.slice ao xs.length cap):=fun t=>t.2.2
  have HO1:Hid (W0.drew.ownsRow B 24 1 (.slice ao xs.length cap) xs.length (nats64 xs)):=hid (HU0.out.own HO.out (fun _ _ h=>h));have hbW:w.heap.size≤W0.heap.size:=HU0.out.size;refine wp_region_seqB (PkS w.heap.size b o r (.slice ao xs.length cap)) [9] [(0,true),(1,true),(2,true),(3,true),(4,true),(5,true),(6,false),(7,false),(8,true),(9,false)] (by kernel_rfl) (by kernel_rfl) (by kernel_rfl) (by kernel_rfl) ?_
  iterate 6 (refine seqB_take _ rfl hS (fun K hK=>?_);go_simp;refine hK _ ?_;clear hK K)
  refine seqB_come _ rfl (fun K hK=>?_);go_simp;have hS2:PkS w.heap.size b o r (.slice ao xs.length cap) (W0.drew.alloc (.cells #[.int .u64 r.n] 24)):=hS.upd (Upd.alloc (fun _=>False) _ _) (fun h=>h) (fun h=>h) (row_lt HRW0.out);refine hK.out _ _ (fun _=>hS2) ?_;clear hK K;refine seqB_wp _ rfl rfl (fun K hK=>?_)
  refine wp_app_at _ _ 27 rfl Tryz.elU64 (by decide) (HO1.out.alloc _) rfl (b:=W0.heap.size) (off:=0) (m:=1) (c:=1) (news:=[.int .u64 r.n]) rfl rfl (fun j u hj=>by
    have hj0:j=0:=by have:=(List.getElem?_eq_some_iff.1 hj).1;simp at this;omega
    subst hj0;exact (row_cell (heap_alloc_new W0 (.cells #[.int .u64 r.n] 24)) (j:=0) rfl).trans (by simpa using hj)) (by simp[Value.oneCell']) (by unfold maxLen;omega) (by omega) (by simp;omega) (fun v' w2 hown2 hgrow hnew=>?_)
  have hgu:Upd (fun k=>(Value.slice ao xs.length cap).ownBlock=some k) (W0.drew.alloc (.cells #[.int .u64 r.n] 24)) w2:=Upd.of_grown hgrow;have hnb:¬(Value.slice ao xs.length cap).ownBlock=some b:=fun h=>by have:=(HO.out.lt b h).1;omega
  have hnr:¬(Value.slice ao xs.length cap).ownBlock=some w.heap.size:=fun h=>by have:=(HO.out.lt _ h).2;omega
  have hS3:=hS2.upd hgu hnr hnb (by have:=row_lt HRW0.out;simp;omega);refine hK.out _ _ (fun _=>hS3) ?_;clear hK K;have HRW2:Hid (w2.heap[b]? = some (.cells cs T (0,0))):=hid ((hgu.block b (by have:=row_lt HRW0.out;simp;omega) hnb).trans ((Below.heap_alloc _ _ _ (row_lt HRW0.out)).trans HRW0.out));have hfz:w2.frozen? ⟨b,o,none⟩=false:=row_thaw HRW2.out o;obtain ⟨ao',cap',rfl⟩:=own_slice hown2;refine seqB_take _ rfl hS3 (fun K hK=>?_);go_simp;refine hK _ ?_;clear hK K;have hcb2:w2.cell? ⟨b,o,none⟩=some (.slice ao xs.length cap):=hS3.2;refine seqB_come _ rfl (fun K hK=>?_);go_simp;refine hK.out _ _ (fun h=>by cases h) ?_;clear hK K;refine seqB_done ?_;have HU2:Hid (Upd (fun k=>k=b∨(Value.slice ao xs.length cap).ownBlock=some k) w w2):=hid (((HU0.out.mono fun _ _ h=>h.elim).trans ((Upd.drew _ W0).trans (Upd.alloc _ _ _))).trans (hgu.mono fun k _ h => .inr h));have HO2:Hid (w2.ownsRow B 24 1 (.slice ao' (xs.length+1) cap') (xs++[r.n]).length (nats64 (xs++[r.n]))):=hid (by rw[List.length_append];unfold nats64 at hown2 ⊢;rw[List.map_append];exact hown2)
  have HN:Hid (∀ k,(Value.slice ao' (xs.length+1) cap').ownBlock=some k→(Value.slice ao xs.length cap).ownBlock=some k∨w.heap.size≤k):=hid (fun k hk=>by
    rcases hnew k hk with h|h
    · exact .inl h
    · right;rw[h];simp;omega)
  clear hx2 hxb hne hS hS2 hS3 hown2 hgrow hnew hgu hnb hnr hcb2 hfz;go_wp2_with fail;go_ret;exact pk_ok HP.out HRW2.out HU2.out HO2.out hbB HN.out
theorem pack_vars {cs:Array Value}{T:TypeId}(b o:Nat)(v:Value)(xs:List Nat)(B:Nat)(r:Rec)(w:World)(hrow:Hid (w.heap[b]? = some (.cells cs T (0,0))))(hcs:cs[o]? = some v)(hown:w.ownsRow B 24 1 v xs.length (nats64 xs))(hbB:b<B)(hB:B≤w.heap.size)(hx:xs.length≤1000000)(hty:r.ty=2)(hs:r.s.length≤1000000) :
    Calls Tryz.prog 137 #[.pointer (some ⟨b,o,none⟩),recV r,.func (.func 138) #[] #[]] w (PackPost cs T b o v B xs r w):=by
  have HTY:=hid hty;have d1:((r.ty:Int) != 2)=false:=by rw[hty];rfl
  obtain ⟨ao,cap,rfl⟩:=own_slice hown;have HO:=hid hown;obtain ⟨X,hX⟩:∃ X:ByteArray,(⟨r.s.toArray⟩:ByteArray)=X:=⟨_,rfl⟩
  have hXs:X.size=r.s.length:=by rw[←hX];simp[ByteArray.size]
  have HXD:Hid (X.data.toList=r.s):=hid (by rw[←hX]);have HX:=hid hX;clear hown hty;unfold recV;rw[hX];clear hX;go_enter Tryz.func137,Tryz.ntmps137;go_wp2_with fail;have HU0:Hid (Upd (fun _=>False) w (w.alloc (.cells #[.int .i64 r.num,.int .i64 r.ty,.int .u64 r.n,.string X,.string ⟨r.raw.toArray⟩] 61))):=hid (Upd.alloc _ _ _);refine (varints_any X _ (by omega)).mono ?_;intro e w1 hpost;unfold VarsPost at hpost
  rw[HXD.out] at hpost
  cases hv:wvars r.s with
  | error c =>
    rw[hv] at hpost;obtain ⟨x,rfl,q,hq,⟨a,ha,rfl,hac⟩,hbe⟩:=hpost;have HP:Hid (pstep xs r = .error c):=hid (by unfold pstep;rw[if_neg (by rw[HTY.out];simp),hv]);have HU1:Hid (Upd (fun _=>False) w w1):=hid (HU0.out.trans (Upd.of_new hbe));have HAC:=hid hac;have HA:Hid (w.heap.size≤a):=hid (by have:=HU0.out.size;omega);have HRW1:Hid (w1.heap[b]? = some (.cells cs T (0,0))):=hid ((HU1.out.block b (row_lt hrow.out) (fun h=>h)).trans hrow.out);have hcb:w1.cell? ⟨b,o,none⟩=some (.slice ao xs.length cap):=row_cell HRW1.out (j:=o) hcs;have hfz:w1.frozen? ⟨b,o,none⟩=false:=row_thaw HRW1.out o;have HO1:Hid (w1.ownsRow B 24 1 (.slice ao xs.length cap) xs.length (nats64 xs)):=hid (HU1.out.own HO.out (fun _ _ h=>h));have hBw:B≤w1.heap.size:=by have:=HU1.out.size;omega
    clear hv hbe hac ha;go_wp2_with (at_builtin;refine wpList_app_nats _ _ 27 rfl rfl Tryz.elU64 HO1.out rfl (ao:=none) (cap:=0) (l:=[]) (fun h=>absurd rfl h) (fun _=>rfl) rfl (by unfold maxLen;simp;omega) (by simp;omega) hBw ?_;intro v' w2 hown2 hgrow;obtain ⟨ao',cap',rfl⟩:=own_slice hown2;have HRW2:Hid (w2.heap[b]? = some (.cells cs T (0,0))):=hid ((hgrow.block _ (row_lt HRW1.out) (fun e=>by have h7:=(HO.out.lt _ e.symm).1;omega)).trans HRW1.out);have hcb2:w2.cell? ⟨b,o,none⟩=some (.slice ao xs.length cap):=row_cell HRW2.out (j:=o) hcs;have hfz2:w2.frozen? ⟨b,o,none⟩=false:=row_thaw HRW2.out o);go_ret;have hu2:=Upd.of_grown hgrow;refine ⟨((HU1.out.mono fun _ _ h=>h.elim).trans (hu2.mono fun k _ h => .inr h)).trans ((Upd.set w2 _ _).mono fun k _ hk => .inl hk),?_⟩;rw[HP.out];refine ⟨_,rfl,[(true,(q:Int))],isErr_new ?_⟩;have hna:¬(Value.slice ao xs.length cap).ownBlock=some a:=fun h=>by have:=(HO.out.lt _ h).2;have:=HA.out;omega
    have hbw:=row_lt hrow.out;exact ((Upd.set w2 ⟨b,o,none⟩ _).block a (Nat.lt_of_lt_of_le (row_lt HAC.out) hu2.size) (fun e=>by have e:a=b:=e;have:=HA.out;omega)).trans ((hu2.block a (row_lt HAC.out) hna).trans HAC.out)
  | ok ns =>
    rw[hv] at hpost;obtain ⟨u,rfl,hown1,hnl,hb1⟩:=hpost;have hnil:=own_nil hown1;obtain ⟨uo,ucap,rfl⟩:=own_slice hown1;have HP:Hid (pstep xs r = .ok (xs++ns)):=hid (by unfold pstep;rw[if_neg (by rw[HTY.out];simp),hv]);have HU1:Hid (Upd (fun _=>False) w w1):=hid (HU0.out.trans (Upd.of_new hb1));have HNS:Hid (Nats .u64 w1 uo ns):=hid (nats_of_own hown1);have HRW1:Hid (w1.heap[b]? = some (.cells cs T (0,0))):=hid ((HU1.out.block b (row_lt hrow.out) (fun h=>h)).trans hrow.out);have hcb:w1.cell? ⟨b,o,none⟩=some (.slice ao xs.length cap):=row_cell HRW1.out (j:=o) hcs;have HO1:Hid (w1.ownsRow B 24 1 (.slice ao xs.length cap) xs.length (nats64 xs)):=hid (HU1.out.own HO.out (fun _ _ h=>h));have hBw:B≤w1.heap.size:=by have:=HU1.out.size;omega
    have HNIL:Hid (uo=none→ucap=0):=hid (fun h=>hnil uo _ ucap rfl h);have hnl2:ns.length≤1000000:=by omega
    clear hv hb1 hown1 hnil hnl;go_wp2_with (at_builtin;refine wpList_app_nats_at _ _ 27 rfl rfl Tryz.elU64 HO1.out rfl HNS.out HNIL.out rfl (by unfold maxLen;omega) (by omega) hBw ?_;intro v' w2 hown2 hgrow hnew;obtain ⟨ao',cap',rfl⟩:=own_slice hown2;have HRW2:Hid (w2.heap[b]? = some (.cells cs T (0,0))):=hid ((hgrow.block _ (row_lt HRW1.out) (fun e=>by have h7:=(HO.out.lt _ e.symm).1;omega)).trans HRW1.out);have hcb2:w2.cell? ⟨b,o,none⟩=some (.slice ao xs.length cap):=row_cell HRW2.out (j:=o) hcs;have hfz2:w2.frozen? ⟨b,o,none⟩=false:=row_thaw HRW2.out o);go_ret;have hu2:=Upd.of_grown hgrow;have HU2:Hid (Upd (fun k=>k=b∨(Value.slice ao xs.length cap).ownBlock=some k) w w2):=hid ((HU1.out.mono fun _ _ h=>h.elim).trans (hu2.mono fun k _ h => .inr h));refine pk_ok HP.out HRW2.out HU2.out ?_ hbB (fun k hk=>?_)
    · rw[List.length_append]
      unfold nats64;rw[List.map_append];exact hown2
    · rcases hnew k hk with h|h
      · exact .inl h
      · exact .inr (by have:=HU1.out.size;omega)
open Go.RowKit Go.ChangeShapes Go.WideShapes Go.ChangeAt Go.Deep
theorem val_shape:∃ f0 f1 f2 f3 f4 f5 f6 f7:Field,Tryz.prog.underlying 77=some (.struct #[f0,f1,f2,f3,f4,f5,f6,f7])∧Tryz.prog.cellsOf 77=8 ∧
  (f0.offset=0∧f1.offset=1∧f2.offset=2∧f3.offset=3∧f4.offset=4∧f5.offset=5∧f6.offset=6∧f7.offset=7) ∧
  (Tryz.prog.cellsOf f0.type=1∧Tryz.prog.cellsOf f1.type=1∧Tryz.prog.cellsOf f2.type=1∧Tryz.prog.cellsOf f3.type=1∧Tryz.prog.cellsOf f4.type=1∧Tryz.prog.cellsOf f5.type=1∧Tryz.prog.cellsOf f6.type=1∧Tryz.prog.cellsOf f7.type=1) ∧
  (Tryz.prog.underlying f0.type=some (.int .i64)∧Tryz.prog.underlying f1.type=some .string∧Tryz.prog.underlying f2.type=some .bool∧Tryz.prog.underlying f3.type=some (.int .u64)∧Tryz.prog.underlying f4.type=some (.slice 77)∧Tryz.prog.underlying f5.type=some (.slice 79)∧Tryz.prog.underlying f6.type=some .string∧Tryz.prog.underlying f7.type=some .string) :=
 ⟨_,_,_,_,_,_,_,_,Tryz.underlying77,by kernel_rfl,⟨by kernel_rfl,by kernel_rfl,by kernel_rfl,by kernel_rfl,by kernel_rfl,by kernel_rfl,by kernel_rfl,by kernel_rfl⟩,⟨by kernel_rfl,by kernel_rfl,by kernel_rfl,by kernel_rfl,by kernel_rfl,by kernel_rfl,by kernel_rfl,by kernel_rfl⟩,⟨by kernel_rfl,by kernel_rfl,by kernel_rfl,by kernel_rfl,by kernel_rfl,by kernel_rfl,by kernel_rfl,by kernel_rfl⟩⟩
theorem key_shape:∃ f0 f1 f2 f3:Field,Tryz.prog.underlying 79=some (.struct #[f0,f1,f2,f3])∧Tryz.prog.cellsOf 79=11 ∧
  (f0.offset=0∧f1.offset=1∧f2.offset=2∧f3.offset=10) ∧
  (Tryz.prog.cellsOf f0.type=1∧Tryz.prog.cellsOf f1.type=1∧Tryz.prog.cellsOf f2.type=8∧Tryz.prog.cellsOf f3.type=1) ∧
  (Tryz.prog.underlying f0.type=some .string∧Tryz.prog.underlying f1.type=some .bool∧f2.type=77∧Tryz.prog.underlying f3.type=some .string) :=
 ⟨_,_,_,_,Tryz.underlying79,by kernel_rfl,⟨by kernel_rfl,by kernel_rfl,by kernel_rfl,by kernel_rfl⟩,⟨by kernel_rfl,by kernel_rfl,by kernel_rfl,by kernel_rfl⟩,⟨by kernel_rfl,by kernel_rfl,by kernel_rfl,by kernel_rfl⟩⟩
theorem cells_of {w:World}{base c b off:Nat}{cs:List Value}(h:w.cells? base ⟨b,off,none⟩ c=some cs):Cells w b off cs∧cs.length=c:=by
 obtain ⟨_,h2,h3⟩:=World.cells?_some h;refine ⟨fun i hi=>?_,h2⟩;have:=h3 i (by omega);have e:(⟨b,off,none⟩:Addr).add i=⟨b,off+i,none⟩:=by unfold Addr.add;split<;>simp_all
 rw[e] at this;rw[this,List.getElem?_eq_getElem hi]
theorem slice_tree {α:Type} {H:Type} {enc:TypeId × Value→H} {W:World} {sp:Nat→Bool} {t e:TypeId} {fuel c:Nat} {cs:List Value} {x:DataW H × List MemPlace} (good:α→List Value→Prop) (hc:Tryz.prog.cellsOf e=c) (hpos:0<c) (ht:Tryz.prog.underlying t=some (.slice e))
  (hel:∀ n,n<fuel→∀ cs x,DataW.trod enc Tryz.prog W 0 sp true n e cs=some x→∃ a:α,good a cs) (h:DataW.trod enc Tryz.prog W 0 sp true fuel t cs=some x) :
  ∃ (lo:Option Addr) (cap:Nat) (l:List α),cs=[.slice lo l.length cap]∧l.length≤9223372036854775807∧(l≠[]→∃ g off,lo=some ⟨g,off,none⟩∧g<W.heap.size∧∀ j (h:j<l.length),∃ ds,Cells W g (off+c * j) ds∧good l[j] ds):=by
 rcases DataW.trod_slice ht h with ⟨h1,_⟩|⟨a,len,cap,elems,rest,n,hf,h1,_,_,hlc,hcm,hl,hx,_,_⟩
 ·exact ⟨none,0,[],h1,by simp,fun h=>absurd rfl h⟩
 ·subst hf
  have hcm':cap≤9223372036854775807:=hcm
  have each:∀ i,i<len→∃ y:α,∃ ds,W.cells? 0 (a.add (i * c)) c=some ds∧good y ds:=fun i hi=>by
   have h2:=hx i hi;rw[hc] at h2;rw[List.getElem?_eq_getElem (by omega)] at h2
   cases hw:W.cells? 0 (a.add (i * c)) c with
   | none=>rw[hw] at h2;cases h2
   | some ds =>
    rw[hw] at h2;obtain ⟨y,hy⟩:=hel n (by omega) ds _ h2;exact ⟨y,ds,rfl,hy⟩
  rcases Nat.eq_zero_or_pos len with e0|hp
  ·subst e0
   exact ⟨some a,cap,[],h1,by simp,fun h=>absurd rfl h⟩
  ·obtain ⟨y0,_⟩:=each 0 hp
   have:Inhabited α:=⟨y0⟩
   obtain ⟨Y,hY⟩:=choose_lt each;have hll:((List.range len).map Y).length=len:=by simp
   have hspot:∀ i,i<len→∀ ds,W.cells? 0 (a.add (i * c)) c=some ds→W.cell? ((a.add (i * c)).add 0)=ds[0]?:=fun i _ ds hd=>(World.cells?_some hd).2.2 0 hpos
   obtain ⟨b,off,spot⟩:=a;obtain ⟨ds0,hd0,_⟩:=hY 0 hp;have hd0l:=(World.cells?_some hd0).2.1;have hcell:=hspot 0 hp ds0 hd0;rw[List.getElem?_eq_getElem (by omega)] at hcell;have hsp:spot=none:=by simpa [Addr.add] using World.cell?_spot hcell
   subst hsp
   have hb:b<W.heap.size:=by
    have:=World.block_lt_of_cell? W _ hcell
    simpa [Addr.add] using this
   refine ⟨some ⟨b,off,none⟩,cap,(List.range len).map Y,by rw[hll];exact h1,by rw[hll];omega,fun _=>⟨b,off,rfl,hb,fun j hj=>?_⟩⟩;have hj':j<len:=by simpa using hj
   obtain ⟨ds,hd,hg⟩:=hY j hj';have ea:(⟨b,off,none⟩:Addr).add (j * c)=⟨b,off+c * j,none⟩:=by unfold Addr.add;split<;>simp_all [Nat.mul_comm]
   rw[ea] at hd;exact ⟨ds,(cells_of hd).1,by simpa using hg⟩
theorem vrels_of {w:World}{P:Nat→Prop}{g off:Nat}(hg:P g)(hlt:g<w.heap.size):∀ (l:List Val) (i:Nat),(∀ j (h:j<l.length),∃ ds,Cells w g (off+8 * (i+j)) ds∧VRel w P l[j] ds)→VRels w P l (some ⟨g,off,none⟩) i
 | [],_,_=>by rw[VRels];trivial
 | x::xs,i,h=>by
  rw[VRels];obtain ⟨ds,h1,h2⟩:=h 0 (by simp);refine ⟨⟨g,off,ds,rfl,hg,hlt,h1,h2⟩,vrels_of hg hlt xs (i+1) fun j hj=>?_⟩;obtain ⟨ds,h1,h2⟩:=h (j+1) (by simpa using hj);exact ⟨ds,by rw[show i+1+j=i+(j+1) by omega];exact h1,h2⟩
theorem krels_of {w:World}{P:Nat→Prop}{g off:Nat}(hg:P g)(hlt:g<w.heap.size):∀ (l:List KV) (i:Nat),(∀ j (h:j<l.length),∃ ds,Cells w g (off+11 * (i+j)) ds∧KRel w P l[j] ds)→KRels w P l (some ⟨g,off,none⟩) i
 | [],_,_=>by rw[KRels];trivial
 | x::xs,i,h=>by
  rw[KRels];obtain ⟨ds,h1,h2⟩:=h 0 (by simp);refine ⟨⟨g,off,ds,rfl,hg,hlt,h1,h2⟩,krels_of hg hlt xs (i+1) fun j hj=>?_⟩;obtain ⟨ds,h1,h2⟩:=h (j+1) (by simpa using hj);exact ⟨ds,by rw[show i+1+j=i+(j+1) by omega];exact h1,h2⟩
theorem vslice_tree {H:Type} {enc:TypeId × Value→H} {W:World} {sp:Nat→Bool} {t:TypeId} {fuel:Nat} {cs:List Value} {x:DataW H × List MemPlace} (ht:Tryz.prog.underlying t=some (.slice 77))
  (hel:∀ n,n<fuel→∀ cs x,DataW.trod enc Tryz.prog W 0 sp true n 77 cs=some x→∃ a:Val,VRel W (fun k=>k<W.heap.size) a cs∧vlim a∧vfit a) (h:DataW.trod enc Tryz.prog W 0 sp true fuel t cs=some x) :
  ∃ (lo:Option Addr) (cap:Nat) (l:List Val),cs=[.slice lo l.length cap]∧l.length≤9223372036854775807∧VRels W (fun k=>k<W.heap.size) l lo 0∧vslim l∧vsfit l:=by
 obtain ⟨lo,cap,l,h1,h2,h3⟩:=slice_tree (fun (a:Val) cs=>VRel W (fun k=>k<W.heap.size) a cs∧vlim a∧vfit a) (c:=8) (by kernel_rfl) (by decide) ht hel h
 by_cases h0:l=[]
 ·subst h0
  exact ⟨lo,cap,[],h1,h2,by rw[VRels];trivial,by rw[vslim];trivial,by rw[vsfit];trivial⟩
 ·obtain ⟨g,off,rfl,hg,hh⟩:=h3 h0
  refine ⟨_,cap,l,h1,h2,vrels_of (P:=fun k=>k<W.heap.size) hg hg l 0 (fun j hj=>?_),vslim_of (fun y hy=>?_),vsfit_of (fun y hy=>?_)⟩
  ·obtain ⟨ds,h4,h5⟩:=hh j hj
   exact ⟨ds,by rw[Nat.zero_add];exact h4,h5.1⟩
  ·obtain ⟨j,hj,rfl⟩:=List.getElem_of_mem hy
   obtain ⟨ds,h4,h5⟩:=hh j hj;exact h5.2.1
  ·obtain ⟨j,hj,rfl⟩:=List.getElem_of_mem hy
   obtain ⟨ds,h4,h5⟩:=hh j hj;exact h5.2.2
theorem kslice_tree {H:Type} {enc:TypeId × Value→H} {W:World} {sp:Nat→Bool} {t:TypeId} {fuel:Nat} {cs:List Value} {x:DataW H × List MemPlace} (ht:Tryz.prog.underlying t=some (.slice 79))
  (hel:∀ n,n<fuel→∀ cs x,DataW.trod enc Tryz.prog W 0 sp true n 79 cs=some x→∃ a:KV,KRel W (fun k=>k<W.heap.size) a cs∧klim a∧kfit a) (h:DataW.trod enc Tryz.prog W 0 sp true fuel t cs=some x) :
  ∃ (lo:Option Addr) (cap:Nat) (l:List KV),cs=[.slice lo l.length cap]∧l.length≤9223372036854775807∧KRels W (fun k=>k<W.heap.size) l lo 0∧kslim l∧ksfit l:=by
 obtain ⟨lo,cap,l,h1,h2,h3⟩:=slice_tree (fun (a:KV) cs=>KRel W (fun k=>k<W.heap.size) a cs∧klim a∧kfit a) (c:=11) (by kernel_rfl) (by decide) ht hel h
 by_cases h0:l=[]
 ·subst h0
  exact ⟨lo,cap,[],h1,h2,by rw[KRels];trivial,by rw[kslim];trivial,by rw[ksfit];trivial⟩
 ·obtain ⟨g,off,rfl,hg,hh⟩:=h3 h0
  refine ⟨_,cap,l,h1,h2,krels_of (P:=fun k=>k<W.heap.size) hg hg l 0 (fun j hj=>?_),kslim_of (fun y hy=>?_),ksfit_of (fun y hy=>?_)⟩
  ·obtain ⟨ds,h4,h5⟩:=hh j hj
   exact ⟨ds,by rw[Nat.zero_add];exact h4,h5.1⟩
  ·obtain ⟨j,hj,rfl⟩:=List.getElem_of_mem hy
   obtain ⟨ds,h4,h5⟩:=hh j hj;exact h5.2.1
  ·obtain ⟨j,hj,rfl⟩:=List.getElem_of_mem hy
   obtain ⟨ds,h4,h5⟩:=hh j hj;exact h5.2.2
theorem tree_all {H:Type}{enc:TypeId × Value→H}{W:World}{sp:Nat→Bool}:∀ (N n:Nat),n<N→(∀ cs x,DataW.trod enc Tryz.prog W 0 sp true n 77 cs=some x→∃ a:Val,VRel W (fun k=>k<W.heap.size) a cs∧vlim a∧vfit a)∧(∀ cs x,DataW.trod enc Tryz.prog W 0 sp true n 79 cs=some x→∃ a:KV,KRel W (fun k=>k<W.heap.size) a cs∧klim a∧kfit a)
 | 0,_,h=>by omega
 | N+1,n,hn=>by
  have ih:=tree_all (enc:=enc) (W:=W) (sp:=sp) N;refine ⟨fun cs x h=>?_,fun cs x h=>?_⟩
  ·obtain ⟨f0,f1,f2,f3,f4,f5,f6,f7,hT,ce,⟨o0,o1,o2,o3,o4,o5,o6,o7⟩,⟨c0,c1,c2,c3,c4,c5,c6,c7⟩,⟨t0,t1,t2,t3,t4,t5,t6,t7⟩⟩:=val_shape
   obtain ⟨xs,n',hf,_,hl,hlen,hx⟩:=DataW.trod_struct hT h;rw[ce] at hl
   obtain ⟨V0,V1,V2,V3,V4,V5,V6,V7,rfl⟩:∃ V0 V1 V2 V3 V4 V5 V6 V7,cs=[V0,V1,V2,V3,V4,V5,V6,V7]:=by
    match cs,hl with
    | [a,b,c,d,e,f,g,h],_=>exact ⟨a,b,c,d,e,f,g,h,rfl⟩
   match xs,hlen with
   | [y0,y1,y2,y3,y4,y5,y6,y7],_ =>
   have g0:=hx 0 f0 rfl;have g1:=hx 1 f1 rfl;have g2:=hx 2 f2 rfl;have g3:=hx 3 f3 rfl;have g4:=hx 4 f4 rfl;have g5:=hx 5 f5 rfl;have g6:=hx 6 f6 rfl;have g7:=hx 7 f7 rfl;rw[o0,c0] at g0;rw[o1,c1] at g1;rw[o2,c2] at g2;rw[o3,c3] at g3;rw[o4,c4] at g4;rw[o5,c5] at g5;rw[o6,c6] at g6;rw[o7,c7] at g7;obtain ⟨z0,e0,_,w0⟩:=DataW.trod_int t0 g0;obtain ⟨z1,e1,_,w1⟩:=DataW.trod_string t1 g1;obtain ⟨z2,e2,_⟩:=DataW.trod_bool t2 g2;obtain ⟨z3,e3,_,w3⟩:=DataW.trod_int t3 g3;obtain ⟨lo,lc,l,e4,b4,r4,m4,n4⟩:=vslice_tree t4 (fun q hq=>(ih q (by omega)).1) g4;obtain ⟨mo,mc,m,e5,b5,r5,m5,n5⟩:=kslice_tree t5 (fun q hq=>(ih q (by omega)).2) g5;obtain ⟨z6,e6,_,w6⟩:=DataW.trod_string t6 g6;obtain ⟨z7,e7,_,w7⟩:=DataW.trod_string t7 g7
   simp only[List.drop_zero,List.drop_succ_cons,List.take_succ_cons,List.take_zero,List.cons.injEq,and_true] at e0 e1 e2 e3 e4 e5 e6 e7
   subst e0 e1 e2 e3 e4 e5 e6 e7
   simp[Lit.wf,IntKind.min,IntKind.max,IntKind.signed,IntKind.bits] at w0 w3
   obtain ⟨k3,rfl⟩:∃ k:Nat,z3=(k:Int):=⟨z3.toNat,by omega⟩
   have w1':z1.size≤9223372036854775807:=w1;have w6':z6.size≤9223372036854775807:=w6;have w7':z7.size≤9223372036854775807:=w7;refine ⟨.mk z0 z1.data.toList z2 k3 l m z6.data.toList z7.data.toList,?_,?_,?_⟩
   ·rw[VRel]
    exact ⟨lo,lc,mo,mc,by simp[strV],r4,r5⟩
   ·rw[vlim]
    exact ⟨b4,b5,m4,m5⟩
   ·rw[vfit]
    exact ⟨by omega,by omega,by simpa using w1',by simpa using w6',by simpa using w7',n4,n5⟩
  ·obtain ⟨f0,f1,f2,f3,hT,ce,⟨o0,o1,o2,o3⟩,⟨c0,c1,c2,c3⟩,⟨t0,t1,t2,t3⟩⟩:=key_shape
   obtain ⟨xs,n',hf,_,hl,hlen,hx⟩:=DataW.trod_struct hT h;rw[ce] at hl
   obtain ⟨V0,V1,V2,V3,V4,V5,V6,V7,V8,V9,V10,rfl⟩:∃ V0 V1 V2 V3 V4 V5 V6 V7 V8 V9 V10,cs=[V0,V1,V2,V3,V4,V5,V6,V7,V8,V9,V10]:=by
    match cs,hl with
    | [a,b,c,d,e,f,g,h,i,j,k],_=>exact ⟨a,b,c,d,e,f,g,h,i,j,k,rfl⟩
   match xs,hlen with
   | [y0,y1,y2,y3],_ =>
   have g0:=hx 0 f0 rfl;have g1:=hx 1 f1 rfl;have g2:=hx 2 f2 rfl;have g3:=hx 3 f3 rfl;rw[o0,c0] at g0;rw[o1,c1] at g1;rw[o2,c2,t2] at g2;rw[o3,c3] at g3;obtain ⟨z0,e0,_,w0⟩:=DataW.trod_string t0 g0;obtain ⟨z1,e1,_⟩:=DataW.trod_bool t1 g1;obtain ⟨z3,e3,_,w3⟩:=DataW.trod_string t3 g3;obtain ⟨v,hv,hvl,hvf⟩:=(ih n' (by omega)).1 _ _ g2
   simp only[List.drop_zero,List.drop_succ_cons,List.take_succ_cons,List.take_zero,List.cons.injEq,and_true] at e0 e1 e3 hv
   subst e0 e1 e3;have w0':z0.size≤9223372036854775807:=w0;have w3':z3.size≤9223372036854775807:=w3;refine ⟨.mk z0.data.toList z1 v z3.data.toList,?_,?_,?_⟩
   ·rw[KRel]
    exact ⟨_,hv,by simp[strV]⟩
   ·rw[klim]
    exact hvl
   ·rw[kfit]
    exact ⟨by simpa using w0',by simpa using w3',hvf⟩
end Go.Proofs.YtficgfemmijaaaaGreatDoor
