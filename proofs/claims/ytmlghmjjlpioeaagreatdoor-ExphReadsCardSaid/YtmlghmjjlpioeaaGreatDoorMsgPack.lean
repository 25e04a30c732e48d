/-
  message.pack of varints.
-/
import Derived.Test.YtmlghmjjlpioeaaGreatDoorMsgWrite
import Derived.Laws.OwnMore
set_option maxRecDepth 1000000
set_option maxHeartbeats 16000000
namespace Go.Proofs.YtmlghmjjlpioeaaGreatDoor
open Go.RowKit
open Lib (hid)
theorem Zc {P:Program} {w:World} {ops:Array Oper} {rest:List Oper} {o:Oper} {a:Act} {Q:Exit->Act->World->Prop} (s x:Operand) (t:TypeId)
  (ho:o.op=.call { callee := .builtin .append,args:=#[s,x],argTypes:=#[t,t] }) (hg:o.guard=none)
  {base:Nat} {e:TypeId} {z:Value} {bytes:Nat} (he:Elem P t e z 1 bytes)
  {v:Value} {n:Nat} {xs:List Value} (hown:w.ownsRow base e 1 v n xs) (hs:a.eval s=v)
  {ao:Option Addr} {cap:Nat} {l:List Nat} (hu:Nats .u64 w ao l) (hnil:ao=none->cap=0) (hx:a.eval x=.slice ao l.length cap)
  (h63:n+l.length<=maxLen) (hbytes:(n+l.length)*bytes<=140737488355328) (hbase:base<=w.heap.size)
  (h:∀v' w',w'.ownsRow base e 1 v' (n+l.length) (xs++k0 l)->w.grownBy w' v.ownBlock->(∀k,v'.ownBlock=some k->v.ownBlock=some k∨w.heap.size<=k)->wpList P ops Q rest (a.put o.dst v') w'):wpList P ops Q (o::rest) a w:=by
 obtain⟨ht,hi0,hzs⟩:=he;obtain⟨i,hi,hz,hsize,hby⟩:=info_parts hi0
 have key:∀AD:Addr,ao=some AD->(∀j (y:Value),(k0 l)[j]?=some y->w.cell? (AD.add j)=some y)->wpList P ops Q (o::rest) a w:=by
  intro AD hA hcell;refine wpList_append_own_at w hg s x t ho base e i z 1 bytes ht hi hz hsize hby hzs (by decide) v n xs hs hown AD l.length cap (k0 l) (by rw[hx,hA]) (by simp[k0]) ?_ ?_ h63 hbytes hbase fun v' w' h2 h3 _ h5=>h v' w' h2 h3 (fun k hk=>?_)
  ·exact hcell
  ·intro y hy
   obtain⟨q,_,rfl⟩:=List.mem_map.1 hy
   rfl
  ·rcases h5 with h5|h5
   ·exact .inl (h5 ▸ hk)
   ·rw[h5]at hk;exact .inr (by have:=Option.some.inj hk;omega)
 by_cases hl:l=[]
 ·subst hl
  cases ao with
  | none =>
   refine wpList_append_own_none hg s x t ho base e i 1 ht hi v n xs hs hown (by rw[hx,hnil rfl];rfl) ?_;exact h v w (by simpa [k0] using hown) ⟨rfl,rfl,rfl,Nat.le_refl _,fun _ _ _=>rfl⟩ (fun k hk => .inl hk)
  | some AD=>exact key AD rfl (fun j y hy=>by simp[k0]at hy)
 ·obtain⟨b,off,hA,_,hc⟩:=hu hl
  refine key _ hA fun j y hj=>?_
  have hj':j<l.length:=by
   have:=(List.getElem?_eq_some_iff.1 hj).1
   simpa [k0] using this
  have hadd:(⟨b,off,none⟩:Addr).add j=⟨b,off+j,none⟩:=by unfold Addr.add;split<;>simp_all
  rw[hadd,hc j hj']
  simpa [k0,List.getElem?_eq_getElem hj'] using hj
theorem z9q {w:World}{base:Nat}{e:TypeId}{size:Nat}{v:Value}{n:Nat}{xs:List Value}(h:w.ownsRow base e size v n xs):∀ao m cap,v=.slice ao m cap->ao=none->cap=0:=by
 rintro ao m cap rfl rfl
 rcases h.2 with ⟨h1,_⟩|⟨g,cap',cur,h1,_⟩
 ·simp only[Value.slice.injEq]at h1;exact h1.2.2
 ·simp only[Value.slice.injEq]at h1;cases h1.1
def qz (xs:List Nat)(r:Rec):Except Nat (List Nat):=if r.ty≠2 then .ok (xs++[r.n])else match xj r.s with
 | .error c => .error c
 | .ok ns => .ok (xs++ns)
def Qd (cs:Array Value)(T:TypeId)(b o:Nat)(v:Value)(B:Nat)(xs:List Nat)(r:Rec)(w:World)(e:Ending)(w':World):Prop :=
 Upd (fun k=>k=b∨v.ownBlock=some k) w w'/\match qz xs r with
  | .error c=>∃x,e=.returned x/\EC w' x c
  | .ok ys=>e=.returned .nilIface/\∃v',w'.heap[b]?=some (.cells (cs.setIfInBounds o v') T (0,0))/\w'.ownsRow B 24 1 v' ys.length (y9 ys)/\∀k,v'.ownBlock=some k->v.ownBlock=some k∨w.heap.size<=k
theorem pk_ok {cs:Array Value}{T:TypeId}{b o:Nat}{v:Value}{B:Nat}{xs:List Nat}{r:Rec}{w w2:World}{v':Value}{ys:List Nat}(hp:qz xs r=.ok ys)(hrow:w2.heap[b]?=some (.cells cs T (0,0)))(hu:Upd (fun k=>k=b∨v.ownBlock=some k) w w2)(hown:w2.ownsRow B 24 1 v' ys.length (y9 ys))(hb:b<B)(hn:∀k,v'.ownBlock=some k->v.ownBlock=some k∨w.heap.size<=k) :
  Qd cs T b o v B xs r w (.returned .nilIface) (w2.setCell ⟨b,o,none⟩ v'):=by
 have hu2:=Upd.set w2 ⟨b,o,none⟩ v';refine⟨hu.trans (hu2.mono fun k _ hk => .inl hk),?_⟩;rw[hp];refine⟨rfl,v',ze hrow o v',hu2.own hown (fun k hk h=>?_),hn⟩;have e:k=b:=h;have:=(hown.lt k hk).1;omega
def PkS (rb b o:Nat)(r:Rec)(v:Value)(w':World):Prop:=w'.heap[rb]?=some (.cells #[.int .i64 r.num,.int .i64 r.ty,.int .u64 r.n,.string ⟨r.s.toArray⟩,.string ⟨r.raw.toArray⟩] 78 (0,0))/\w'.cell? ⟨b,o,none⟩=some v
theorem PkS.upd {rb b o:Nat}{r:Rec}{v:Value}{w w':World}{S:Nat->Prop}(h:PkS rb b o r v w)(hu:Upd S w w')(h1:¬S rb)(h2:¬S b)(hb:b<w.heap.size):PkS rb b o r v w' :=
 ⟨(hu.block _ (z8 h.1) h1).trans h.1,(hu.cell (a:=⟨b,o,none⟩) hb h2).trans h.2⟩
theorem zfn {cs:Array Value}{T:TypeId}(b o:Nat)(v:Value)(xs:List Nat)(B:Nat)(r:Rec)(FR:Nat)(w:World)(hrow:Hid (w.heap[b]?=some (.cells cs T (0,0))))(hcs:cs[o]?=some v)(hown:w.ownsRow B 24 1 v xs.length (y9 xs))(hbB:b<B)(hB:B<=w.heap.size)(hx:xs.length<=1000000)(hty:r.ty≠2) :
  Calls Tryz.prog 106 #[.pointer (some ⟨b,o,none⟩),recV r,.func (.func FR) #[] #[]] w (Qd cs T b o v B xs r w):=by
 have HP:Hid (qz xs r=.ok (xs++[r.n])):=hid (if_pos hty);have d1:((r.ty:Int) != 2)=true:=by rw[bne_iff_ne];omega
 obtain⟨ao,cap,rfl⟩:=zh hown;have HO:=hid hown;clear hown hty;unfold recV;go_enter Tryz.func106,Tryz.ntmps106;go_wp2_with fail;obtain⟨W0,hW0⟩:=nmd (w.alloc (.cells #[.int .i64 r.num,.int .i64 r.ty,.int .u64 r.n,.string ⟨r.s.toArray⟩,.string ⟨r.raw.toArray⟩] 78))
 rw[hW0];have HRB:Hid (W0.heap[w.heap.size]?=some (.cells #[.int .i64 r.num,.int .i64 r.ty,.int .u64 r.n,.string ⟨r.s.toArray⟩,.string ⟨r.raw.toArray⟩] 78 (0,0))):=hid (by rw[<-hW0];exact heap_alloc_new w _);have HU0:Hid (Upd (fun _=>False) w W0):=hid (by rw[<-hW0];exact Upd.alloc _ _ _);clear hW0;have HRW0:Hid (W0.heap[b]?=some (.cells cs T (0,0))):=hid ((HU0.out.block b (z8 hrow.out) (fun h=>h)).trans hrow.out);have hS:PkS w.heap.size b o r (.slice ao xs.length cap) W0.drew:=⟨HRB.out,za HRW0.out (j:=o) hcs⟩
 have hne:Nonempty { w':World // PkS w.heap.size b o r (.slice ao xs.length cap) w' }:=⟨⟨_,hS⟩⟩
 have hx2:∀t:{ w':World // PkS w.heap.size b o r (.slice ao xs.length cap) w' },t.1.cell? ⟨w.heap.size,2,none⟩=some (.int .u64 r.n):=fun t=>za t.2.1 (j:=2) rfl
 have hxb:∀t:{ w':World // PkS w.heap.size b o r (.slice ao xs.length cap) w' },t.1.cell? ⟨b,o,none⟩=some (.slice ao xs.length cap):=fun t=>t.2.2
 have HO1:Hid (W0.drew.ownsRow B 24 1 (.slice ao xs.length cap) xs.length (y9 xs)):=hid (HU0.out.own HO.out (fun _ _ h=>h));have hbW:w.heap.size<=W0.heap.size:=HU0.out.size;refine Zl (PkS w.heap.size b o r (.slice ao xs.length cap)) [9] [(0,true),(1,true),(2,true),(3,true),(4,true),(5,true),(6,false),(7,false),(8,true),(9,false)] (by kernel_rfl) (by kernel_rfl) (by kernel_rfl) (by kernel_rfl) ?_
 iterate 6 (refine X7 _ rfl hS (fun K hK=>?_);go_simp;refine hK _ ?_;clear hK K)
 refine Yc _ rfl (fun K hK=>?_);go_simp;have hS2:PkS w.heap.size b o r (.slice ao xs.length cap) (W0.drew.alloc (.cells #[.int .u64 r.n] 24)):=hS.upd (Upd.alloc (fun _=>False) _ _) (fun h=>h) (fun h=>h) (z8 HRW0.out);refine hK.out _ _ (fun _=>hS2) ?_;clear hK K;refine seqB_wp _ rfl rfl (fun K hK=>?_)
 refine Zg _ _ 27 rfl Tryz.elU64 (by decide) (HO1.out.alloc _) rfl (b:=W0.heap.size) (off:=0) (m:=1) (c:=1) (news:=[.int .u64 r.n]) rfl rfl (fun j u hj=>by
  have hj0:j=0:=by have:=(List.getElem?_eq_some_iff.1 hj).1;simp at this;omega
  subst hj0;exact(za (heap_alloc_new W0 (.cells #[.int .u64 r.n] 24)) (j:=0) rfl).trans (by simpa using hj)) (by simp[Value.oneCell']) (by unfold maxLen;omega) (by omega) (by simp;omega) (fun v' w2 hown2 hgrow hnew=>?_)
 have hgu:Upd (fun k=>(Value.slice ao xs.length cap).ownBlock=some k) (W0.drew.alloc (.cells #[.int .u64 r.n] 24)) w2:=Upd.of_grown hgrow;have hnb:¬(Value.slice ao xs.length cap).ownBlock=some b:=fun h=>by have:=(HO.out.lt b h).1;omega
 have hnr:¬(Value.slice ao xs.length cap).ownBlock=some w.heap.size:=fun h=>by have:=(HO.out.lt _ h).2;omega
 have hS3:=hS2.upd hgu hnr hnb (by have:=z8 HRW0.out;simp;omega);refine hK.out _ _ (fun _=>hS3) ?_;clear hK K;have HRW2:Hid (w2.heap[b]?=some (.cells cs T (0,0))):=hid ((hgu.block b (by have:=z8 HRW0.out;simp;omega) hnb).trans ((Below.heap_alloc _ _ _ (z8 HRW0.out)).trans HRW0.out));have hfz:w2.frozen? ⟨b,o,none⟩=false:=z7 HRW2.out o;obtain⟨ao',cap',rfl⟩:=zh hown2;refine X7 _ rfl hS3 (fun K hK=>?_);go_simp;refine hK _ ?_;clear hK K;have hcb2:w2.cell? ⟨b,o,none⟩=some (.slice ao xs.length cap):=hS3.2;refine Yc _ rfl (fun K hK=>?_);go_simp;refine hK.out _ _ (fun h=>by cases h) ?_;clear hK K;refine Qv ?_;have HU2:Hid (Upd (fun k=>k=b∨(Value.slice ao xs.length cap).ownBlock=some k) w w2):=hid (((HU0.out.mono fun _ _ h=>h.elim).trans ((Upd.drew _ W0).trans (Upd.alloc _ _ _))).trans (hgu.mono fun k _ h => .inr h));have HO2:Hid (w2.ownsRow B 24 1 (.slice ao' (xs.length+1) cap') (xs++[r.n]).length (y9 (xs++[r.n]))):=hid (by rw[List.length_append];unfold y9 at hown2 ⊢;rw[List.map_append];exact hown2)
 have HN:Hid (∀k,(Value.slice ao' (xs.length+1) cap').ownBlock=some k->(Value.slice ao xs.length cap).ownBlock=some k∨w.heap.size<=k):=hid (fun k hk=>by
  rcases hnew k hk with h|h
  ·exact .inl h
  ·right;rw[h];simp;omega)
 clear hx2 hxb hne hS hS2 hS3 hown2 hgrow hnew hgu hnb hnr hcb2 hfz;go_wp2_with fail;go_ret;exact pk_ok HP.out HRW2.out HU2.out HO2.out hbB HN.out
theorem zdx {cs:Array Value}{T:TypeId}(b o:Nat)(v:Value)(xs:List Nat)(B:Nat)(r:Rec)(w:World)(hrow:Hid (w.heap[b]?=some (.cells cs T (0,0))))(hcs:cs[o]?=some v)(hown:w.ownsRow B 24 1 v xs.length (y9 xs))(hbB:b<B)(hB:B<=w.heap.size)(hx:xs.length<=1000000)(hty:r.ty=2)(hs:r.s.length<=1000000) :
  Calls Tryz.prog 106 #[.pointer (some ⟨b,o,none⟩),recV r,.func (.func 107) #[] #[]] w (Qd cs T b o v B xs r w):=by
 have HTY:=hid hty;have d1:((r.ty:Int) != 2)=false:=by rw[hty];rfl
 obtain⟨ao,cap,rfl⟩:=zh hown;have HO:=hid hown;obtain⟨X,hX⟩:∃X:ByteArray,(⟨r.s.toArray⟩:ByteArray)=X:=⟨_,rfl⟩
 have hXs:X.size=r.s.length:=by rw[<-hX];simp[ByteArray.size]
 have HXD:Hid (X.data.toList=r.s):=hid (by rw[<-hX]);have HX:=hid hX;clear hown hty;unfold recV;rw[hX];clear hX;go_enter Tryz.func106,Tryz.ntmps106;go_wp2_with fail;have HU0:Hid (Upd (fun _=>False) w (w.alloc (.cells #[.int .i64 r.num,.int .i64 r.ty,.int .u64 r.n,.string X,.string ⟨r.raw.toArray⟩] 78))):=hid (Upd.alloc _ _ _);refine(z8d X _ (by omega)).mono ?_;intro e w1 hpost;unfold Yr at hpost
 rw[HXD.out]at hpost
 cases hv:xj r.s with
 | error c =>
  rw[hv]at hpost;obtain⟨x,rfl,q,hq,⟨a,ha,rfl,hac⟩,hbe⟩:=hpost;have HP:Hid (qz xs r=.error c):=hid (by unfold qz;rw[if_neg (by rw[HTY.out];simp),hv]);have HU1:Hid (Upd (fun _=>False) w w1):=hid (HU0.out.trans (Upd.of_new hbe));have HAC:=hid hac;have HA:Hid (w.heap.size<=a):=hid (by have:=HU0.out.size;omega);have HRW1:Hid (w1.heap[b]?=some (.cells cs T (0,0))):=hid ((HU1.out.block b (z8 hrow.out) (fun h=>h)).trans hrow.out);have hcb:w1.cell? ⟨b,o,none⟩=some (.slice ao xs.length cap):=za HRW1.out (j:=o) hcs;have hfz:w1.frozen? ⟨b,o,none⟩=false:=z7 HRW1.out o;have HO1:Hid (w1.ownsRow B 24 1 (.slice ao xs.length cap) xs.length (y9 xs)):=hid (HU1.out.own HO.out (fun _ _ h=>h));have hBw:B<=w1.heap.size:=by have:=HU1.out.size;omega
  clear hv hbe hac ha;go_wp2_with (at_builtin;refine z2i _ _ 27 rfl rfl Tryz.elU64 HO1.out rfl (ao:=none) (cap:=0) (l:=[]) (fun h=>absurd rfl h) (fun _=>rfl) rfl (by unfold maxLen;simp;omega) (by simp;omega) hBw ?_;intro v' w2 hown2 hgrow;obtain⟨ao',cap',rfl⟩:=zh hown2;have HRW2:Hid (w2.heap[b]?=some (.cells cs T (0,0))):=hid ((hgrow.block _ (z8 HRW1.out) (fun e=>by have h7:=(HO.out.lt _ e.symm).1;omega)).trans HRW1.out);have hcb2:w2.cell? ⟨b,o,none⟩=some (.slice ao xs.length cap):=za HRW2.out (j:=o) hcs;have hfz2:w2.frozen? ⟨b,o,none⟩=false:=z7 HRW2.out o);go_ret;have hu2:=Upd.of_grown hgrow;refine⟨((HU1.out.mono fun _ _ h=>h.elim).trans (hu2.mono fun k _ h => .inr h)).trans ((Upd.set w2 _ _).mono fun k _ hk => .inl hk),?_⟩;rw[HP.out];refine⟨_,rfl,[(true,(q:Int))],z4k ?_⟩;have hna:¬(Value.slice ao xs.length cap).ownBlock=some a:=fun h=>by have:=(HO.out.lt _ h).2;have:=HA.out;omega
  have hbw:=z8 hrow.out;exact((Upd.set w2 ⟨b,o,none⟩ _).block a (Nat.lt_of_lt_of_le (z8 HAC.out) hu2.size) (fun e=>by have e:a=b:=e;have:=HA.out;omega)).trans ((hu2.block a (z8 HAC.out) hna).trans HAC.out)
 | ok ns =>
  rw[hv]at hpost;obtain⟨u,rfl,hown1,hnl,hb1⟩:=hpost;have hnil:=z9q hown1;obtain⟨uo,ucap,rfl⟩:=zh hown1;have HP:Hid (qz xs r=.ok (xs++ns)):=hid (by unfold qz;rw[if_neg (by rw[HTY.out];simp),hv]);have HU1:Hid (Upd (fun _=>False) w w1):=hid (HU0.out.trans (Upd.of_new hb1));have HNS:Hid (Nats .u64 w1 uo ns):=hid (z1s hown1);have HRW1:Hid (w1.heap[b]?=some (.cells cs T (0,0))):=hid ((HU1.out.block b (z8 hrow.out) (fun h=>h)).trans hrow.out);have hcb:w1.cell? ⟨b,o,none⟩=some (.slice ao xs.length cap):=za HRW1.out (j:=o) hcs;have HO1:Hid (w1.ownsRow B 24 1 (.slice ao xs.length cap) xs.length (y9 xs)):=hid (HU1.out.own HO.out (fun _ _ h=>h));have hBw:B<=w1.heap.size:=by have:=HU1.out.size;omega
  have HNIL:Hid (uo=none->ucap=0):=hid (fun h=>hnil uo _ ucap rfl h);have hnl2:ns.length<=1000000:=by omega
  clear hv hb1 hown1 hnil hnl;go_wp2_with (at_builtin;refine Zc _ _ 27 rfl rfl Tryz.elU64 HO1.out rfl HNS.out HNIL.out rfl (by unfold maxLen;omega) (by omega) hBw ?_;intro v' w2 hown2 hgrow hnew;obtain⟨ao',cap',rfl⟩:=zh hown2;have HRW2:Hid (w2.heap[b]?=some (.cells cs T (0,0))):=hid ((hgrow.block _ (z8 HRW1.out) (fun e=>by have h7:=(HO.out.lt _ e.symm).1;omega)).trans HRW1.out);have hcb2:w2.cell? ⟨b,o,none⟩=some (.slice ao xs.length cap):=za HRW2.out (j:=o) hcs;have hfz2:w2.frozen? ⟨b,o,none⟩=false:=z7 HRW2.out o);go_ret;have hu2:=Upd.of_grown hgrow;have HU2:Hid (Upd (fun k=>k=b∨(Value.slice ao xs.length cap).ownBlock=some k) w w2):=hid ((HU1.out.mono fun _ _ h=>h.elim).trans (hu2.mono fun k _ h => .inr h));refine pk_ok HP.out HRW2.out HU2.out ?_ hbB (fun k hk=>?_)
  ·rw[List.length_append]
   unfold y9;rw[List.map_append];exact hown2
  ·rcases hnew k hk with h|h
   ·exact .inl h
   ·exact .inr (by have:=HU1.out.size;omega)
end Go.Proofs.YtmlghmjjlpioeaaGreatDoor
