/-
  A drawn region in which two or three operations come up in any order.
-/
import Derived.Test.YtmlghmjjlpioeaaOrd
import Derived.Shelf.Strings.OnBuilder
import Derived.Test.YtmlghmjjlpioeaaProg
import Derived.Test.YtmlghmjjlpioeaaKit
import Derived.Test.YtmlghmjjlpioeaaMsgMath
import Derived.Test.YtmlghmjjlpioeaaWireR5
import Derived.Test.YtmlghmjjlpioeaaUpd
import Derived.Deep.LoopGhost
import Derived.Test.YtmlghmjjlpioeaaUtf2
import Derived.Deep.Cut
import Derived.Deep.MidRow
import Derived.Laws.Tables
import Derived.Laws.CopyOwn
namespace Go.Proofs.Ytmlghmjjlpioeaa
open Go.RowKit
open Lib (hid)
section
variable {P:Program} {ops:Array Oper} {Q:Exit→Act→World→Prop} {S:World→Prop}
inductive OT3 where
 | done
 | take (i:Nat) (t:OT3)
 | come (i:Nat) (t:OT3)
 | two (i j:Nat) (t1 t2:OT3)
 | three (i j k:Nat) (t1 t2 t3:OT3)
def OT3.len:OT3→Nat
 | .done=>0
 | .take _ t=>t.len+1
 | .come _ t=>t.len+1
 | .two _ _ t1 _=>t1.len+1
 | .three _ _ _ t1 _ _=>t1.len+1
def ordOK3 (ops:Array Oper):OT3→Array Bool→Bool
 | .done,listed=>(Region.ready .any ops listed).isEmpty
 | .take i t,listed=>Region.free .any ops listed i&&(Region.ready .any ops listed).contains i&&ordOK3 ops t (listed.setIfInBounds i true)
 | .come i t,listed=>decide (Region.ready .any ops listed=[i])&&ordOK3 ops t (listed.setIfInBounds i true)
 | .two i j t1 t2,listed=>decide (Region.ready .any ops listed=[i,j])&&decide (t1.len=t2.len)&&ordOK3 ops t1 (listed.setIfInBounds i true)&&ordOK3 ops t2 (listed.setIfInBounds j true)
 | .three i j k t1 t2 t3,listed=>decide (Region.ready .any ops listed=[i,j,k])&&decide (t1.len=t2.len)&&decide (t1.len=t3.len)&&ordOK3 ops t1 (listed.setIfInBounds i true)&&ordOK3 ops t2 (listed.setIfInBounds j true)&&ordOK3 ops t3 (listed.setIfInBounds k true)
def wpSeq3 (P:Program)(ops:Array Oper)(Q:Exit→Act→World→Prop)(S:World→Prop):OT3→Act→World→Prop
 | .done,a,w=>Q .normal a w
 | .take i t,a,w=>∃ o,ops[i]? = some o∧seqTake P ops S o a (fun a'=>wpSeq3 P ops Q S t a' w)
 | .come i t,a,w=>∃ o,ops[i]? = some o∧seqCome P ops Q o a w (fun a' w'=>S w'∧wpSeq3 P ops Q S t a' w')
 | .two i j t1 t2,a,w=>(∃ o,ops[i]? = some o∧seqCome P ops Q o a w (fun a' w'=>S w'∧wpSeq3 P ops Q S t1 a' w'))∧(∃ o,ops[j]? = some o∧seqCome P ops Q o a w (fun a' w'=>S w'∧wpSeq3 P ops Q S t2 a' w'))
 | .three i j k t1 t2 t3,a,w=>(∃ o,ops[i]? = some o∧seqCome P ops Q o a w (fun a' w'=>S w'∧wpSeq3 P ops Q S t1 a' w'))∧(∃ o,ops[j]? = some o∧seqCome P ops Q o a w (fun a' w'=>S w'∧wpSeq3 P ops Q S t2 a' w'))∧(∃ o,ops[k]? = some o∧seqCome P ops Q o a w (fun a' w'=>S w'∧wpSeq3 P ops Q S t3 a' w'))
theorem wpAnyH_of_seq3 (hsel:Region.noSelect ops=true)(hQ:∀ c a d v w,Q (.panic c) (a.put d v) w→Q (.panic c) a w):∀ (t:OT3) (listed:Array Bool) (a:Act) (w:World),
  ordOK3 ops t listed=true→S w→wpSeq3 P ops Q S t a w→wpAnyH P .any ops Q S t.len listed a w
 | .done,listed,a,w,hB,_,h=>wpAnyH_done (by simpa [ordOK3,List.isEmpty_iff] using hB) h _
 | .take i t,listed,a,w,hB,hS,h=>by
  simp only[ordOK3,Bool.and_eq_true] at hB
  obtain ⟨⟨hf,hr⟩,hB'⟩:=hB
  obtain ⟨o,ho,v,hv,hn⟩:=h
  refine wpAnyH_take ho hsel hf hr (fun c a w=>hQ c a _ _ w) (v:=v) ?_ hS (wpAnyH_of_seq3 hsel hQ t _ _ w hB' hS hn)
  split at hv
  ·rename_i hw;exact .inl ⟨hw,fun w hw'=>hv ⟨w,hw'⟩⟩
  ·rename_i hw;exact .inr ⟨by simpa using hw,hv⟩
 | .come i t,listed,a,w,hB,hS,h=>by
  simp only[ordOK3,Bool.and_eq_true,decide_eq_true_eq] at hB
  obtain ⟨hr,hB'⟩:=hB
  obtain ⟨o,ho,hc⟩:=h
  refine wpAnyH_all hr (by simp) fun j hj=>?_
  obtain rfl:=List.mem_singleton.1 hj
  exact come_all ho (seqCome_mono (fun a' w' hh=>⟨hh.1,wpAnyH_of_seq3 hsel hQ t _ a' w' hB' hh.1 hh.2⟩) hc)
 | .two i j t1 t2,listed,a,w,hB,hS,h=>by
  simp only[ordOK3,Bool.and_eq_true,decide_eq_true_eq] at hB
  obtain ⟨⟨⟨hr,hl⟩,hB1⟩,hB2⟩:=hB
  obtain ⟨⟨oi,hoi,hA⟩,⟨oj,hoj,hC⟩⟩:=h
  refine wpAnyH_all hr (by simp) fun k hk=>?_
  have hk':k=i∨k=j:=by simpa using hk
  rcases hk' with rfl|rfl
  ·exact come_all hoi (seqCome_mono (fun a' w' hh=>⟨hh.1,wpAnyH_of_seq3 hsel hQ t1 _ a' w' hB1 hh.1 hh.2⟩) hA)
  ·refine come_all hoj (seqCome_mono (fun a' w' hh=>⟨hh.1,?_⟩) hC)
   rw[hl]
   exact wpAnyH_of_seq3 hsel hQ t2 _ a' w' hB2 hh.1 hh.2
 | .three i j k t1 t2 t3,listed,a,w,hB,hS,h=>by
  simp only[ordOK3,Bool.and_eq_true,decide_eq_true_eq] at hB
  obtain ⟨⟨⟨⟨⟨hr,hl⟩,hl3⟩,hB1⟩,hB2⟩,hB3⟩:=hB
  obtain ⟨⟨oi,hoi,hA⟩,⟨oj,hoj,hC⟩,⟨ok,hok,hD⟩⟩:=h
  refine wpAnyH_all hr (by simp) fun m hm=>?_
  have hm':m=i∨m=j∨m=k:=by simpa using hm
  rcases hm' with rfl|rfl|rfl
  ·exact come_all hoi (seqCome_mono (fun a' w' hh=>⟨hh.1,wpAnyH_of_seq3 hsel hQ t1 _ a' w' hB1 hh.1 hh.2⟩) hA)
  ·refine come_all hoj (seqCome_mono (fun a' w' hh=>⟨hh.1,?_⟩) hC)
   rw[hl]
   exact wpAnyH_of_seq3 hsel hQ t2 _ a' w' hB2 hh.1 hh.2
  ·refine come_all hok (seqCome_mono (fun a' w' hh=>⟨hh.1,?_⟩) hD)
   rw[hl3]
   exact wpAnyH_of_seq3 hsel hQ t3 _ a' w' hB3 hh.1 hh.2
theorem wp_region_seq3 {id:Nat} {a:Act} {w:World} {l:List Oper} (t:OT3) (hm:P.follows .mixedOrders=true) (hsel:Region.noSelect l.toArray=true) (hlen:t.len=l.toArray.size)
  (hB:ordOK3 l.toArray t (Array.replicate l.toArray.size false)=true) (hS:S w.drew)
  (h:wpSeq3 P l.toArray (NoPanic Q) S t a w.drew):(Code.region id l.toArray true).wp P Q a w:=by
 refine wp_region_noPanic (wp_region_held (S:=S) hm ?_)
 have:=wpAnyH_of_seq3 (S:=S) hsel (fun _ _ _ _ _ h=>(h:False).elim) t _ a w.drew hB hS h
 rw[hlen] at this
 exact this
theorem seq3_load {i:Nat} {t:OT3} {a:Act} {w:World} (o:Oper) (ho:ops[i]? = some o) (hw:Region.wanted o (yielded ops a.tmps)=true) (ty:TypeId) (x:Operand) (hop:o.op = .load ty x)
  (b:Nat) (hx:a.eval x = .pointer (some ⟨b,0,none⟩)) (cs:List Value) (d:TypeDesc) (hc:∀ t,S t→t.rangeAt b 0 cs) (hu:P.underlying ty=some d) (hd:d.isRow=true) (hi:(P.info? ty).map (·.size)=some cs.length)
  (h:wpSeq3 P ops Q S t (a.put o.dst (.agg cs.toArray)) w):wpSeq3 P ops Q S (.take i t) a w :=
 ⟨o,ho,.agg cs.toArray,by
  rw[if_pos hw]
  intro t
  unfold execOp
  simp only[hop,hx,Instr.loadAt,Instr.sureAddr,Sem.run_bind,Sem.run_pure,Result.andThen_ok,run_loadVar_mid t.1 b 0 ty cs d (hc _ t.2) hu hd hi],h⟩
theorem seq3_come {i:Nat} {t:OT3} {a:Act} {w:World} (o:Oper) (ho:ops[i]? = some o)
  (h:∀ K:Act→World→Prop,Hid (∀ a' w',S w'→wpSeq3 P ops Q S t a' w'→K a' w')→if Region.wanted o (yielded ops a.tmps) then o.wp P a w K Q else K (a.put o.dst undef) w):wpSeq3 P ops Q S (.come i t) a w :=
 ⟨o,ho,h _ (hid fun _ _ h1 h2=>⟨h1,h2⟩)⟩
theorem seq3_wp {i:Nat} {t:OT3} {a:Act} {w:World} (o:Oper) (ho:ops[i]? = some o) (hg:o.guard=none)
  (h:∀ K:Act→World→Prop,Hid (∀ a' w',S w'→wpSeq3 P ops Q S t a' w'→K a' w')→o.wp P a w K Q):wpSeq3 P ops Q S (.come i t) a w :=
 seq3_come o ho fun K hK=>by rw[if_pos (by simp[Region.wanted,hg])];exact h K hK
theorem seq3_two {i j:Nat}{t1 t2:OT3}{a:Act}{w:World}(h1:wpSeq3 P ops Q S (.come i t1) a w)(h2:wpSeq3 P ops Q S (.come j t2) a w):wpSeq3 P ops Q S (.two i j t1 t2) a w:=⟨h1,h2⟩
theorem seq3_three {i j k:Nat}{t1 t2 t3:OT3}{a:Act}{w:World}(h1:wpSeq3 P ops Q S (.come i t1) a w)(h2:wpSeq3 P ops Q S (.come j t2) a w)(h3:wpSeq3 P ops Q S (.come k t3) a w):wpSeq3 P ops Q S (.three i j k t1 t2 t3) a w:=⟨h1,h2,h3⟩
theorem seq3_done {a:Act}{w:World}(h:Q .normal a w):wpSeq3 P ops (NoPanic Q) S .done a w:=h
theorem region_three {id:Nat} {l:List Oper} {a:Act} {w:World} (put:Act→Nat→Nat→Nat→Act) (F:World→Nat→Nat→Nat→Prop)
  (h1:(Code.region id l.toArray true).wp P (fun ex a' w'=>ex = .normal∧∃ x y z,F w' x y z∧a'=put a x y z) a w)
  (h2:∀ x y z w',F w' x y z→Q .normal (put a x y z) w'):(Code.region id l.toArray true).wp P Q a w :=
 Code.wp_mono (fun e a' w' ⟨he,x,y,z,hF,ha⟩=>by rw[he,ha];exact h2 x y z w' hF) h1
end
theorem alloc3 (D:World)(c0 c1 c2:Array Value)(T0 T1 T2:TypeId):(((D.alloc (.cells c0 T0)).alloc (.cells c1 T1)).alloc (.cells c2 T2)).heap[D.heap.size]? = some (.cells c0 T0 (0,0))∧(((D.alloc (.cells c0 T0)).alloc (.cells c1 T1)).alloc (.cells c2 T2)).heap[D.heap.size+1]? = some (.cells c1 T1 (0,0))∧(((D.alloc (.cells c0 T0)).alloc (.cells c1 T1)).alloc (.cells c2 T2)).heap[D.heap.size+2]? = some (.cells c2 T2 (0,0))∧Below D.heap.size D (((D.alloc (.cells c0 T0)).alloc (.cells c1 T1)).alloc (.cells c2 T2)):=by
 refine ⟨?_,?_,?_,below_step (below_step (below_new _ _) (below_new _ _)) (below_new _ _)⟩
 ·exact (Below.heap_alloc _ _ _ (by simp;omega)).trans ((Below.heap_alloc _ _ _ (by simp)).trans (heap_alloc_new D _))
 ·refine (Below.heap_alloc _ _ _ (by simp)).trans ?_
  have h:=heap_alloc_new (D.alloc (.cells c0 T0)) (.cells c1 T1)
  rw[show (D.alloc (.cells c0 T0)).heap.size=D.heap.size+1 by simp] at h
  exact h
 ·have h:=heap_alloc_new ((D.alloc (.cells c0 T0)).alloc (.cells c1 T1)) (.cells c2 T2)
  rw[show ((D.alloc (.cells c0 T0)).alloc (.cells c1 T1)).heap.size=D.heap.size+2 by simp] at h
  exact h
theorem upd_setRow3 (w:World)(g:Nat)(cs:Array Value):Upd (fun k=>k=g) w (w.setRow g cs) :=
 ⟨rfl,rfl,rfl,by simp[World.setRow],fun k _ h=>setRow_other w g k cs (fun e=>h e)⟩
theorem fill3 {B:Nat}{W A:World}{x y z:Nat}{o0 o1 o2 n0 n1 n2:Array Value}{T0 T1 T2:TypeId}(hb:Below B W A)(hx:B≤x)(hy:B≤y)(hz:B≤z)(hxy:x≠y)(hxz:x≠z)(hyz:y≠z)(h0:A.heap[x]? = some (.cells o0 T0 (0,0)))(h1:A.heap[y]? = some (.cells o1 T1 (0,0)))(h2:A.heap[z]? = some (.cells o2 T2 (0,0))) :
  Below B W (((A.setRow x n0).setRow y n1).setRow z n2)∧(((A.setRow x n0).setRow y n1).setRow z n2).heap[x]? = some (.cells n0 T0 (0,0))∧(((A.setRow x n0).setRow y n1).setRow z n2).heap[y]? = some (.cells n1 T1 (0,0))∧(((A.setRow x n0).setRow y n1).setRow z n2).heap[z]? = some (.cells n2 T2 (0,0)):=by
 have a0:=setRow_heap A x o0 n0 T0 (0,0) h0
 have u1:=upd_setRow3 A x n0
 have b1:=(u1.block y (row_lt h1) (fun e=>hxy e.symm)).trans h1
 have b2:=(u1.block z (row_lt h2) (fun e=>hxz e.symm)).trans h2
 have a1:=setRow_heap (A.setRow x n0) y o1 n1 T1 (0,0) b1
 have u2:=upd_setRow3 (A.setRow x n0) y n1
 have c0:=(u2.block x (row_lt a0) (fun e=>hxy e)).trans a0
 have c2:=(u2.block z (row_lt b2) (fun e=>hyz e.symm)).trans b2
 have a2:=setRow_heap ((A.setRow x n0).setRow y n1) z o2 n2 T2 (0,0) c2
 have u3:=upd_setRow3 ((A.setRow x n0).setRow y n1) z n2
 exact ⟨below_setRow (below_setRow (below_setRow hb hx _) hy _) hz _,(u3.block x (row_lt c0) (fun e=>hxz e)).trans c0,(u3.block y (row_lt a1) (fun e=>hyz e)).trans a1,a2⟩
end Go.Proofs.Ytmlghmjjlpioeaa
