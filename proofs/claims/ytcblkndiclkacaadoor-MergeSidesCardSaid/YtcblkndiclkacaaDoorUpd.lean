/-
  What a call may have turned: a set of the old blocks.
-/
import Derived.Test.YtcblkndiclkacaaDoorKit
import Derived.Maps.AppendAt
import Derived.Laws.Rows
namespace Go.Proofs.YtcblkndiclkacaaDoor
open Go.RowKit
structure Upd (S:Nat→Prop) (w w':World):Prop where
 os:w'.os=w.os
 tape:w'.tape=w.tape
 output:w'.output=w.output
 size:w.heap.size≤w'.heap.size
 block:∀ k,k<w.heap.size→¬S k→w'.heap[k]? = w.heap[k]?
theorem Upd.refl (S:Nat→Prop) (w:World):Upd S w w:=⟨rfl,rfl,rfl,Nat.le_refl _,fun _ _ _=>rfl⟩
theorem Upd.trans {S:Nat→Prop} {a b c:World} (h:Upd S a b) (g:Upd S b c):Upd S a c :=
 ⟨g.os.trans h.os,g.tape.trans h.tape,g.output.trans h.output,Nat.le_trans h.size g.size,fun k hk hs=>(g.block k (Nat.lt_of_lt_of_le hk h.size) hs).trans (h.block k hk hs)⟩
theorem Upd.mono {S S':Nat→Prop} {a b:World} (h:Upd S a b) (hs:∀ k,k<a.heap.size→S k→S' k):Upd S' a b :=
 ⟨h.os,h.tape,h.output,h.size,fun k hk hn=>h.block k hk (fun hh=>hn (hs k hk hh))⟩
theorem Upd.below {S:Nat→Prop} {B:Nat} {a b:World} (h:Upd S a b) (hB:B≤a.heap.size) (hs:∀ k,k<a.heap.size→S k→B≤k):Below B a b :=
 ⟨h.os,h.tape,h.output,h.size,fun k hk=>h.block k (by omega) (fun hh=>by have:=hs k (by omega) hh;omega)⟩
theorem Upd.of_below {S:Nat→Prop} {B:Nat} {a b:World} (h:Below B a b) (hs:∀ k,k<a.heap.size→¬S k→k<B):Upd S a b :=
 ⟨h.os,h.tape,h.output,h.size,fun k hk hn=>h.block k (hs k hk hn)⟩
theorem Upd.of_new {S:Nat→Prop} {a b:World} (h:Below a.heap.size a b):Upd S a b := .of_below h fun _ hk _=>hk
theorem Upd.of_grown {row:Option Nat} {a b:World} (h:a.grownBy b row):Upd (fun k=>row=some k) a b :=
 ⟨h.os,h.tape,h.output,h.size,fun k hk hn=>h.block k hk (fun e=>hn e.symm)⟩
theorem Upd.alloc (S:Nat→Prop) (w:World) (o:Obj):Upd S w (w.alloc o) := .of_new ((Below.refl _ _).alloc (Nat.le_refl _) o)
theorem Upd.set (w:World) (a:Addr) (u:Value):Upd (fun k=>k=a.block) w (w.setCell a u) :=
 ⟨rfl,rfl,rfl,by simp[World.setCell],fun k _ hn=>Below.heap_setCell _ _ _ _ hn⟩
theorem Upd.drew (S:Nat→Prop) (w:World):Upd S w w.drew:=⟨rfl,rfl,rfl,Nat.le_refl _,fun _ _ _=>rfl⟩
theorem Upd.own {S:Nat→Prop} {w w':World} {base:Nat} {e:TypeId} {size:Nat} {v:Value} {n:Nat} {xs:List Value} (h:Upd S w w') (ho:w.ownsRow base e size v n xs) (hs:∀ k,v.ownBlock=some k→¬S k):w'.ownsRow base e size v n xs:=by
 refine ⟨ho.1,?_⟩
 rcases ho.2 with hn|⟨g,cap,cur,rfl,hb,hgg,rest⟩
 ·exact .inl hn
 ·exact .inr ⟨g,cap,cur,rfl,hb,(h.block g (Array.getElem?_eq_some_iff.1 hgg).1 (hs g rfl)).trans hgg,rest⟩
theorem Upd.cell {S:Nat→Prop} {w w':World} (h:Upd S w w') {a:Addr} (hl:a.block<w.heap.size) (hs:¬S a.block):w'.cell? a=w.cell? a:=World.cell?_of_block (w:=w) (h.block a.block hl hs)
theorem own_slice {w:World} {base:Nat} {e:TypeId} {size:Nat} {v:Value} {n:Nat} {xs:List Value} (h:w.ownsRow base e size v n xs):∃ ao cap,v = .slice ao n cap:=by
 rcases h.2 with ⟨rfl,rfl⟩|⟨g,cap,cur,rfl,_⟩
 ·exact ⟨none,0,rfl⟩
 ·exact ⟨_,cap,rfl⟩
theorem own_some {w:World} {base:Nat} {e:TypeId} {size:Nat} {v:Value} {n:Nat} {xs:List Value} (h:w.ownsRow base e size v n xs) (hn:0<n):∃ g cap,v = .slice (some ⟨g,0,none⟩) n cap∧base≤g∧g<w.heap.size∧n≤cap∧cap≤maxLen:=by
 rcases h.2 with ⟨rfl,rfl⟩|⟨g,cap,cur,rfl,hb,hg,hc,hm,_⟩
 ·omega
 ·exact ⟨g,cap,rfl,hb,(Array.getElem?_eq_some_iff.1 hg).1,hc,hm⟩
theorem row_cell {w:World} {p:Nat} {cs:Array Value} {T:TypeId} {fr:Nat × Nat} (h:w.heap[p]? = some (.cells cs T fr)) {j:Nat} {u:Value} (hj:cs[j]? = some u):w.cell? ⟨p,j,none⟩=some u:=by
 rw[cell_of_row w p j _ _ _ h,hj]
theorem row_lt {w:World} {p:Nat} {o:Obj} (h:w.heap[p]? = some o):p<w.heap.size:=(Array.getElem?_eq_some_iff.1 h).1
theorem row_thaw {w:World} {p:Nat} {cs:Array Value} {T:TypeId} (h:w.heap[p]? = some (.cells cs T (0,0))) (j:Nat):w.frozen? ⟨p,j,none⟩=false:=by simp[World.frozen?,h]
theorem row_set {w:World} {p:Nat} {cs:Array Value} {T:TypeId} (h:w.heap[p]? = some (.cells cs T (0,0))) (j:Nat) (u:Value):(w.setCell ⟨p,j,none⟩ u).heap[p]? = some (.cells (cs.setIfInBounds j u) T (0,0)):=by
 rw[heap_setCell_same _ p j _ _ _ h]
section
variable {P:Program} {w:World}
theorem wpList_app1_at {ops:Array Oper} {rest:List Oper} {o:Oper} {a:Act} {Q:Exit→Act→World→Prop} (hgd:o.guard=none) (s x:Operand) (t:TypeId)
  (ho:o.op = .call { callee := .builtin .append,args:=#[s,x],argTypes:=#[t,t] })
  {base:Nat} {e:TypeId} {z:Value} {size bytes:Nat} (he:Elem P t e z size bytes) (hsz:0<size)
  {v:Value} {n:Nat} {xs:List Value} (hown:w.ownsRow base e size v n xs) (hs:a.eval s=v)
  {cs:List Value} {c:Nat} (hx:a.eval x = .slice (some ⟨w.heap.size,0,none⟩) 1 c) (hcs:cs.length=size) (h1:∀ u∈cs,u.oneCell'=true)
  (h63:n+1≤maxLen) (hbytes:(n+1) * bytes≤140737488355328) (hbase:base≤w.heap.size)
  (h:∀ g cap w',w'.ownsRow base e size (.slice (some ⟨g,0,none⟩) (n+1) cap) (n+1) (xs++cs)→w.grownBy w' v.ownBlock→(v.ownBlock=some g∨w.heap.size≤g)→wpList P ops Q rest (a.put o.dst (.slice (some ⟨g,0,none⟩) (n+1) cap)) w'):wpList P ops Q (o::rest) a (w.alloc (.cells cs.toArray e)):=by
 obtain ⟨ht,hi0,hzs⟩:=he
 obtain ⟨i,hi,hz,hsize,hby⟩:=info_parts hi0
 refine wpList_append_own_at (w.alloc (.cells cs.toArray e)) hgd s x t ho base e i z size bytes ht hi hz hsize hby hzs hsz v n xs hs (hown.alloc _) ⟨w.heap.size,0,none⟩ 1 c cs hx (by simp[hcs]) ?_ h1 h63 hbytes (by simp;omega) fun v' w' h2 h3 _ h5=>?_
 ·intro j u hj
  have hadd:(⟨w.heap.size,0,none⟩:Addr).add j=⟨w.heap.size,j,none⟩:=by unfold Addr.add;split<;>simp_all
  rw[hadd,World.cell?_alloc_at _ _ _ _ rfl]
  simpa using hj
 ·obtain ⟨g,cap,rfl,_⟩:=own_some h2 (by omega)
  refine h g cap w' h2 (grownBy_of_alloc h3) ?_
  rcases h5 with h5|h5
  ·exact .inl h5.symm
  ·simp[Value.ownBlock] at h5
   exact .inr (by omega)
end
open Go.RowKit
open Go.RowKit
end Go.Proofs.YtcblkndiclkacaaDoor
