/-
  What a call may have turned: a set of the old blocks.
-/
import Derived.Test.YtmlghmjjlpioeaaKit
import Derived.Maps.AppendAt
import Derived.Laws.Rows
namespace Go.Proofs.Ytmlghmjjlpioeaa
open Go.RowKit
open Lib (hid)
structure Upd (S:Nat→Prop) (w w':World):Prop where
 os:w'.os=w.os
 tape:w'.tape=w.tape
 output:w'.output=w.output
 size:w.heap.size≤w'.heap.size
 block:∀ k,k<w.heap.size→¬S k→w'.heap[k]? = w.heap[k]?
theorem Upd.below {S:Nat→Prop}{B:Nat}{a b:World}(h:Upd S a b)(hB:B≤a.heap.size)(hs:∀ k,k<a.heap.size→S k→B≤k):Below B a b :=
 ⟨h.os,h.tape,h.output,h.size,fun k hk=>h.block k (by omega) (fun hh=>by have:=hs k (by omega) hh;omega)⟩
theorem Upd.of_below {S:Nat→Prop}{B:Nat}{a b:World}(h:Below B a b)(hs:∀ k,k<a.heap.size→¬S k→k<B):Upd S a b :=
 ⟨h.os,h.tape,h.output,h.size,fun k hk hn=>h.block k (hs k hk hn)⟩
theorem Upd.of_new {S:Nat→Prop}{a b:World}(h:Below a.heap.size a b):Upd S a b := .of_below h fun _ hk _=>hk
theorem Upd.of_grown {row:Option Nat}{a b:World}(h:a.grownBy b row):Upd (fun k=>row=some k) a b :=
 ⟨h.os,h.tape,h.output,h.size,fun k hk hn=>h.block k hk (fun e=>hn e.symm)⟩
theorem Upd.cell {S:Nat→Prop}{w w':World}(h:Upd S w w'){a:Addr}(hl:a.block<w.heap.size)(hs:¬S a.block):w'.cell? a=w.cell? a:=World.cell?_of_block (w:=w) (h.block a.block hl hs)
theorem own_slice {w:World}{base:Nat}{e:TypeId}{size:Nat}{v:Value}{n:Nat}{xs:List Value}(h:w.ownsRow base e size v n xs):∃ ao cap,v = .slice ao n cap:=by
 rcases h.2 with ⟨rfl,rfl⟩|⟨g,cap,cur,rfl,_⟩
 ·exact ⟨none,0,rfl⟩
 ·exact ⟨_,cap,rfl⟩
theorem own_some {w:World}{base:Nat}{e:TypeId}{size:Nat}{v:Value}{n:Nat}{xs:List Value}(h:w.ownsRow base e size v n xs)(hn:0<n):∃ g cap,v = .slice (some ⟨g,0,none⟩) n cap∧base≤g∧g<w.heap.size∧n≤cap∧cap≤maxLen:=by
 rcases h.2 with ⟨rfl,rfl⟩|⟨g,cap,cur,rfl,hb,hg,hc,hm,_⟩
 ·omega
 ·exact ⟨g,cap,rfl,hb,(Array.getElem?_eq_some_iff.1 hg).1,hc,hm⟩
theorem row_cell {w:World}{p:Nat}{cs:Array Value}{T:TypeId}{fr:Nat × Nat}(h:w.heap[p]? = some (.cells cs T fr)){j:Nat}{u:Value}(hj:cs[j]? = some u):w.cell? ⟨p,j,none⟩=some u:=by
 rw[cell_of_row w p j _ _ _ h,hj]
theorem row_lt {w:World}{p:Nat}{o:Obj}(h:w.heap[p]? = some o):p<w.heap.size:=(Array.getElem?_eq_some_iff.1 h).1
section
variable {P:Program} {w:World}
end
open Go.RowKit
open Go.RowKit
end Go.Proofs.Ytmlghmjjlpioeaa
