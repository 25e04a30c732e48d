/-
  Upd, ErrNew
-/
import Derived.Test.YtoggpnfeioaidaaDoorGet
import Derived.Maps.AppendAt
import Derived.Laws.Rows
import Derived.Test.YtoggpnfeioaidaaDoorErrAs
set_option maxRecDepth 1000000
set_option maxHeartbeats 16000000
namespace Go.Proofs.YtoggpnfeioaidaaDoor
open Go.RowKit
structure Upd (S:Nat→Prop) (w w':World):Prop where
 os:w'.os=w.os
 tape:w'.tape=w.tape
 output:w'.output=w.output
 size:w.heap.size≤w'.heap.size
 block:∀ k,k<w.heap.size→¬S k→w'.heap[k]? = w.heap[k]?
theorem Upd.refl (S:Nat→Prop) (w:World):Upd S w w:=⟨rfl,rfl,rfl,Nat.le_refl _,fun _ _ _=>rfl⟩
theorem Upd.trans {S:Nat→Prop} {a b c:World} (h:Upd S a b) (g:Upd S b c):Upd S a c :=
 ⟨g.os.trans h.os,g.tape.trans h.tape,g.output.trans h.output,Nat.le_trans h.size g.size,fun k hk hs=>(g.block k (Nat.lt_of_lt_of_le hk h.size) hs).trans (h.block k hk hs)⟩
theorem Upd.mono {S S':Nat→Prop} {a b:World} (h:Upd S a b) (hs:∀ k,k<a.heap.size→S k→S' k):Upd S' a b :=
 ⟨h.os,h.tape,h.output,h.size,fun k hk hn=>h.block k hk (fun hh=>hn (hs k hk hh))⟩
theorem Upd.below {S:Nat→Prop} {B:Nat} {a b:World} (h:Upd S a b) (hB:B≤a.heap.size) (hs:∀ k,k<a.heap.size→S k→B≤k):Below B a b :=
 ⟨h.os,h.tape,h.output,h.size,fun k hk=>h.block k (by omega) (fun hh=>by have:=hs k (by omega) hh;omega)⟩
theorem Upd.of_below {S:Nat→Prop} {B:Nat} {a b:World} (h:Below B a b) (hs:∀ k,k<a.heap.size→¬S k→k<B):Upd S a b :=
 ⟨h.os,h.tape,h.output,h.size,fun k hk hn=>h.block k (hs k hk hn)⟩
theorem Upd.of_new {S:Nat→Prop} {a b:World} (h:Below a.heap.size a b):Upd S a b := .of_below h fun _ hk _=>hk
theorem Upd.of_grown {row:Option Nat} {a b:World} (h:a.grownBy b row):Upd (fun k=>row=some k) a b :=
 ⟨h.os,h.tape,h.output,h.size,fun k hk hn=>h.block k hk (fun e=>hn e.symm)⟩
theorem Upd.alloc (S:Nat→Prop) (w:World) (o:Obj):Upd S w (w.alloc o) := .of_new ((Below.refl _ _).alloc (Nat.le_refl _) o)
theorem Upd.set (w:World) (a:Addr) (u:Value):Upd (fun k=>k=a.block) w (w.setCell a u) :=
 ⟨rfl,rfl,rfl,by simp[World.setCell],fun k _ hn=>Below.heap_setCell _ _ _ _ hn⟩
theorem Upd.drew (S:Nat→Prop) (w:World):Upd S w w.drew:=⟨rfl,rfl,rfl,Nat.le_refl _,fun _ _ _=>rfl⟩
theorem Upd.own {S:Nat→Prop} {w w':World} {base:Nat} {e:TypeId} {size:Nat} {v:Value} {n:Nat} {xs:List Value} (h:Upd S w w') (ho:w.ownsRow base e size v n xs) (hs:∀ k,v.ownBlock=some k→¬S k):w'.ownsRow base e size v n xs:=by
 refine ⟨ho.1,?_⟩
 rcases ho.2 with hn|⟨g,cap,cur,rfl,hb,hgg,rest⟩
 ·exact .inl hn
 ·exact .inr ⟨g,cap,cur,rfl,hb,(h.block g (Array.getElem?_eq_some_iff.1 hgg).1 (hs g rfl)).trans hgg,rest⟩
theorem Upd.cell {S:Nat→Prop} {w w':World} (h:Upd S w w') {a:Addr} (hl:a.block<w.heap.size) (hs:¬S a.block):w'.cell? a=w.cell? a:=World.cell?_of_block (w:=w) (h.block a.block hl hs)
theorem own_some {w:World} {base:Nat} {e:TypeId} {size:Nat} {v:Value} {n:Nat} {xs:List Value} (h:w.ownsRow base e size v n xs) (hn:0<n):∃ g cap,v = .slice (some ⟨g,0,none⟩) n cap∧base≤g∧g<w.heap.size∧n≤cap∧cap≤maxLen:=by
 rcases h.2 with ⟨rfl,rfl⟩|⟨g,cap,cur,rfl,hb,hg,hc,hm,_⟩
 ·omega
 ·exact ⟨g,cap,rfl,hb,(Array.getElem?_eq_some_iff.1 hg).1,hc,hm⟩
theorem row_cell {w:World} {p:Nat} {cs:Array Value} {T:TypeId} {fr:Nat × Nat} (h:w.heap[p]? = some (.cells cs T fr)) {j:Nat} {u:Value} (hj:cs[j]? = some u):w.cell? ⟨p,j,none⟩=some u:=by
 rw[cell_of_row w p j _ _ _ h,hj]
theorem row_lt {w:World} {p:Nat} {o:Obj} (h:w.heap[p]? = some o):p<w.heap.size:=(Array.getElem?_eq_some_iff.1 h).1
theorem row_thaw {w:World} {p:Nat} {cs:Array Value} {T:TypeId} (h:w.heap[p]? = some (.cells cs T (0,0))) (j:Nat):w.frozen? ⟨p,j,none⟩=false:=by simp[World.frozen?,h]
theorem row_set {w:World} {p:Nat} {cs:Array Value} {T:TypeId} (h:w.heap[p]? = some (.cells cs T (0,0))) (j:Nat) (u:Value):(w.setCell ⟨p,j,none⟩ u).heap[p]? = some (.cells (cs.setIfInBounds j u) T (0,0)):=by
 rw[heap_setCell_same _ p j _ _ _ h]
section
variable {P:Program} {w:World}
end
open Go.RowKit
open Go.RowKit
open Go.RowKit
def Glob (w:World):Prop:=w.cell? ⟨1,0,none⟩=some (.iface 147 (.agg #[.pointer (some ⟨2,39,none⟩)]))
theorem Glob.pos {w:World} (h:Glob w):1<w.heap.size:=by
 refine Classical.byContradiction fun h0=>?_
 have h1:w.heap[1]? = none:=Array.getElem?_eq_none (by omega)
 simp[Glob,World.cell?,h1] at h
theorem Glob.below {w w':World} (h:Glob w) (hb:Below w.heap.size w w'):Glob w':=(hb.cell (p:=⟨1,0,none⟩) h.pos).trans h
theorem Glob.alloc {w:World} (h:Glob w) (o:Obj):Glob (w.alloc o):=h.below ((Below.refl _ _).alloc (Nat.le_refl _) o)
def codeOf (r:Value):Int:=match r with
 | .iface 59 (.int .i64 c)=>c
 | _=>14
theorem code_any (ws:List (Bool × Int)) (v r:Value) (w:World) (he:isErr w ws v r) (hroot:isRoot r) (hg:Glob w) :
  Calls Tryd.prog 16 #[v] w fun e w'=>e = .returned (.int .i64 (codeOf r))∧Below w.heap.size w w':=by
 obtain ⟨T,x,rfl⟩:=isErr_iface he hroot
 have HE:=Lib.hid he
 have HB:=Lib.hid ((Below.refl _ w).alloc (Nat.le_refl _) (.cells #[.int .i64 0] 59))
 have HG:=Lib.hid (hg.alloc (.cells #[.int .i64 0] 59))
 have HR:=Lib.hid hroot
 clear he hg hroot
 go_enter Tryd.func16,Tryd.ntmps16
 go_wp2_with fail
 go_at_call 34
 refine (errAs_code ws _ r w.heap.size w _ HE.out HB.out HR.out (.int .i64 0) (heap_alloc_new w _) HG.out).mono ?_
 intro e w' hp
 have HP:=Lib.hid hp
 clear hp
 rcases HR.out with ⟨c,rfl⟩|⟨y,rfl⟩
 ·obtain ⟨rfl,hu⟩:=asCode_hit HP.out
  have hc:w'.cell? ⟨w.heap.size,0,none⟩=some (.int .i64 c):=by rw[cell_of_row w' _ 0 _ _ _ hu.cell];rfl
  have HB:=Lib.hid (oneUpd_below hu)
  clear hu
  go_wp2
  go_ret
  exact ⟨rfl,HB.out⟩
 ·obtain ⟨rfl,hu⟩:=asCode_miss HP.out
  have HB:=Lib.hid (oneUpd_below hu)
  clear hu
  go_wp2
  go_ret
  exact ⟨rfl,HB.out⟩
open Go.RowKit
theorem root_code (c:Int):isRoot (codeV c) := 
 .inl ⟨c,rfl⟩
open Go.RowKit
theorem isErr_new {w:World} {a:Nat} {n c:Int} (h:w.heap[a]? = some (.cells #[.int .i64 n,.iface 59 (.int .i64 c)] 92 (0,0))):isErr w [(true,n)] (.iface 90 (.pointer (some ⟨a,0,none⟩))) (codeV c) :=
 ⟨a,codeV c,rfl,row_lt h,h,rfl⟩
theorem isErr_upd {S:Nat→Prop} {w w':World} {ws:List (Bool × Int)} {v r:Value} (hU:Upd S w w') (hS:∀ k,S k→∀ (b:Bool) (n:Int) (e:Value),w.heap[k]?≠some (.cells #[.int .i64 n,e] (wrapS b) (0,0))) (h:isErr w ws v r):isErr w' ws v r :=
 isErr_kept (fun k _ ho ⟨b,n,e,he⟩=>(hU.block k (row_lt ho) (fun hk=>hS k hk b n e (he ▸ ho))).trans ho) hU.size h
open Go.RowKit
end Go.Proofs.YtoggpnfeioaidaaDoor
