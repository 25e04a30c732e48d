/-
  ErrAs, JoinLaid
-/
import Derived.Test.YtficgfemmijaaaaGreatKit
import Derived.Maps.AppendAt
import Derived.Laws.Rows
import Derived.Deep.LoopGhost
import Derived.Shelf.Strings.Builder1
import Derived.Shelf.Strings.Builder2
import Derived.Shelf.Strings.OnBuilder
import Derived.Test.YtficgfemmijaaaaGreatProg
namespace Go.Proofs.YtficgfemmijaaaaGreat
open Go.RowKit
open Lib (hid)
structure Upd (S:Nat→Prop) (w w':World):Prop where
 os:w'.os=w.os
 tape:w'.tape=w.tape
 output:w'.output=w.output
 size:w.heap.size≤w'.heap.size
 block:∀ k,k<w.heap.size→¬S k→w'.heap[k]? = w.heap[k]?
theorem Upd.refl (S:Nat→Prop)(w:World):Upd S w w:=⟨rfl,rfl,rfl,Nat.le_refl _,fun _ _ _=>rfl⟩
theorem Upd.trans {S:Nat→Prop}{a b c:World}(h:Upd S a b)(g:Upd S b c):Upd S a c :=
 ⟨g.os.trans h.os,g.tape.trans h.tape,g.output.trans h.output,Nat.le_trans h.size g.size,fun k hk hs=>(g.block k (Nat.lt_of_lt_of_le hk h.size) hs).trans (h.block k hk hs)⟩
theorem Upd.mono {S S':Nat→Prop}{a b:World}(h:Upd S a b)(hs:∀ k,k<a.heap.size→S k→S' k):Upd S' a b :=
 ⟨h.os,h.tape,h.output,h.size,fun k hk hn=>h.block k hk (fun hh=>hn (hs k hk hh))⟩
theorem Upd.trans' {S S':Nat→Prop}{a b c:World}(h:Upd S a b)(g:Upd S' b c)(hs:∀ k,k<a.heap.size→S' k→S k):Upd S a c :=
 ⟨g.os.trans h.os,g.tape.trans h.tape,g.output.trans h.output,Nat.le_trans h.size g.size,fun k hk hn=>(g.block k (Nat.lt_of_lt_of_le hk h.size) (fun hh=>hn (hs k hk hh))).trans (h.block k hk hn)⟩
theorem Upd.below {S:Nat→Prop}{B:Nat}{a b:World}(h:Upd S a b)(hB:B≤a.heap.size)(hs:∀ k,k<a.heap.size→S k→B≤k):Below B a b :=
 ⟨h.os,h.tape,h.output,h.size,fun k hk=>h.block k (by omega) (fun hh=>by have:=hs k (by omega) hh;omega)⟩
theorem Upd.of_below {S:Nat→Prop}{B:Nat}{a b:World}(h:Below B a b)(hs:∀ k,k<a.heap.size→¬S k→k<B):Upd S a b :=
 ⟨h.os,h.tape,h.output,h.size,fun k hk hn=>h.block k (hs k hk hn)⟩
theorem Upd.of_new {S:Nat→Prop}{a b:World}(h:Below a.heap.size a b):Upd S a b := .of_below h fun _ hk _=>hk
theorem Upd.of_grown {row:Option Nat}{a b:World}(h:a.grownBy b row):Upd (fun k=>row=some k) a b :=
 ⟨h.os,h.tape,h.output,h.size,fun k hk hn=>h.block k hk (fun e=>hn e.symm)⟩
theorem Upd.alloc (S:Nat→Prop)(w:World)(o:Obj):Upd S w (w.alloc o) := .of_new ((Below.refl _ _).alloc (Nat.le_refl _) o)
theorem Upd.set (w:World)(a:Addr)(u:Value):Upd (fun k=>k=a.block) w (w.setCell a u) :=
 ⟨rfl,rfl,rfl,by simp[World.setCell],fun k _ hn=>Below.heap_setCell _ _ _ _ hn⟩
theorem Upd.drew (S:Nat→Prop)(w:World):Upd S w w.drew:=⟨rfl,rfl,rfl,Nat.le_refl _,fun _ _ _=>rfl⟩
theorem Upd.own {S:Nat→Prop}{w w':World}{base:Nat}{e:TypeId}{size:Nat}{v:Value}{n:Nat}{xs:List Value}(h:Upd S w w')(ho:w.ownsRow base e size v n xs)(hs:∀ k,v.ownBlock=some k→¬S k):w'.ownsRow base e size v n xs:=by
 refine ⟨ho.1,?_⟩
 rcases ho.2 with hn|⟨g,cap,cur,rfl,hb,hgg,rest⟩
 ·exact .inl hn
 ·exact .inr ⟨g,cap,cur,rfl,hb,(h.block g (Array.getElem?_eq_some_iff.1 hgg).1 (hs g rfl)).trans hgg,rest⟩
theorem Upd.cell {S:Nat→Prop}{w w':World}(h:Upd S w w'){a:Addr}(hl:a.block<w.heap.size)(hs:¬S a.block):w'.cell? a=w.cell? a:=World.cell?_of_block (w:=w) (h.block a.block hl hs)
theorem own_slice {w:World}{base:Nat}{e:TypeId}{size:Nat}{v:Value}{n:Nat}{xs:List Value}(h:w.ownsRow base e size v n xs):∃ ao cap,v = .slice ao n cap:=by
 rcases h.2 with ⟨rfl,rfl⟩|⟨g,cap,cur,rfl,_⟩
 ·exact ⟨none,0,rfl⟩
 ·exact ⟨_,cap,rfl⟩
theorem own_some {w:World}{base:Nat}{e:TypeId}{size:Nat}{v:Value}{n:Nat}{xs:List Value}(h:w.ownsRow base e size v n xs)(hn:0<n):∃ g cap,v = .slice (some ⟨g,0,none⟩) n cap∧base≤g∧g<w.heap.size∧n≤cap∧cap≤maxLen:=by
 rcases h.2 with ⟨rfl,rfl⟩|⟨g,cap,cur,rfl,hb,hg,hc,hm,_⟩
 ·omega
 ·exact ⟨g,cap,rfl,hb,(Array.getElem?_eq_some_iff.1 hg).1,hc,hm⟩
theorem row_cell {w:World}{p:Nat}{cs:Array Value}{T:TypeId}{fr:Nat × Nat}(h:w.heap[p]? = some (.cells cs T fr)){j:Nat}{u:Value}(hj:cs[j]? = some u):w.cell? ⟨p,j,none⟩=some u:=by
 rw[cell_of_row w p j _ _ _ h,hj]
theorem row_lt {w:World}{p:Nat}{o:Obj}(h:w.heap[p]? = some o):p<w.heap.size:=(Array.getElem?_eq_some_iff.1 h).1
theorem row_thaw {w:World}{p:Nat}{cs:Array Value}{T:TypeId}(h:w.heap[p]? = some (.cells cs T (0,0)))(j:Nat):w.frozen? ⟨p,j,none⟩=false:=by simp[World.frozen?,h]
theorem row_set {w:World}{p:Nat}{cs:Array Value}{T:TypeId}(h:w.heap[p]? = some (.cells cs T (0,0)))(j:Nat)(u:Value):(w.setCell ⟨p,j,none⟩ u).heap[p]? = some (.cells (cs.setIfInBounds j u) T (0,0)):=by
 rw[heap_setCell_same _ p j _ _ _ h]
section
variable {P:Program} {w:World}
theorem wpList_app1_at {ops:Array Oper} {rest:List Oper} {o:Oper} {a:Act} {Q:Exit→Act→World→Prop} (hgd:o.guard=none) (s x:Operand) (t:TypeId)
  (ho:o.op = .call { callee := .builtin .append,args:=#[s,x],argTypes:=#[t,t] })
  {base:Nat} {e:TypeId} {z:Value} {size bytes:Nat} (he:Elem P t e z size bytes) (hsz:0<size)
  {v:Value} {n:Nat} {xs:List Value} (hown:w.ownsRow base e size v n xs) (hs:a.eval s=v)
  {cs:List Value} {c:Nat} (hx:a.eval x = .slice (some ⟨w.heap.size,0,none⟩) 1 c) (hcs:cs.length=size) (h1:∀ u∈cs,u.oneCell'=true)
  (h63:n+1≤maxLen) (hbytes:(n+1) * bytes≤140737488355328) (hbase:base≤w.heap.size)
  (h:∀ g cap w',w'.ownsRow base e size (.slice (some ⟨g,0,none⟩) (n+1) cap) (n+1) (xs++cs)→w.grownBy w' v.ownBlock→(v.ownBlock=some g∨w.heap.size≤g)→wpList P ops Q rest (a.put o.dst (.slice (some ⟨g,0,none⟩) (n+1) cap)) w'):wpList P ops Q (o::rest) a (w.alloc (.cells cs.toArray e)):=by
 obtain ⟨ht,hi0,hzs⟩:=he;obtain ⟨i,hi,hz,hsize,hby⟩:=info_parts hi0;refine wpList_append_own_at (w.alloc (.cells cs.toArray e)) hgd s x t ho base e i z size bytes ht hi hz hsize hby hzs hsz v n xs hs (hown.alloc _) ⟨w.heap.size,0,none⟩ 1 c cs hx (by simp[hcs]) ?_ h1 h63 hbytes (by simp;omega) fun v' w' h2 h3 _ h5=>?_
 ·intro j u hj
  have hadd:(⟨w.heap.size,0,none⟩:Addr).add j=⟨w.heap.size,j,none⟩:=by unfold Addr.add;split<;>simp_all
  rw[hadd,World.cell?_alloc_at _ _ _ _ rfl]
  simpa using hj
 ·obtain ⟨g,cap,rfl,_⟩:=own_some h2 (by omega)
  refine h g cap w' h2 (grownBy_of_alloc h3) ?_
  rcases h5 with h5|h5
  ·exact .inl h5.symm
  ·simp[Value.ownBlock] at h5
   exact .inr (by omega)
end
open Go.RowKit
def ErrNew (w:World)(n c:Int)(v:Value)(w':World):Prop :=
 (∃ a,w.heap.size≤a∧v = .iface 146 (.pointer (some ⟨a,0,none⟩))∧w'.heap[a]? = some (.cells #[.int .i64 n,.iface 104 (.int .i64 c)] 148 (0,0)))∧Below w.heap.size w w'
theorem errNew_at {w w1:World}{n c:Int}(h:Below w.heap.size w w1):ErrNew w n c (.iface 146 (.pointer (some ⟨w1.heap.size,0,none⟩))) (w1.alloc (.cells #[.int .i64 n,.iface 104 (.int .i64 c)] 148)) :=
 ⟨⟨w1.heap.size,h.size,rfl,heap_alloc_new w1 _⟩,h.alloc h.size _⟩
theorem errNew_at' {w w1:World}{n c:Int}{g:Nat}(h:Below w.heap.size w w1)(hg:g=w1.heap.size):ErrNew w n c (.iface 146 (.pointer (some ⟨g,0,none⟩))) (w1.alloc (.cells #[.int .i64 n,.iface 104 (.int .i64 c)] 148)):=by
 subst hg;exact errNew_at h
theorem ErrNew.iface {w w':World}{n c:Int}{v:Value}(h:ErrNew w n c v w'):∃ T x,v = .iface T x:=by
 obtain ⟨⟨a,_,rfl,_⟩,_⟩:=h;exact ⟨_,_,rfl⟩
theorem ErrNew.after {w w1 w':World}{n c:Int}{v:Value}(hb:Below w.heap.size w w1)(h:ErrNew w1 n c v w'):ErrNew w n c v w':=by
 obtain ⟨⟨a,ha,hv,hh⟩,hb'⟩:=h;exact ⟨⟨a,Nat.le_trans hb.size ha,hv,hh⟩,hb.trans (hb'.mono hb.size)⟩
theorem ErrNew.stay {w w1 w':World}{n c:Int}{v:Value}(h:ErrNew w n c v w1)(hb:Below w1.heap.size w1 w'):ErrNew w n c v w':=by
 obtain ⟨⟨a,ha,hv,hh⟩,hb'⟩:=h;exact ⟨⟨a,ha,hv,(hb.block a (row_lt hh)).trans hh⟩,hb'.trans (hb.mono hb'.size)⟩
open Go.RowKit
theorem body_cell3 {P:Program} {fn:Func} {R:Ending→World→Prop} {a:Act} {w:World} {p u x:Tmp} {ty:TypeId} {g:Nat} {cs:Array Value}
  (h:fn.results=#[.cell p ty,.tmp u,.tmp x]) (hp:a.tmps.getD p undef = .pointer (some ⟨g,0,none⟩)) (hl:(loadVar ty ⟨g,0,none⟩).run P w = .ok (.agg cs) w) (hdf:a.defers=[])
  (hR:R (.returned (.tuple #[.agg cs,a.tmps.getD u undef,a.tmps.getD x undef])) w):bodyPost P fn R .ret a w:=by
 refine bodyPost_ret ?_ hdf hR;have hp':a.tmps[p]?.getD undef = .pointer (some ⟨g,0,none⟩):=by simpa using hp
 have hr:(asAddr (a.tmps[p]?.getD undef)).run P w = .ok ⟨g,0,none⟩ w:=by rw[hp'];rfl
 simp[results,h,Sem.run_bind,Result.andThen,hr,hl]
open Go.RowKit Go.Extern.Stop Go.Stop Go.Extern
def wrapT (b:Bool):TypeId:=if b then 146 else 114
def wrapS (b:Bool):TypeId:=if b then 148 else 116
def isErr (w:World):List (Bool × Int)→Value→Value→Prop
 | [],v,r=>v=r
 | (b,n)::ws,v,r=>∃ a e,v = .iface (wrapT b) (.pointer (some ⟨a,0,none⟩))∧a<w.heap.size∧w.heap[a]? = some (.cells #[.int .i64 n,e] (wrapS b) (0,0))∧isErr w ws e r
def codeV (c:Int):Value := .iface 104 (.int .i64 c)
def isRoot (r:Value):Prop:=(∃ c,r=codeV c)
theorem isErr_kept {w w':World}(hk:∀ (k:Nat) (o:Obj),w.heap[k]? = some o→(∃ (b:Bool) (n:Int) (e:Value),o=Obj.cells #[Value.int .i64 n,e] (wrapS b) (0,0))→w'.heap[k]? = some o)(hs:w.heap.size≤w'.heap.size) :
  ∀ {ws:List (Bool × Int)} {v r:Value},isErr w ws v r→isErr w' ws v r
 | [],_,_,h=>h
 | (b,n)::_,_,_,⟨a,e,hv,ha,hh,hr⟩=>⟨a,e,hv,Nat.lt_of_lt_of_le ha hs,hk a _ hh ⟨b,n,e,rfl⟩,isErr_kept hk hs hr⟩
theorem isErr_below {w w':World}(hb:Below w.heap.size w w'):∀ {ws:List (Bool × Int)} {v r:Value},isErr w ws v r→isErr w' ws v r :=
 isErr_kept (fun k _ h _=>(hb.block k (Array.getElem?_eq_some_iff.1 h).1).trans h) hb.size
theorem isRoot_iface {r:Value}(h:isRoot r):∃ T x,r = .iface T x:=by
 obtain ⟨c,rfl⟩:=h;exact ⟨_,_,rfl⟩
theorem isErr_iface {w:World}{ws:List (Bool × Int)}{v r:Value}(h:isErr w ws v r)(hr:isRoot r):∃ T x,v = .iface T x:=by
 cases ws with
 | nil=>obtain ⟨T,x,rfl⟩:=isRoot_iface hr;exact ⟨_,_,h⟩
 | cons y ws=>obtain ⟨a,e,hv,_⟩:=h;exact ⟨_,_,hv⟩
open Go.Shelf
def Tryz.lays156_ren:Go.Shelf.Ren:=⟨fun|156=>67|165=>93|166=>81|169=>83|240=>103|241=>112|276=>121|277=>125|n=>n,fun|31=>76|9=>9|3=>3|4=>4|0=>0|20=>20|72=>134|76=>135|70=>131|37=>132|75=>37|127=>163|164=>181|5=>5|80=>128|n=>n,fun|n=>n⟩
theorem Tryz.lays156:Go.Proofs.Lays.n156 Tryz.prog Tryz.lays156_ren:={
 mixed:=by kernel_rfl
 f156:=Tryz.func67.trans (congrArg some (by kernel_rfl))
 f165:=Tryz.func93.trans (congrArg some (by kernel_rfl))
 f166:=Tryz.func81.trans (congrArg some (by kernel_rfl))
 f169:=Tryz.func83.trans (congrArg some (by kernel_rfl))
 f240:=Tryz.func103.trans (congrArg some (by kernel_rfl))
 f241:=Tryz.func112.trans (congrArg some (by kernel_rfl))
 f276:=Tryz.func121.trans (congrArg some (by kernel_rfl))
 f277:=Tryz.func125.trans (congrArg some (by kernel_rfl))
 t0:=Tryz.underlying0
 a0:=Tryz.isAgg0
 z0:=Tryz.sizeOf0
 v0:=Tryz.zeroValue0
 t3:=Tryz.underlying3
 a3:=Tryz.isAgg3
 z3:=Tryz.sizeOf3
 v3:=Tryz.zeroValue3
 t4:=Tryz.underlying4
 a4:=Tryz.isAgg4
 z4:=Tryz.sizeOf4
 v4:=Tryz.zeroValue4
 t9:=Tryz.underlying9
 a9:=Tryz.isAgg9
 z9:=Tryz.sizeOf9
 v9:=Tryz.zeroValue9
 t20:=Tryz.underlying20
 a20:=Tryz.isAgg20
 z20:=Tryz.sizeOf20
 v20:=Tryz.zeroValue20
 t31:=Tryz.underlying76
 a31:=Tryz.isAgg76
 z31:=Tryz.sizeOf76
 v31:=Tryz.zeroValue76
 t37:=Tryz.underlying132
 a37:=Tryz.isAgg132
 z37:=Tryz.sizeOf132
 v37:=Tryz.zeroValue132
 t70:=Tryz.underlying131
 a70:=Tryz.isAgg131
 z70:=Tryz.sizeOf131
 v70:=Tryz.zeroValue131
 t72:=Tryz.underlying134
 a72:=Tryz.isAgg134
 z72:=Tryz.sizeOf134
 v72:=Tryz.zeroValue134
 t75:=Tryz.underlying37
 a75:=Tryz.isAgg37
 z75:=Tryz.sizeOf37
 v75:=Tryz.zeroValue37
 t76:=Tryz.underlying135
 a76:=Tryz.isAgg135
 z76:=Tryz.sizeOf135
 v76:=Tryz.zeroValue135
 t127:=Tryz.underlying163
 a127:=Tryz.isAgg163
 z127:=Tryz.sizeOf163
 v127:=Tryz.zeroValue163
 t164:=Tryz.underlying181
 a164:=Tryz.isAgg181
 z164:=Tryz.sizeOf181
 v164:=Tryz.zeroValue181 }
theorem Tryz.Builder_Extra_156:Builder.Extra Tryz.prog Tryz.lays156_ren:={
 sizeBuilder:=by kernel_rfl
 liesBuilder:=by kernel_rfl
 t5:=Tryz.underlying5
 a5:=Tryz.isAgg5
 z5:=Tryz.sizeOf5
 v5:=Tryz.zeroValue5
 infoByte:=by kernel_rfl
 cellsByte:=by kernel_rfl
 sizeByte:=by kernel_rfl
 neB5:=by decide }
open Go.RowKit in
theorem Tryz.strings_Join_none (a:Option Addr)(c:Nat)(sep:ByteArray)(w:World) :
  Calls Tryz.prog 67 #[.slice a 0 c,.string sep] w fun e w'=>e = .returned (.string ⟨#[]⟩)∧w'=w:=Any.strings_Join_none Tryz.lays156 Tryz.Builder_Extra_156 a c sep w
open Go.RowKit in
theorem Tryz.strings_Join (bk o c:Nat)(xs:List ByteArray)(sep:ByteArray)(w:World)(hcells:∀ (j:Nat) x,xs[j]? = some x→w.cell? ⟨bk,o+j,none⟩=some (.string x))(hbk:bk<w.heap.size)(hN:xs.length≤140737488355328)(hcap:xs.length≤c)(hlen:(Lib.join (xs.map (·.data.toList)) sep.data.toList).length≤140737488355328) :
  Calls Tryz.prog 67 #[.slice (some ⟨bk,o,none⟩) xs.length c,.string sep] w fun e w'=>e = .returned (.string ⟨(Lib.join (xs.map (·.data.toList)) sep.data.toList).toArray⟩)∧Below w.heap.size w w':=Any.strings_Join Tryz.lays156 Tryz.Builder_Extra_156 bk o c xs sep w hcells hbk hN hcap hlen
end Go.Proofs.YtficgfemmijaaaaGreat
