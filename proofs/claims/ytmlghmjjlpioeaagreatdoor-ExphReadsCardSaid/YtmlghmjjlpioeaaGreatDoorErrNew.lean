/-
  Upd, yq
-/
import Derived.Shelf.Strings.Builder1
import Derived.Shelf.Strings.Builder2
import Derived.Shelf.Strings.OnBuilder
import Derived.Test.YtmlghmjjlpioeaaGreatDoorProg
import Derived.Maps.AppendAt
import Derived.Laws.Rows
import Derived.Test.YtmlghmjjlpioeaaGreatDoorErrAs
set_option maxRecDepth 1000000
set_option maxHeartbeats 16000000
namespace Go.Proofs.YtmlghmjjlpioeaaGreatDoor
open Lib (hid)
open Go.Shelf
def Tryz.lays156_ren:Go.Shelf.Ren:=⟨fun|156=>55|165=>97|166=>84|169=>86|240=>122|241=>134|276=>149|277=>157|n=>n,fun|31=>70|9=>9|3=>3|4=>4|0=>0|20=>20|72=>178|76=>179|70=>175|37=>176|75=>35|127=>236|164=>216|5=>5|80=>153|n=>n,fun|n=>n⟩
theorem Tryz.lays156:Go.Proofs.Lays.n156 Tryz.prog Tryz.lays156_ren:={
 mixed:=by kernel_rfl
 f156:=Tryz.func55.trans (congrArg some (by kernel_rfl))
 f165:=Tryz.func97.trans (congrArg some (by kernel_rfl))
 f166:=Tryz.func84.trans (congrArg some (by kernel_rfl))
 f169:=Tryz.func86.trans (congrArg some (by kernel_rfl))
 f240:=Tryz.func122.trans (congrArg some (by kernel_rfl))
 f241:=Tryz.func134.trans (congrArg some (by kernel_rfl))
 f276:=Tryz.func149.trans (congrArg some (by kernel_rfl))
 f277:=Tryz.func157.trans (congrArg some (by kernel_rfl))
 t0:=Tryz.underlying0
 a0:=Tryz.isAgg0
 z0:=Tryz.sizeOf0
 v0:=Tryz.zeroValue0
 t3:=Tryz.underlying3
 a3:=Tryz.isAgg3
 z3:=Tryz.sizeOf3
 v3:=Tryz.zeroValue3
 t4:=Tryz.underlying4
 a4:=Tryz.isAgg4
 z4:=Tryz.sizeOf4
 v4:=Tryz.zeroValue4
 t9:=Tryz.underlying9
 a9:=Tryz.isAgg9
 z9:=Tryz.sizeOf9
 v9:=Tryz.zeroValue9
 t20:=Tryz.underlying20
 a20:=Tryz.isAgg20
 z20:=Tryz.sizeOf20
 v20:=Tryz.zeroValue20
 t31:=Tryz.underlying70
 a31:=Tryz.isAgg70
 z31:=Tryz.sizeOf70
 v31:=Tryz.zeroValue70
 t37:=Tryz.underlying176
 a37:=Tryz.isAgg176
 z37:=Tryz.sizeOf176
 v37:=Tryz.zeroValue176
 t70:=Tryz.underlying175
 a70:=Tryz.isAgg175
 z70:=Tryz.sizeOf175
 v70:=Tryz.zeroValue175
 t72:=Tryz.underlying178
 a72:=Tryz.isAgg178
 z72:=Tryz.sizeOf178
 v72:=Tryz.zeroValue178
 t75:=Tryz.underlying35
 a75:=Tryz.isAgg35
 z75:=Tryz.sizeOf35
 v75:=Tryz.zeroValue35
 t76:=Tryz.underlying179
 a76:=Tryz.isAgg179
 z76:=Tryz.sizeOf179
 v76:=Tryz.zeroValue179
 t127:=Tryz.underlying236
 a127:=Tryz.isAgg236
 z127:=Tryz.sizeOf236
 v127:=Tryz.zeroValue236
 t164:=Tryz.underlying216
 a164:=Tryz.isAgg216
 z164:=Tryz.sizeOf216
 v164:=Tryz.zeroValue216 }
theorem Tryz.Builder_Extra_156:Builder.Extra Tryz.prog Tryz.lays156_ren:={
 sizeBuilder:=by kernel_rfl
 liesBuilder:=by kernel_rfl
 t5:=Tryz.underlying5
 a5:=Tryz.isAgg5
 z5:=Tryz.sizeOf5
 v5:=Tryz.zeroValue5
 infoByte:=by kernel_rfl
 cellsByte:=by kernel_rfl
 sizeByte:=by kernel_rfl
 neB5:=by decide }
open Go.RowKit in
theorem Tryz.strings_Join_none (a:Option Addr)(c:Nat)(sep:ByteArray)(w:World) :
  Calls Tryz.prog 55 #[.slice a 0 c,.string sep] w fun e w'=>e=.returned (.string ⟨#[]⟩)/\w'=w:=Any.strings_Join_none Tryz.lays156 Tryz.Builder_Extra_156 a c sep w
open Go.RowKit in
theorem Tryz.strings_Join (bk o c:Nat)(xs:List ByteArray)(sep:ByteArray)(w:World)(zc3:∀(j:Nat) x,xs[j]?=some x->w.cell? ⟨bk,o+j,none⟩=some (.string x))(hbk:bk<w.heap.size)(hN:xs.length<=140737488355328)(hcap:xs.length<=c)(hlen:(Lib.join (xs.map (·.data.toList)) sep.data.toList).length<=140737488355328) :
  Calls Tryz.prog 55 #[.slice (some ⟨bk,o,none⟩) xs.length c,.string sep] w fun e w'=>e=.returned (.string ⟨(Lib.join (xs.map (·.data.toList)) sep.data.toList).toArray⟩)/\Below w.heap.size w w':=Any.strings_Join Tryz.lays156 Tryz.Builder_Extra_156 bk o c xs sep w zc3 hbk hN hcap hlen
open Go.RowKit
def z2f (ops:Array Oper)(r N:Nat):List Oper->List Nat->Bool
 | [],F=>F.contains r
 | o::rest,F=>match o.guard with
  | some (g,b)=>b&&((match ops[g]? with
   | some og=>(match og.dst with
    | some s=>F.contains s
    | none=>false)
   | none=>false)&&((match o.dst with
   | some d=>!F.contains d
   | none=>true)&&z2f ops r N rest F))
  | none=>match o.dst with
   | none=>false
   | some d=>(match o.op with
    | .move (.tmp s)=>F.contains s
    | .assign (.tmp s)=>F.contains s
    | .pick (.tmp s) _ (.const (.bool false))=>F.contains s
    | _=>false)&&(decide (d<N)&&z2f ops r N rest (d::F))
theorem zfm {a:Act}{d N:Nat}{v:Value}(h:a.tmps.size=N)(hd:d<N):(a.put (some d) v).tmps[d]?=some v:=by
 simp[Act.put,h,hd]
theorem z59 {a:Act}{d s:Nat}{v:Value}(h:s≠d):(a.put (some d) v).tmps[s]?=a.tmps[s]?:=by
 simp[Act.put,Ne.symm h]
theorem z5q {a:Act}{d:Option Nat}{v:Value}:(a.put d v).tmps.size=a.tmps.size:=by
 cases d<;>simp[Act.put]
theorem z3d {a:Act}{d:Option Nat}{v:Value}:(a.put d v).defers=a.defers:=by
 cases d<;>rfl
theorem yt {P:Program}{ops:Array Oper}{Q:Exit->Act->World->Prop}{r N:Nat}{w:World}:∀(rest:List Oper) (F:List Nat) (a:Act),z2f ops r N rest F=true->a.tmps.size=N->(∀s,F.contains s=true->a.tmps[s]?=some (.bool false))->(∀a':Act,a'.defers=a.defers->a'.tmps[r]?=some (.bool false)->Q .normal a' w)->wpList P ops Q rest a w
 | [],F,a,h,_,hF,hq=>hq a rfl (hF r h)
 | o :: rest,F,a,h,hN,hF,hq=>by
  refine wpList_step fun K hK=>?_
  unfold z2f at h
  split at h
  ·rename_i g b hg
   simp only[Bool.and_eq_true]at h
   obtain⟨rfl,h1,h2,h3⟩:=h
   have hw:¬Region.wanted o (yielded ops a.tmps)=true:=by
    split at h1
    ·rename_i og ho
     split at h1
     ·rename_i s hd
      simp[Region.wanted,hg,yielded,ho,hd,hF s h1]
     ·cases h1
    ·cases h1
   rw[if_neg hw];refine hK _ _ (yt rest F _ h3 (by rw[z5q];exact hN) (fun s hs=>?_) (fun a' e1 e2=>hq a' (e1.trans z3d) e2))
   split at h2
   ·rename_i d hd
    rw[hd];rw[z59 (fun e=>by subst e;rw[hs]at h2;cases h2)];exact hF s hs
   ·rename_i hd
    rw[hd];exact hF s hs
  ·rename_i hg
   have hw:Region.wanted o (yielded ops a.tmps)=true:=by simp[Region.wanted,hg]
   rw[if_pos hw]
   split at h
   ·cases h
   ·rename_i d hd
    simp only[Bool.and_eq_true,decide_eq_true_eq]at h
    obtain⟨h1,h2,h3⟩:=h
    have key:o.wp P a w K Q↔K (a.put (some d) (.bool false)) w:=by
     obtain⟨dst,op,ty,pos,after,guard⟩:=o;dsimp only at hd hg h1;subst hd
     split at h1
     ·rename_i s
      have e:=hF s h1
      simp[Oper.wp,execOp,Act.eval,Array.getD_eq_getD_getElem?,e,Oper.upon]
     ·rename_i s
      have e:=hF s h1
      simp[Oper.wp,execOp,Act.eval,Array.getD_eq_getD_getElem?,e,Oper.upon]
     ·rename_i s _
      have e:=hF s h1;have ea:(asBool (Value.bool false)).run P w=.ok false w:=rfl
      simp[Oper.wp,execOp,Act.eval,Array.getD_eq_getD_getElem?,e,Oper.upon,ea,Result.andThen]
     ·cases h1
    rw[key];refine hK _ _ (yt rest (d::F) _ h3 (by rw[z5q];exact hN) (fun s hs=>?_) (fun a' e1 e2=>hq a' (e1.trans z3d) e2))
    by_cases e:s=d
    ·subst e
     exact zfm hN h2
    ·rw[z59 e]
     refine hF s ?_
     simpa [e] using hs
structure Upd (S:Nat->Prop) (w w':World):Prop where
 os:w'.os=w.os
 tape:w'.tape=w.tape
 output:w'.output=w.output
 size:w.heap.size<=w'.heap.size
 block:∀k,k<w.heap.size->¬S k->w'.heap[k]?=w.heap[k]?
theorem Upd.refl (S:Nat->Prop)(w:World):Upd S w w:=⟨rfl,rfl,rfl,Nat.le_refl _,fun _ _ _=>rfl⟩
theorem Upd.trans {S:Nat->Prop}{a b c:World}(h:Upd S a b)(g:Upd S b c):Upd S a c :=
 ⟨g.os.trans h.os,g.tape.trans h.tape,g.output.trans h.output,Nat.le_trans h.size g.size,fun k hk hs=>(g.block k (Nat.lt_of_lt_of_le hk h.size) hs).trans (h.block k hk hs)⟩
theorem Upd.mono {S S':Nat->Prop}{a b:World}(h:Upd S a b)(hs:∀k,k<a.heap.size->S k->S' k):Upd S' a b :=
 ⟨h.os,h.tape,h.output,h.size,fun k hk hn=>h.block k hk (fun hh=>hn (hs k hk hh))⟩
theorem Upd.trans' {S S':Nat->Prop}{a b c:World}(h:Upd S a b)(g:Upd S' b c)(hs:∀k,k<a.heap.size->S' k->S k):Upd S a c :=
 ⟨g.os.trans h.os,g.tape.trans h.tape,g.output.trans h.output,Nat.le_trans h.size g.size,fun k hk hn=>(g.block k (Nat.lt_of_lt_of_le hk h.size) (fun hh=>hn (hs k hk hh))).trans (h.block k hk hn)⟩
theorem Upd.below {S:Nat->Prop}{B:Nat}{a b:World}(h:Upd S a b)(hB:B<=a.heap.size)(hs:∀k,k<a.heap.size->S k->B<=k):Below B a b :=
 ⟨h.os,h.tape,h.output,h.size,fun k hk=>h.block k (by omega) (fun hh=>by have:=hs k (by omega) hh;omega)⟩
theorem Upd.of_below {S:Nat->Prop}{B:Nat}{a b:World}(h:Below B a b)(hs:∀k,k<a.heap.size->¬S k->k<B):Upd S a b :=
 ⟨h.os,h.tape,h.output,h.size,fun k hk hn=>h.block k (hs k hk hn)⟩
theorem Upd.of_new {S:Nat->Prop}{a b:World}(h:Below a.heap.size a b):Upd S a b := .of_below h fun _ hk _=>hk
theorem Upd.of_grown {row:Option Nat}{a b:World}(h:a.grownBy b row):Upd (fun k=>row=some k) a b :=
 ⟨h.os,h.tape,h.output,h.size,fun k hk hn=>h.block k hk (fun e=>hn e.symm)⟩
theorem Upd.alloc (S:Nat->Prop)(w:World)(o:Obj):Upd S w (w.alloc o) := .of_new ((Below.refl _ _).alloc (Nat.le_refl _) o)
theorem Upd.set (w:World)(a:Addr)(u:Value):Upd (fun k=>k=a.block) w (w.setCell a u) :=
 ⟨rfl,rfl,rfl,by simp[World.setCell],fun k _ hn=>Below.heap_setCell _ _ _ _ hn⟩
theorem Upd.drew (S:Nat->Prop)(w:World):Upd S w w.drew:=⟨rfl,rfl,rfl,Nat.le_refl _,fun _ _ _=>rfl⟩
theorem Upd.own {S:Nat->Prop}{w w':World}{base:Nat}{e:TypeId}{size:Nat}{v:Value}{n:Nat}{xs:List Value}(h:Upd S w w')(ho:w.ownsRow base e size v n xs)(hs:∀k,v.ownBlock=some k->¬S k):w'.ownsRow base e size v n xs:=by
 refine⟨ho.1,?_⟩
 rcases ho.2 with hn|⟨g,cap,cur,rfl,hb,hgg,rest⟩
 ·exact .inl hn
 ·exact .inr ⟨g,cap,cur,rfl,hb,(h.block g (Array.getElem?_eq_some_iff.1 hgg).1 (hs g rfl)).trans hgg,rest⟩
theorem Upd.cell {S:Nat->Prop}{w w':World}(h:Upd S w w'){a:Addr}(hl:a.block<w.heap.size)(hs:¬S a.block):w'.cell? a=w.cell? a:=World.cell?_of_block (w:=w) (h.block a.block hl hs)
theorem zh {w:World}{base:Nat}{e:TypeId}{size:Nat}{v:Value}{n:Nat}{xs:List Value}(h:w.ownsRow base e size v n xs):∃ao cap,v=.slice ao n cap:=by
 rcases h.2 with ⟨rfl,rfl⟩|⟨g,cap,cur,rfl,_⟩
 ·exact⟨none,0,rfl⟩
 ·exact⟨_,cap,rfl⟩
theorem yj {w:World}{base:Nat}{e:TypeId}{size:Nat}{v:Value}{n:Nat}{xs:List Value}(h:w.ownsRow base e size v n xs)(hn:0<n):∃g cap,v=.slice (some ⟨g,0,none⟩) n cap/\base<=g/\g<w.heap.size/\n<=cap/\cap<=maxLen:=by
 rcases h.2 with ⟨rfl,rfl⟩|⟨g,cap,cur,rfl,hb,hg,hc,hm,_⟩
 ·omega
 ·exact⟨g,cap,rfl,hb,(Array.getElem?_eq_some_iff.1 hg).1,hc,hm⟩
theorem za {w:World}{p:Nat}{cs:Array Value}{T:TypeId}{fr:Nat × Nat}(h:w.heap[p]?=some (.cells cs T fr)){j:Nat}{u:Value}(hj:cs[j]?=some u):w.cell? ⟨p,j,none⟩=some u:=by
 rw[cell_of_row w p j _ _ _ h,hj]
theorem z8 {w:World}{p:Nat}{o:Obj}(h:w.heap[p]?=some o):p<w.heap.size:=(Array.getElem?_eq_some_iff.1 h).1
theorem z7 {w:World}{p:Nat}{cs:Array Value}{T:TypeId}(h:w.heap[p]?=some (.cells cs T (0,0)))(j:Nat):w.frozen? ⟨p,j,none⟩=false:=by simp[World.frozen?,h]
theorem ze {w:World}{p:Nat}{cs:Array Value}{T:TypeId}(h:w.heap[p]?=some (.cells cs T (0,0)))(j:Nat)(u:Value):(w.setCell ⟨p,j,none⟩ u).heap[p]?=some (.cells (cs.setIfInBounds j u) T (0,0)):=by
 rw[heap_setCell_same _ p j _ _ _ h]
section
variable {P:Program} {w:World}
theorem xw {ops:Array Oper} {rest:List Oper} {o:Oper} {a:Act} {Q:Exit->Act->World->Prop} (hgd:o.guard=none) (s x:Operand) (t:TypeId)
  (ho:o.op=.call { callee := .builtin .append,args:=#[s,x],argTypes:=#[t,t] })
  {base:Nat} {e:TypeId} {z:Value} {size bytes:Nat} (he:Elem P t e z size bytes) (hsz:0<size)
  {v:Value} {n:Nat} {xs:List Value} (hown:w.ownsRow base e size v n xs) (hs:a.eval s=v)
  {cs:List Value} {c:Nat} (hx:a.eval x=.slice (some ⟨w.heap.size,0,none⟩) 1 c) (hcs:cs.length=size) (h1:∀u∈cs,u.oneCell'=true)
  (h63:n+1<=maxLen) (hbytes:(n+1)*bytes<=140737488355328) (hbase:base<=w.heap.size)
  (h:∀g cap w',w'.ownsRow base e size (.slice (some ⟨g,0,none⟩) (n+1) cap) (n+1) (xs++cs)->w.grownBy w' v.ownBlock->(v.ownBlock=some g∨w.heap.size<=g)->wpList P ops Q rest (a.put o.dst (.slice (some ⟨g,0,none⟩) (n+1) cap)) w'):wpList P ops Q (o::rest) a (w.alloc (.cells cs.toArray e)):=by
 obtain⟨ht,hi0,hzs⟩:=he;obtain⟨i,hi,hz,hsize,hby⟩:=info_parts hi0;refine wpList_append_own_at (w.alloc (.cells cs.toArray e)) hgd s x t ho base e i z size bytes ht hi hz hsize hby hzs hsz v n xs hs (hown.alloc _) ⟨w.heap.size,0,none⟩ 1 c cs hx (by simp[hcs]) ?_ h1 h63 hbytes (by simp;omega) fun v' w' h2 h3 _ h5=>?_
 ·intro j u hj
  have hadd:(⟨w.heap.size,0,none⟩:Addr).add j=⟨w.heap.size,j,none⟩:=by unfold Addr.add;split<;>simp_all
  rw[hadd,World.cell?_alloc_at _ _ _ _ rfl]
  simpa using hj
 ·obtain⟨g,cap,rfl,_⟩:=yj h2 (by omega)
  refine h g cap w' h2 (Q6 h3) ?_
  rcases h5 with h5|h5
  ·exact .inl h5.symm
  ·simp[Value.ownBlock]at h5
   exact .inr (by omega)
end
open Go.RowKit
def yq (w:World)(n c:Int)(v:Value)(w':World):Prop :=
 (∃a,w.heap.size<=a/\v=.iface 162 (.pointer (some ⟨a,0,none⟩))/\w'.heap[a]?=some (.cells #[.int .i64 n,.iface 103 (.int .i64 c)] 166 (0,0)))/\Below w.heap.size w w'
theorem jh {w w1:World}{n c:Int}(h:Below w.heap.size w w1):yq w n c (.iface 162 (.pointer (some ⟨w1.heap.size,0,none⟩))) (w1.alloc (.cells #[.int .i64 n,.iface 103 (.int .i64 c)] 166)) :=
 ⟨⟨w1.heap.size,h.size,rfl,heap_alloc_new w1 _⟩,h.alloc h.size _⟩
theorem Ka {w w1:World}{n c:Int}{g:Nat}(h:Below w.heap.size w w1)(hg:g=w1.heap.size):yq w n c (.iface 162 (.pointer (some ⟨g,0,none⟩))) (w1.alloc (.cells #[.int .i64 n,.iface 103 (.int .i64 c)] 166)):=by
 subst hg;exact jh h
theorem yq.iface {w w':World}{n c:Int}{v:Value}(h:yq w n c v w'):∃T x,v=.iface T x:=by
 obtain⟨⟨a,_,rfl,_⟩,_⟩:=h;exact⟨_,_,rfl⟩
theorem yq.after {w w1 w':World}{n c:Int}{v:Value}(hb:Below w.heap.size w w1)(h:yq w1 n c v w'):yq w n c v w':=by
 obtain⟨⟨a,ha,hv,hh⟩,hb'⟩:=h;exact⟨⟨a,Nat.le_trans hb.size ha,hv,hh⟩,hb.trans (hb'.mono hb.size)⟩
theorem yq.stay {w w1 w':World}{n c:Int}{v:Value}(h:yq w n c v w1)(hb:Below w1.heap.size w1 w'):yq w n c v w':=by
 obtain⟨⟨a,ha,hv,hh⟩,hb'⟩:=h;exact⟨⟨a,ha,hv,(hb.block a (z8 hh)).trans hh⟩,hb'.trans (hb.mono hb'.size)⟩
theorem zv {P:Program} {fn:Func} {R:Ending->World->Prop} {a:Act} {w:World} {p u x:Tmp} {ty:TypeId} {g:Nat} {cs:Array Value}
  (h:fn.results=#[.cell p ty,.tmp u,.tmp x]) (hp:a.tmps.getD p undef=.pointer (some ⟨g,0,none⟩)) (hl:(loadVar ty ⟨g,0,none⟩).run P w=.ok (.agg cs) w) (hdf:a.defers=[])
  (hR:R (.returned (.tuple #[.agg cs,a.tmps.getD u undef,a.tmps.getD x undef])) w):bodyPost P fn R .ret a w:=by
 refine bodyPost_ret ?_ hdf hR;have hp':a.tmps[p]?.getD undef=.pointer (some ⟨g,0,none⟩):=by simpa using hp
 have hr:(asAddr (a.tmps[p]?.getD undef)).run P w=.ok ⟨g,0,none⟩ w:=by rw[hp'];rfl
 simp[results,h,Sem.run_bind,Result.andThen,hr,hl]
def Glob (w:World):Prop:=w.cell? ⟨0,0,none⟩=some (.iface 261 (.agg #[.pointer (some ⟨2,35,none⟩)]))
theorem Glob.pos {w:World}(h:Glob w):0<w.heap.size:=by
 rcases Nat.eq_zero_or_pos w.heap.size with h0|h1
 ·simp[Glob,World.cell?,h0]at h
 ·exact h1
theorem Glob.below {w w':World}(h:Glob w)(hb:Below w.heap.size w w'):Glob w':=(hb.cell (p:=⟨0,0,none⟩) h.pos).trans h
theorem Glob.alloc {w:World}(h:Glob w)(o:Obj):Glob (w.alloc o):=h.below ((Below.refl _ _).alloc (Nat.le_refl _) o)
def Jb (r:Value):Int:=match r with
 | .iface 103 (.int .i64 c)=>c
 | _=>14
def Jh (ws:List (Bool × Int)):Int:=match Xx true ws with|some (n,_)=>n|none=>0
def Jm (ws:List (Bool × Int)):Bool:=(Xx true ws).isSome
theorem zf3 (ws:List (Bool × Int))(v r:Value)(w:World)(he:isErr w ws v r)(hroot:Yf r)(hg:Glob w) :
  Calls Tryz.prog 30 #[v] w fun e w'=>e=.returned (.int .i64 (Jb r))/\Below w.heap.size w w':=by
 obtain⟨T,x,rfl⟩:=q6 he hroot;have HE:=hid he;have HB:=hid ((Below.refl _ w).alloc (Nat.le_refl _) (.cells #[.int .i64 0] 103));have HG:=hid (hg.alloc (.cells #[.int .i64 0] 103));have HR:=hid hroot;clear he hg hroot;go_enter Tryz.func30,Tryz.ntmps30;go_wp2_with fail
 go_at_call 75
 refine(zap ws _ r w.heap.size w _ HE.out HB.out HR.out (.int .i64 0) (heap_alloc_new w _) HG.out).mono ?_;intro e w' hp;have HP:=hid hp;clear hp;obtain⟨c,rfl⟩:=HR.out
 ·obtain⟨rfl,hu⟩:=zaz HP.out
  have hc:w'.cell? ⟨w.heap.size,0,none⟩=some (.int .i64 c):=by rw[cell_of_row w' _ 0 _ _ _ hu.cell];rfl
  have HB:=hid (Qg hu);clear hu
  go_wp2
  go_ret;exact⟨rfl,HB.out⟩
theorem zde (ws:List (Bool × Int))(v r:Value)(w:World)(he:isErr w ws v r)(hroot:Yf r)(hg:Glob w) :
  Calls Tryz.prog 29 #[v] w fun e w'=>e=.returned (.tuple #[.int .i64 (Jh ws),.bool (Jm ws)])/\Below w.heap.size w w':=by
 obtain⟨T,x,rfl⟩:=q6 he hroot;have HE:=hid he;have HB0:=hid ((Below.refl _ w).alloc (Nat.le_refl _) (.cells #[.pointer none] 162));have HG:=hid (hg.alloc (.cells #[.pointer none] 162));have HR:=hid hroot;clear he hg hroot;go_enter Tryz.func29,Tryz.ntmps29;go_wp2_with fail
 go_at_call 75
 refine(z8l ws _ r w.heap.size w _ HE.out HB0.out HR.out (.pointer none) (heap_alloc_new w _) HG.out).mono ?_;intro e w' hp;unfold Y6 at hp
 cases hf:Xx true ws with
 | none =>
  rw[hf]at hp;obtain⟨rfl,hu⟩:=hp;have HB:=hid (Qg hu);have h1:=hid (show Jh ws=0 by unfold Jh;rw[hf]);have h2:=hid (show Jm ws=false by unfold Jm;rw[hf];rfl);clear hf hu
  go_wp2
  go_ret2
  exact⟨by rw[h1.out,h2.out];rfl,HB.out⟩
 | some y =>
  obtain⟨n,rest⟩:=y;rw[hf]at hp;obtain⟨a,y,rfl,hu,ha,hh,hr⟩:=hp;have hc:w'.cell? ⟨w.heap.size,0,none⟩=some (.pointer (some ⟨a,0,none⟩)):=by rw[cell_of_row w' _ 0 _ _ _ hu.cell];rfl
  have hne:a≠w.heap.size:=Nat.ne_of_lt ha
  have hc2:w'.cell? ⟨a,0,none⟩=some (.int .i64 n):=by
   rw[cell_of_row w' a 0 _ _ _ ((hu.block a (by simp;omega) hne).trans ((Below.heap_alloc _ _ _ ha).trans hh))];rfl
  have HB:=hid (Qg hu);have h1:=hid (show Jh ws=n by unfold Jh;rw[hf]);have h2:=hid (show Jm ws=true by unfold Jm;rw[hf];rfl);clear hf hu ha hh hr
  go_wp2
  go_ret2
  exact⟨by rw[h1.out,h2.out];rfl,HB.out⟩
theorem Xg (c:Int):Yf (k9 c) := 
 ⟨c,rfl⟩
theorem z4k {w:World}{a:Nat}{n c:Int}(h:w.heap[a]?=some (.cells #[.int .i64 n,.iface 103 (.int .i64 c)] 166 (0,0))):isErr w [(true,n)] (.iface 162 (.pointer (some ⟨a,0,none⟩))) (k9 c) :=
 ⟨a,k9 c,rfl,z8 h,h,rfl⟩
theorem x8 {S:Nat->Prop}{w w':World}{ws:List (Bool × Int)}{v r:Value}(hU:Upd S w w')(hS:∀k,S k->∀(b:Bool) (n:Int) (e:Value),w.heap[k]?≠some (.cells #[.int .i64 n,e] (z16 b) (0,0)))(h:isErr w ws v r):isErr w' ws v r :=
 Kh (fun k _ ho ⟨b,n,e,he⟩=>(hU.block k (z8 ho) (fun hk=>hS k hk b n e (he ▸ ho))).trans ho) hU.size h
theorem yq.isErr {w:World}{n c:Int}{v:Value}{w':World}(h:yq w n c v w'):isErr w' [(true,n)] v (k9 c):=by
 obtain⟨⟨a,_,rfl,hh⟩,_⟩:=h;exact z4k hh
theorem rc0 {w:World}{b:Nat}{u0:Value}{l:List Value}{T:TypeId}{f:Nat × Nat}(h:w.heap[b]?=some (.cells (u0::l).toArray T f)):w.cell? ⟨b,0,none⟩=some u0:=za h (j:=0) rfl
theorem rc1 {w:World}{b:Nat}{u0 u1:Value}{l:List Value}{T:TypeId}{f:Nat × Nat}(h:w.heap[b]?=some (.cells (u0::u1::l).toArray T f)):w.cell? ⟨b,1,none⟩=some u1:=za h (j:=1) rfl
theorem rc2 {w:World}{b:Nat}{u0 u1 u2:Value}{l:List Value}{T:TypeId}{f:Nat × Nat}(h:w.heap[b]?=some (.cells (u0::u1::u2::l).toArray T f)):w.cell? ⟨b,2,none⟩=some u2:=za h (j:=2) rfl
theorem rc3 {w:World}{b:Nat}{u0 u1 u2 u3:Value}{l:List Value}{T:TypeId}{f:Nat × Nat}(h:w.heap[b]?=some (.cells (u0::u1::u2::u3::l).toArray T f)):w.cell? ⟨b,3,none⟩=some u3:=za h (j:=3) rfl
theorem rc4 {w:World}{b:Nat}{u0 u1 u2 u3 u4:Value}{l:List Value}{T:TypeId}{f:Nat × Nat}(h:w.heap[b]?=some (.cells (u0::u1::u2::u3::u4::l).toArray T f)):w.cell? ⟨b,4,none⟩=some u4:=za h (j:=4) rfl
theorem rc5 {w:World}{b:Nat}{u0 u1 u2 u3 u4 u5:Value}{l:List Value}{T:TypeId}{f:Nat × Nat}(h:w.heap[b]?=some (.cells (u0::u1::u2::u3::u4::u5::l).toArray T f)):w.cell? ⟨b,5,none⟩=some u5:=za h (j:=5) rfl
theorem rc6 {w:World}{b:Nat}{u0 u1 u2 u3 u4 u5 u6:Value}{l:List Value}{T:TypeId}{f:Nat × Nat}(h:w.heap[b]?=some (.cells (u0::u1::u2::u3::u4::u5::u6::l).toArray T f)):w.cell? ⟨b,6,none⟩=some u6:=za h (j:=6) rfl
theorem rc7 {w:World}{b:Nat}{u0 u1 u2 u3 u4 u5 u6 u7:Value}{l:List Value}{T:TypeId}{f:Nat × Nat}(h:w.heap[b]?=some (.cells (u0::u1::u2::u3::u4::u5::u6::u7::l).toArray T f)):w.cell? ⟨b,7,none⟩=some u7:=za h (j:=7) rfl
theorem rc8 {w:World}{b:Nat}{u0 u1 u2 u3 u4 u5 u6 u7 u8:Value}{l:List Value}{T:TypeId}{f:Nat × Nat}(h:w.heap[b]?=some (.cells (u0::u1::u2::u3::u4::u5::u6::u7::u8::l).toArray T f)):w.cell? ⟨b,8,none⟩=some u8:=za h (j:=8) rfl
theorem rc9 {w:World}{b:Nat}{u0 u1 u2 u3 u4 u5 u6 u7 u8 u9:Value}{l:List Value}{T:TypeId}{f:Nat × Nat}(h:w.heap[b]?=some (.cells (u0::u1::u2::u3::u4::u5::u6::u7::u8::u9::l).toArray T f)):w.cell? ⟨b,9,none⟩=some u9:=za h (j:=9) rfl
theorem rc10 {w:World}{b:Nat}{u0 u1 u2 u3 u4 u5 u6 u7 u8 u9 u10:Value}{l:List Value}{T:TypeId}{f:Nat × Nat}(h:w.heap[b]?=some (.cells (u0::u1::u2::u3::u4::u5::u6::u7::u8::u9::u10::l).toArray T f)):w.cell? ⟨b,10,none⟩=some u10:=za h (j:=10) rfl
theorem rc11 {w:World}{b:Nat}{u0 u1 u2 u3 u4 u5 u6 u7 u8 u9 u10 u11:Value}{l:List Value}{T:TypeId}{f:Nat × Nat}(h:w.heap[b]?=some (.cells (u0::u1::u2::u3::u4::u5::u6::u7::u8::u9::u10::u11::l).toArray T f)):w.cell? ⟨b,11,none⟩=some u11:=za h (j:=11) rfl
theorem rc12 {w:World}{b:Nat}{u0 u1 u2 u3 u4 u5 u6 u7 u8 u9 u10 u11 u12:Value}{l:List Value}{T:TypeId}{f:Nat × Nat}(h:w.heap[b]?=some (.cells (u0::u1::u2::u3::u4::u5::u6::u7::u8::u9::u10::u11::u12::l).toArray T f)):w.cell? ⟨b,12,none⟩=some u12:=za h (j:=12) rfl
theorem rc13 {w:World}{b:Nat}{u0 u1 u2 u3 u4 u5 u6 u7 u8 u9 u10 u11 u12 u13:Value}{l:List Value}{T:TypeId}{f:Nat × Nat}(h:w.heap[b]?=some (.cells (u0::u1::u2::u3::u4::u5::u6::u7::u8::u9::u10::u11::u12::u13::l).toArray T f)):w.cell? ⟨b,13,none⟩=some u13:=za h (j:=13) rfl
theorem rc14 {w:World}{b:Nat}{u0 u1 u2 u3 u4 u5 u6 u7 u8 u9 u10 u11 u12 u13 u14:Value}{l:List Value}{T:TypeId}{f:Nat × Nat}(h:w.heap[b]?=some (.cells (u0::u1::u2::u3::u4::u5::u6::u7::u8::u9::u10::u11::u12::u13::u14::l).toArray T f)):w.cell? ⟨b,14,none⟩=some u14:=za h (j:=14) rfl
theorem rc15 {w:World}{b:Nat}{u0 u1 u2 u3 u4 u5 u6 u7 u8 u9 u10 u11 u12 u13 u14 u15:Value}{l:List Value}{T:TypeId}{f:Nat × Nat}(h:w.heap[b]?=some (.cells (u0::u1::u2::u3::u4::u5::u6::u7::u8::u9::u10::u11::u12::u13::u14::u15::l).toArray T f)):w.cell? ⟨b,15,none⟩=some u15:=za h (j:=15) rfl
theorem rc16 {w:World}{b:Nat}{u0 u1 u2 u3 u4 u5 u6 u7 u8 u9 u10 u11 u12 u13 u14 u15 u16:Value}{l:List Value}{T:TypeId}{f:Nat × Nat}(h:w.heap[b]?=some (.cells (u0::u1::u2::u3::u4::u5::u6::u7::u8::u9::u10::u11::u12::u13::u14::u15::u16::l).toArray T f)):w.cell? ⟨b,16,none⟩=some u16:=za h (j:=16) rfl
theorem rc17 {w:World}{b:Nat}{u0 u1 u2 u3 u4 u5 u6 u7 u8 u9 u10 u11 u12 u13 u14 u15 u16 u17:Value}{l:List Value}{T:TypeId}{f:Nat × Nat}(h:w.heap[b]?=some (.cells (u0::u1::u2::u3::u4::u5::u6::u7::u8::u9::u10::u11::u12::u13::u14::u15::u16::u17::l).toArray T f)):w.cell? ⟨b,17,none⟩=some u17:=za h (j:=17) rfl
theorem rc18 {w:World}{b:Nat}{u0 u1 u2 u3 u4 u5 u6 u7 u8 u9 u10 u11 u12 u13 u14 u15 u16 u17 u18:Value}{l:List Value}{T:TypeId}{f:Nat × Nat}(h:w.heap[b]?=some (.cells (u0::u1::u2::u3::u4::u5::u6::u7::u8::u9::u10::u11::u12::u13::u14::u15::u16::u17::u18::l).toArray T f)):w.cell? ⟨b,18,none⟩=some u18:=za h (j:=18) rfl
theorem rc19 {w:World}{b:Nat}{u0 u1 u2 u3 u4 u5 u6 u7 u8 u9 u10 u11 u12 u13 u14 u15 u16 u17 u18 u19:Value}{l:List Value}{T:TypeId}{f:Nat × Nat}(h:w.heap[b]?=some (.cells (u0::u1::u2::u3::u4::u5::u6::u7::u8::u9::u10::u11::u12::u13::u14::u15::u16::u17::u18::u19::l).toArray T f)):w.cell? ⟨b,19,none⟩=some u19:=za h (j:=19) rfl
theorem rc20 {w:World}{b:Nat}{u0 u1 u2 u3 u4 u5 u6 u7 u8 u9 u10 u11 u12 u13 u14 u15 u16 u17 u18 u19 u20:Value}{l:List Value}{T:TypeId}{f:Nat × Nat}(h:w.heap[b]?=some (.cells (u0::u1::u2::u3::u4::u5::u6::u7::u8::u9::u10::u11::u12::u13::u14::u15::u16::u17::u18::u19::u20::l).toArray T f)):w.cell? ⟨b,20,none⟩=some u20:=za h (j:=20) rfl
theorem rc21 {w:World}{b:Nat}{u0 u1 u2 u3 u4 u5 u6 u7 u8 u9 u10 u11 u12 u13 u14 u15 u16 u17 u18 u19 u20 u21:Value}{l:List Value}{T:TypeId}{f:Nat × Nat}(h:w.heap[b]?=some (.cells (u0::u1::u2::u3::u4::u5::u6::u7::u8::u9::u10::u11::u12::u13::u14::u15::u16::u17::u18::u19::u20::u21::l).toArray T f)):w.cell? ⟨b,21,none⟩=some u21:=za h (j:=21) rfl
theorem rc22 {w:World}{b:Nat}{u0 u1 u2 u3 u4 u5 u6 u7 u8 u9 u10 u11 u12 u13 u14 u15 u16 u17 u18 u19 u20 u21 u22:Value}{l:List Value}{T:TypeId}{f:Nat × Nat}(h:w.heap[b]?=some (.cells (u0::u1::u2::u3::u4::u5::u6::u7::u8::u9::u10::u11::u12::u13::u14::u15::u16::u17::u18::u19::u20::u21::u22::l).toArray T f)):w.cell? ⟨b,22,none⟩=some u22:=za h (j:=22) rfl
theorem rc23 {w:World}{b:Nat}{u0 u1 u2 u3 u4 u5 u6 u7 u8 u9 u10 u11 u12 u13 u14 u15 u16 u17 u18 u19 u20 u21 u22 u23:Value}{l:List Value}{T:TypeId}{f:Nat × Nat}(h:w.heap[b]?=some (.cells (u0::u1::u2::u3::u4::u5::u6::u7::u8::u9::u10::u11::u12::u13::u14::u15::u16::u17::u18::u19::u20::u21::u22::u23::l).toArray T f)):w.cell? ⟨b,23,none⟩=some u23:=za h (j:=23) rfl
end Go.Proofs.YtmlghmjjlpioeaaGreatDoor
