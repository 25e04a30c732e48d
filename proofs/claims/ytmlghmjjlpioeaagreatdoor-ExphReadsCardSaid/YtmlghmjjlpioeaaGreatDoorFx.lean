/-
  Door, Fx
-/
import Derived.ProofKit
import Derived.OpenShut
import Derived.JoinedCond
import Derived.SizedLaws
import Derived.Carry
import Derived.Test.YtmlghmjjlpioeaaGreatDoorCards
import Derived.Test.YtmlghmjjlpioeaaGreatDoorTie
import Derived.Deep.DeepHandedRow
import Derived.LaidLaws
import Derived.LaidHandle
import Derived.Stop.Joined
import Derived.Test.YtmlghmjjlpioeaaGreatDoorAlikeB
namespace Go.Proofs.YtmlghmjjlpioeaaGreatDoor
open Go.RowKit
open Lib (hid)
def CLB {α:Type}(C:Cel α)(T:TypeId)(N:Nat)(v:Value)(xs:List α)(w:World):Prop:=∃(css:List (List Value)) (Q:Nat->Prop),w.ownsRow N T C.size v xs.length css.flatten/\css.length=xs.length/\(∀j (h1:j<xs.length) (h2:j<css.length),C.R w Q xs[j] css[j])/\(∀k,Q k->N<=k/\k<w.heap.size/\v.ownBlock≠some k)
theorem CLB.nil {α:Type}(C:Cel α)(T:TypeId)(N:Nat)(w:World):CLB C T N (.slice none 0 0) [] w:=⟨[],fun _=>False,World.ownsRow_nil _ _ _ _,rfl,fun j h=>by simp at h,fun k h=>h.elim⟩
theorem CLB.upd {α:Type}{C:Cel α}{T:TypeId}{S:Nat->Prop}{N:Nat}{v:Value}{xs:List α}{w w':World}(h:CLB C T N v xs w)(hu:Upd S w w')(hs:∀k,N<=k->k<w.heap.size->¬S k):CLB C T N v xs w':=by
 obtain⟨css,Q,h1,h2,h3,h4⟩:=h;exact⟨css,Q,hu.own h1 (fun k hk=>hs k (h1.lt k hk).1 (h1.lt k hk).2),h2,fun j g1 g2=>C.upd hu (fun k hk=>hs k (h4 k hk).1 (h4 k hk).2.1) (fun k hk=>hk) (h3 j g1 g2),fun k hk=>⟨(h4 k hk).1,Nat.lt_of_lt_of_le (h4 k hk).2.1 hu.size,(h4 k hk).2.2⟩⟩
theorem CLB.slice {α:Type}{C:Cel α}{T:TypeId}{N:Nat}{v:Value}{xs:List α}{w:World}(h:CLB C T N v xs w):∃lo cap,v=.slice lo xs.length cap:=by
 obtain⟨css,Q,h1,_⟩:=h;exact zh h1
theorem CLB.krels {T:TypeId}{N:Nat}{lo:Option Addr}{cap:Nat}{xs:List KV}{w:World}(h:CLB kcel T N (.slice lo xs.length cap) xs w):y7 w (fun k=>N<=k) xs lo 0:=by
 obtain⟨css,Q,h1,h2,h3,h4⟩:=h;refine Yy (css:=css) h1 h2 (fun j g1 g2=>?_) (fun k hk=>(h1.lt k hk).1);exact KRel.upd (Upd.refl (fun _=>False) w) (fun _ _ h=>h) (fun k hk=>(h4 k hk).1) _ _ (h3 j g1 g2)
theorem CLB.add {α:Type} {C:Cel α} {T:TypeId} {N:Nat} {xs:List α} {x:α} {ao:Option Addr} {cap g cap':Nat} {w w1 W:World} {cs:List Value} {css:List (List Value)} {Q:Nat->Prop} (h1:w.ownsRow N T C.size (.slice ao xs.length cap) xs.length css.flatten) (h2:css.length=xs.length) (h3:∀j (h1:j<xs.length) (h2:j<css.length),C.R w Q xs[j] css[j]) (h4:∀k,Q k->N<=k/\k<w.heap.size/\(Value.slice ao xs.length cap).ownBlock≠some k)
  (hN:N<=w.heap.size) (hb:Below w.heap.size w w1) (hrel:C.R w1 (fun k=>w.heap.size<=k) x cs) (hu:Upd (fun k=>(Value.slice ao xs.length cap).ownBlock=some k) w1 W) (hown:W.ownsRow N T C.size (.slice (some ⟨g,0,none⟩) (xs.length+1) cap') (xs.length+1) (css.flatten++cs)) (hg:(Value.slice ao xs.length cap).ownBlock=some g∨w1.heap.size<=g) :
  CLB C T N (.slice (some ⟨g,0,none⟩) (xs.length+1) cap') (xs++[x]) W:=by
 have hs1:=hb.size;have hs2:=hu.size;refine⟨css++[cs],fun k=>Q k∨(w.heap.size<=k/\k<w1.heap.size),?_,?_,?_,?_⟩
 ·rw[List.flatten_append,List.flatten_singleton,List.length_append]
  exact hown
 ·rw[List.length_append,List.length_append,h2];rfl
 ·intro j g1 g2
  by_cases hj:j<xs.length
  ·rw[List.getElem_append_left hj,List.getElem_append_left (by omega)]
   refine C.upd hu (fun k hk hs=>(h4 k hk).2.2 hs) (fun k hk => .inl hk) (C.upd (Upd.of_new (S:=fun _=>False) hb) (fun _ _ h=>h) (fun k hk=>hk) (h3 j hj (by omega)))
  ·have hje:j=xs.length:=by rw[List.length_append,List.length_singleton]at g1;omega
   subst hje;rw[List.getElem_append_right (Nat.le_refl _),List.getElem_append_right (by omega)]
   simp only[Nat.sub_self,List.getElem_cons_zero,h2]
   refine C.upd hu (fun k hk hs=>?_) (fun k hk => .inr hk) (C.lt hrel);have:=(h1.lt k hs).2;omega
 ·intro k hk
  rcases hk with hk|hk
  ·have:=h4 k hk
   refine⟨this.1,by omega,fun e=>?_⟩;have e:g=k:=by simpa [Value.ownBlock] using e
   rcases hg with h|h
   ·exact this.2.2 (e ▸ h)
   ·omega
  ·refine⟨by omega,by omega,fun e=>?_⟩
   have e:g=k:=by simpa [Value.ownBlock] using e
   rcases hg with h|h
   ·have:=(h1.lt g h).2;omega
   ·omega
def z71 {α:Type}(C:Cel α)(zero:Array Value)(rd:Except Nat α)(w:World)(e:Ending)(w':World):Prop:=Below w.heap.size w w'/\match rd with
 | .error _=>e=.returned (.tuple #[.agg zero,.bool false])
 | .ok x=>∃cs,e=.returned (.tuple #[.agg cs.toArray,.bool true])/\C.R w' (fun k=>w.heap.size<=k) x cs
theorem Qw {σ:Type}{tk:Rec->Bool}{step:σ->Rec->Except Nat σ}{st:σ}{l:List UInt8}{d:Int}{rs:List Rec}(hw:y8 l d=.ok rs):(∀c,zg tk step st rs=.error c->zq tk step st l d=.error c)/\(∀x,zg tk step st rs=.ok x->zq tk step st l d=.ok (x,munk tk rs)):=by
 unfold y8 at hw
 unfold zq
 split at hw
 ·cases hw
 ·rename_i h
  rw[if_neg h,hw];dsimp only;exact⟨fun c hc=>by rw[hc],fun x hx=>by rw[hx]⟩
theorem z08 {σ:Type}{tk:Rec->Bool}{step:σ->Rec->Except Nat σ}{st:σ}{l:List UInt8}{d:Int}:zq tk step st l d=match y8 l d with
  | .error c => .error c
  | .ok rs=>match zg tk step st rs with
   | .error c => .error c
   | .ok x => .ok (x,munk tk rs):=by
 unfold zq y8
 split
 ·rfl
 ·cases wall l d with
  | error c=>rfl
  | ok rs =>
   dsimp only
   cases zg tk step st rs<;>rfl
open Go.ChangeShapes Go.WideShapes Go.ChangeAt Go.RowKit
theorem Ku {H:Type}{enc:TypeId × Value->H}{P:Program}(hl:laidOutB P=true){W W':World}(hb:Below W.heap.size W W') :
  ∀ {ts:List TypeId} {vs:List Value} {ds:List (DataW H)} {ps:List MemPlace},(∀t∈ts,P.readableRec t=true/\t<P.types.size) ->
   DataW.TrodAll enc P W 0 (fun _=>true) true ts vs ds ps->(∀x∈ps,x.block<W.heap.size)->DataW.TrodAll enc P W' 0 (fun b=>decide (b<W.heap.size)) true ts vs ds ps
 | [],[],[],_,_,h,_=>h
 | t::ts,v::vs,d::ds,ps,hr,h,hlt=>by
  obtain⟨p,q,h1,h2,rfl⟩:=h
  exact ⟨p,q,Below.trod hl (hr t (by simp)).1 (hr t (by simp)).2 h1 hb (fun x hx=>hlt x (by simp[hx])),
   Ku hl hb (fun u hu=>hr u (by simp[hu])) h2 (fun x hx=>hlt x (by simp[hx])),rfl⟩
 | [],_::_,_,_,_,h,_=>h.elim
 | [],[],_::_,_,_,h,_=>h.elim
 | _::_,[],_,_,_,h,_=>h.elim
 | _::_,_::_,[],_,_,h,_=>h.elim
theorem zff {H:Type} {enc:TypeId × Value->H} {P:Program} {f:Func} {spec:ChangeSpec} {B:TypeId} {W W':World} {args:Array Value} {ds gs:List (DataW H)} {before:List MemPlace}
  (hl:laidOutB P=true) (hr:f.params.toList.all (fun t=>P.readableRec t&&decide (t<P.types.size))=true) (hres:f.resultTypes=#[B]) (hB:P.underlying B=some .bool) (hv:spec.vars=[])
  (hW:DataW.Whole enc P f.params.toList spec.vars false W args.toList ds gs before) (hfn:∀ds,ds.length=f.params.size->spec.fn H ds={ results:=[.lit (.bool true)],args:=ds })
  (hb:Below W.heap.size W W'):spec.post enc P f false true false false W args (.bool true) W':=by
 have hW0:=hW;obtain⟨p,q,hA,hV,rfl,_,_⟩:=hW
 have hgs:gs=[]/\q=[]:=by
  rw[hv]at hV
  cases gs with
  | nil=>exact⟨rfl,hV⟩
  | cons g r=>exact hV.elim
 obtain⟨rfl,rfl⟩:=hgs
 have hlen:∀{ts:List TypeId} {vs:List Value} {ds:List (DataW H)} {ps:List MemPlace},DataW.TrodAll enc P W 0 (fun _=>true) true ts vs ds ps->ds.length=ts.length:=by
  intro ts
  induction ts with
  | nil=>intro vs ds ps h;cases vs<;>cases ds<;>first|rfl|exact h.elim
  | cons t ts ih=>intro vs ds ps h;cases vs<;>cases ds<;>first|exact h.elim|(obtain⟨_,_,_,h2,_⟩:=h;simp[ih h2])
 have hd:ds.length=f.params.size:=by rw[hlen hA];simp
 have e:=hfn ds hd
 have hr':∀t∈f.params.toList,P.readableRec t=true/\t<P.types.size:=fun t ht=>by
  have:=List.all_eq_true.1 hr t ht
  simpa using this
 refine⟨ds,[],p++[],[],p,[],hW0,?_,?_,?_,hb.frame _,fun h=>by cases h⟩
 ·rw[List.append_nil,e,hres];exact trodAll_mk1 (shut_bool hB true)
 ·rw[List.append_nil,e];exact Ku hl hb hr' hA (fun x hx=>by simpa using hW0.lt x (by simpa using hx))
 ·rw[List.append_nil,e,hv];rfl
open Go.ChangeShapes Go.WideShapes Go.ChangeAt Go.RowKit
theorem Tryz.own:ownKnob Tryz.prog.godebug=none:=by kernel_rfl
theorem Tryz.et:Tryz.prog.globalNamed "errors.errorType" = some 0:=by kernel_rfl
theorem Tryz.rt:(Tryz.prog.cutTypes.find? (·.1 == "internal/reflectlite.rtype")).map (·.2)=some 261:=by kernel_rfl
theorem Tryz.oneRow:((List.range Tryz.prog.types.size).filter fun t=>Tryz.prog.rowNamed t [101,114,114,111,114])=[35]:=by kernel_rfl
def z43:List (String × DataW Unit):=[("errors.errorType",.iface "internal/reflectlite.rtype" (.agg [.ptr (.lit (.string [101,114,114,111,114]))]))]
theorem z7m {W:World}(h:laidMetH Tryz.prog z43 W):Glob W:=by
 have h':laidMet Tryz.prog [] W/\handlesMet Tryz.prog z43 W:=h;obtain⟨name,u,ty,e1,e2,e3,e4,e5⟩:=h'.2 _ (List.mem_singleton.2 rfl);have en:name=[101,114,114,111,114]:=(Option.some.inj e1).symm;subst en;obtain rfl:=Option.some.inj (Tryz.rt.symm.trans e2);have hm:ty∈(List.range Tryz.prog.types.size).filter fun t=>Tryz.prog.rowNamed t [101,114,114,111,114]:=List.mem_filter.2 ⟨List.mem_range.2 e3,e4⟩
 rw[Tryz.oneRow]at hm;obtain rfl:=List.mem_singleton.1 hm;have hh:typeHandle Tryz.prog 35=.pointer (some ⟨2,35,none⟩):=by kernel_rfl
 rw[hh]at e5
 simpa [Glob] using World.var?_cell Tryz.et e5 0
noncomputable def laidWorld (os:Os):World :=
 let w0:=World.holding Tryz.prog os ⟨#[],#[],[]⟩
 { w0 with heap:=w0.heap.modify 0 fun
   | .cells _ t frozen => .cells #[.iface 261 (.agg #[.pointer (some ⟨2,35,none⟩)])] t frozen
   | o=>o }
theorem z5k (os:Os)(args:Array Value):laidMetH Tryz.prog z43 ((laidWorld os).forCall (fun _ _=>0) ⟨#[],args,[]⟩).memory :=
 laidMetH_of_parts (laidMet_nil _ _) (by kernel_rfl)
structure Fx (A:World->Prop) (w:World):Prop where
 is:A w
 st:∀w1 w2,A w1->Below w1.heap.size w1 w2->A w2
theorem Fx.nil (w:World):Fx (fun _=>True) w:=⟨trivial,fun _ _ _ _=>trivial⟩
theorem Fx.below {A:World->Prop}{w w':World}(h:Fx A w)(hb:Below w.heap.size w w'):Fx A w':=⟨h.st _ _ h.is hb,h.st⟩
theorem Fx.add {A B:World->Prop}{w:World}(h:Fx A w)(hb:B w)(hs:∀w1 w2,B w1->Below w1.heap.size w1 w2->B w2):Fx (fun w=>B w/\A w) w:=⟨⟨hb,h.is⟩,fun _ _ h1 h2=>⟨hs _ _ h1.1 h2,h.st _ _ h1.2 h2⟩⟩
theorem Fx.base {A:World->Prop}{w w0:World}(h:Fx A w)(hb:Below w0.heap.size w0 w):Fx (fun w=>Below w0.heap.size w0 w/\A w) w:=h.add (B:=fun w=>Below w0.heap.size w0 w) hb fun _ _ h1 h2=>zb h1 h2
theorem Fx.row {A:World->Prop}{w:World}{g:Nat}{c:Array Value}{T:TypeId}(h:Fx A w)(hb:w.heap[g]?=some (.cells c T (0,0))):Fx (fun w=>w.heap[g]?=some (.cells c T (0,0))/\A w) w:=h.add (B:=fun w=>w.heap[g]?=some (.cells c T (0,0))) hb fun _ _ h1 h2=>(h2.block _ (z8 h1)).trans h1
theorem Fx.ew {A:World->Prop}{w:World}{v:Value}{q c:Nat}(h:Fx A w)(hb:EW w v q c):Fx (fun w=>EW w v q c/\A w) w:=h.add (B:=fun w=>EW w v q c) hb fun _ _ h1 h2=>h1.below h2
def R2 (g1:Nat)(c1:Array Value)(T1:TypeId)(g2:Nat)(c2:Array Value)(T2:TypeId)(w:World):Prop:=w.heap[g1]?=some (.cells c1 T1 (0,0))/\w.heap[g2]?=some (.cells c2 T2 (0,0))
theorem R2.below {g1 g2:Nat}{c1 c2:Array Value}{T1 T2:TypeId}{w w':World}(h:R2 g1 c1 T1 g2 c2 T2 w)(hb:Below w.heap.size w w'):R2 g1 c1 T1 g2 c2 T2 w':=⟨(hb.block _ (z8 h.1)).trans h.1,(hb.block _ (z8 h.2)).trans h.2⟩
theorem Fx.cel {A:World->Prop}{w:World}{α:Type}{C:Cel α}{P:Nat->Prop}{x:α}{c:List Value}(h:Fx A w)(hb:C.R w P x c):Fx (fun w=>C.R w P x c/\A w) w:=h.add (B:=fun w=>C.R w P x c) hb fun _ _ h1 h2=>C.upd (Upd.of_new (S:=fun _=>False) h2) (fun _ _ h=>h) (fun _ h=>h) h1
theorem row5 {w:World}{g:Nat}{c0 c1 c2 c3 c4:Value}{T:TypeId}{fr:Nat × Nat}(h:w.heap[g]?=some (.cells #[c0,c1,c2,c3,c4] T fr)):w.cell? ⟨g,0,none⟩=some c0/\w.cell? ⟨g,1,none⟩=some c1/\w.cell? ⟨g,2,none⟩=some c2/\w.cell? ⟨g,3,none⟩=some c3/\w.cell? ⟨g,4,none⟩=some c4:=⟨za h (j:=0) rfl,za h (j:=1) rfl,za h (j:=2) rfl,za h (j:=3) rfl,za h (j:=4) rfl⟩
end Go.Proofs.YtmlghmjjlpioeaaGreatDoor
