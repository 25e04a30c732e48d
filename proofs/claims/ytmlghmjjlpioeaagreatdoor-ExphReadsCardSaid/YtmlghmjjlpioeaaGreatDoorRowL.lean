/-
  FldH, RowL
-/
import Derived.Test.YtmlghmjjlpioeaaGreatDoorFld
namespace Go.Proofs.YtmlghmjjlpioeaaGreatDoor
open Go.RowKit
open Lib (hid)
def optF (num:Nat):Fld where
 σ:=Bool × Nat
 z:=(false,0)
 tk r:=decide (r.num=num/\r.ty=1)
 step _ _ r := .ok (true,r.n)
 out s:=if s.1=true then [rF num s.2]else []
 may _ s:=s.1||decide (s.2=0)
 fit s:=s.2<18446744073709551616
 wt _:=0
 w0:=0
 inv _ s _:=(s.1=true∨s.2=0)/\s.2<18446744073709551616
theorem Xs {num:Nat}(h1:1<=num)(h2:num<=536870911):(optF num).Ok where
 recs:=fun (s:Bool × Nat) hf hw r hr=>by
  have hr:r∈(if s.1=true then [rF num s.2]else []):=hr;have hf:s.2<18446744073709551616:=hf
  split at hr
  ·rw[List.mem_singleton.1 hr]
   exact⟨decide_eq_true ⟨rfl,rfl⟩,fun d=>z19 h1 h2 (by omega) d⟩
  ·cases hr
 back:=fun (s:Bool × Nat) d hf hw hd hm=>by
  obtain⟨b,n⟩:=s;have hm:(b||decide (n=0))=true:=hm
  show zg (σ:=Bool × Nat) (optF num).tk ((optF num).step d) (false,(0:Nat)) (if b=true then [rF num n]else [])=.ok (b,n)
  cases b with
  | true=>exact Zh (decide_eq_true ⟨rfl,rfl⟩) rfl
  | false =>
   have h0:n=0:=of_decide_eq_true (by simpa using hm);subst h0
   rfl
 less:=fun (s:Bool × Nat) d d' hf hw hm hle hn=>by rw[show(optF num).may d' s=(optF num).may d s from rfl,hm]at hn;cases hn
 start:=fun d=>⟨.inr rfl,by show 0<18446744073709551616;omega⟩
 go:=fun d (s:Bool × Nat) t r (s':Bool × Nat) hi hr hk ht hs=>by
  have hs:Except.ok (true,r.n)=Except.ok s':=hs;obtain rfl:=Except.ok.inj hs;have:=(qj hr).1;exact⟨.inl rfl,by show r.n<18446744073709551616;omega⟩
 ends:=fun d (s:Bool × Nat) t hd hi ht=>by
  refine⟨?_,hi.2,by show 0<=_;omega⟩
  show(s.1||decide (s.2=0))=true
  rcases hi.1 with h|h
  ·rw[h];rfl
  ·rw[h,decide_eq_true rfl,Bool.or_true]
theorem z0j (num:Nat):(optF num).Code:=fun d s r c h=>by
 have h:Except.ok (true,r.n)=Except.error c:=h
 cases h
structure xv (σ:Type) (lo:Nat) where
 V:Type
 rel:σ->V->(Nat->Prop)->World->Prop
 lt:∀{st v P w},rel st v P w->∀k,P k->lo<=k/\k<w.heap.size
 kept:∀{st v P w w'},rel st v P w->Upd (fun k=>¬P k) w w'->rel st v P w'
 same:σ->σ->Prop
 conv:∀{st st' v P w},same st st'->rel st v P w->rel st' v P w
def lone {σ α:Type}(C:Cel α)(T:TypeId)(lo:Nat)(ls:σ->List α):xv σ lo where
 V:=Value
 rel st v P w:=LsAt C T lo v (ls st) P w
 lt:=fun h=>LsAt.lt h
 kept:=fun h hu=>LsAt.kept h hu
 same st st':=ls st'=ls st
 conv:=fun (e:ls _=ls _) h=>by show LsAt C T lo _ (ls _) _ _;rw[e];exact h
def ltwo {σ:Type}{lo:Nat}(A B:xv σ lo):xv σ lo where
 V:=A.V × B.V
 rel st v P w:=∃P1 P2,A.rel st v.1 P1 w/\B.rel st v.2 P2 w/\(∀k,P1 k->¬P2 k)/\P=fun k=>P1 k∨P2 k
 lt:=by
  rintro st v P w ⟨P1,P2,h1,h2,_,rfl⟩ k (hk|hk)
  ·exact A.lt h1 k hk
  ·exact B.lt h2 k hk
 kept:=by
  rintro st v P w w' ⟨P1,P2,h1,h2,h3,rfl⟩ hu;exact⟨P1,P2,A.kept h1 (hu.mono fun k _ h h'=>h (.inl h')),B.kept h2 (hu.mono fun k _ h h'=>h (.inr h')),h3,rfl⟩
 same st st':=A.same st st'/\B.same st st'
 conv:=by
  rintro st st' v P w ⟨e1,e2⟩ ⟨P1,P2,h1,h2,h3,rfl⟩;exact⟨P1,P2,A.conv e1 h1,B.conv e2 h2,h3,rfl⟩
def xv.Sees {σ α:Type}{lo:Nat}(A:xv σ lo)(C:Cel α)(T:TypeId)(ls:σ->List α)(get:A.V->Value)(put:A.V->Value->A.V)(sm:σ->σ->Prop):Prop :=
 ∀ st v P w,A.rel st v P w->∃Pi,LsAt C T lo (get v) (ls st) Pi w/\(∀k,Pi k->P k) /\
  ∀(S:Nat->Prop) st' v' P' w',sm st st'->Upd (fun k=>S k∨Pi k) w w'->(∀k,S k->¬P k)->LsAt C T lo v' (ls st') P' w'->(∀k,P' k->Pi k∨w.heap.size<=k)->∃P'',A.rel st' (put v v') P'' w'/\∀k,P'' k->P k∨w.heap.size<=k
theorem Ys {σ α:Type}(C:Cel α)(T:TypeId)(lo:Nat)(ls:σ->List α):(lone C T lo ls).Sees C T ls id (fun _ v'=>v') (fun _ _=>True):=fun _ _ P _ h =>
 ⟨P,h,fun _ h=>h,fun _ _ _ P' _ _ _ _ h1 h2=>⟨P',h1,h2⟩⟩
theorem z38 {σ α:Type}{lo:Nat}{A B:xv σ lo}{C:Cel α}{T:TypeId}{ls:σ->List α}{get:A.V->Value}{put:A.V->Value->A.V}{sm:σ->σ->Prop}(h:A.Sees C T ls get put sm):(ltwo A B).Sees C T ls (fun v=>get v.1) (fun v v'=>(put v.1 v',v.2)) (fun st st'=>sm st st'/\B.same st st'):=by
 rintro st v P w ⟨P1,P2,h1,h2,h3,rfl⟩;obtain⟨Pi,g1,g2,g3⟩:=h st v.1 P1 w h1;refine⟨Pi,g1,fun k hk => .inl (g2 k hk),fun S st' v' P' w' hs hu hS hl hp=>?_⟩;obtain⟨P'',q1,q2⟩:=g3 S st' v' P' w' hs.1 hu (fun k hk h=>hS k hk (.inl h)) hl hp
 have hB:B.rel st' v.2 P2 w':=B.conv hs.2 (B.kept h2 (hu.mono fun k _ h h'=>by
  rcases h with h|h
  ·exact hS k h (.inr h')
  ·exact h3 k (g2 k h) h'))
 refine⟨fun k=>P'' k∨P2 k,⟨P'',P2,q1,hB,fun k hk h'=>?_,rfl⟩,fun k hk=>?_⟩
 ·rcases q2 k hk with h|h
  ·exact h3 k h h'
  ·have:=(B.lt h2 k h').2;omega
 ·rcases hk with hk|hk
  ·exact(q2 k hk).imp .inl id
  ·exact .inl (.inr hk)
theorem Q4 {σ α:Type}{lo:Nat}{A B:xv σ lo}{C:Cel α}{T:TypeId}{ls:σ->List α}{get:B.V->Value}{put:B.V->Value->B.V}{sm:σ->σ->Prop}(h:B.Sees C T ls get put sm):(ltwo A B).Sees C T ls (fun v=>get v.2) (fun v v'=>(v.1,put v.2 v')) (fun st st'=>A.same st st'/\sm st st'):=by
 rintro st v P w ⟨P1,P2,h1,h2,h3,rfl⟩;obtain⟨Pi,g1,g2,g3⟩:=h st v.2 P2 w h2;refine⟨Pi,g1,fun k hk => .inr (g2 k hk),fun S st' v' P' w' hs hu hS hl hp=>?_⟩;obtain⟨P'',q1,q2⟩:=g3 S st' v' P' w' hs.2 hu (fun k hk h=>hS k hk (.inr h)) hl hp
 have hA:A.rel st' v.1 P1 w':=A.conv hs.1 (A.kept h1 (hu.mono fun k _ h h'=>by
  rcases h with h|h
  ·exact hS k h (.inl h')
  ·exact h3 k h' (g2 k h)))
 refine⟨fun k=>P1 k∨P'' k,⟨P1,P'',hA,q1,fun k hk h'=>?_,rfl⟩,fun k hk=>?_⟩
 ·rcases q2 k h' with h|h
  ·exact h3 k hk h
  ·have:=(A.lt h1 k hk).2;omega
 ·rcases hk with hk|hk
  ·exact .inl (.inl hk)
  ·exact(q2 k hk).imp .inr id
theorem Yt {σ α:Type}{C:Cel α}{T:TypeId}{lo:Nat}{ls:σ->List α}{st:σ}{w:World}(h:ls st=[]):(lone C T lo ls).rel st (Value.slice none 0 0) (fun _=>False) w:=by
 show LsAt C T lo (.slice none 0 0) (ls st) _ w
 rw[h];have:=LsAt.nil C T lo w
 rwa [show(fun k=>(Value.slice none 0 0).ownBlock=some k∨False)=fun _=>False by funext k;simp[Value.ownBlock]]at this
theorem Jt {σ:Type}{lo:Nat}{A B:xv σ lo}{st:σ}{va:A.V}{vb:B.V}{w:World}(h1:A.rel st va (fun _=>False) w)(h2:B.rel st vb (fun _=>False) w):(ltwo A B).rel st (va,vb) (fun _=>False) w :=
 ⟨_,_,h1,h2,fun _ h=>h.elim,by funext k;simp⟩
def rowL {σ:Type}{bx:Nat}(A:xv σ (bx+1))(T0:TypeId)(row:σ->A.V->Array Value):j5 σ where
 rel st P w:=∃v P1,w.heap[bx]?=some (.cells (row st v) T0 (0,0))/\A.rel st v P1 w/\P=fun k=>k=bx∨P1 k
 lt:=by
  rintro st P w ⟨v,P1,h1,h2,rfl⟩ k (rfl|hk)
  ·exact z8 h1
  ·exact(A.lt h2 k hk).2
 kept:=by
  rintro st P w w' ⟨v,P1,h1,h2,rfl⟩ hu;exact⟨v,P1,(hu.block bx (z8 h1) (fun h=>h (.inl rfl))).trans h1,A.kept h2 (hu.mono fun k _ h h'=>h (.inr h')),rfl⟩
section
variable {σ:Type} {bx:Nat} {A:xv σ (bx+1)} {T0:TypeId} {row:σ->A.V->Array Value} {st st':σ} {v:A.V} {P1:Nat->Prop} {w:World}
theorem z7o {w':World}{c:Array Value}(h2:A.rel st v P1 w)(hu:Upd (fun k=>k=bx) w w')(h1:w'.heap[bx]?=some (.cells c T0 (0,0)))(hr:c=row st' v)(hl:A.same st st') :
  (rowL A T0 row).rel st' (fun k=>k=bx∨P1 k) w'/\Upd (fun k=>k=bx) w w' :=
 ⟨⟨v,P1,hr ▸ h1,A.conv hl (A.kept h2 (hu.mono fun k _ h h'=>by have h:k=bx:=h;have:=(A.lt h2 k h').1;omega)),rfl⟩,hu⟩
theorem Y2 (o:Nat)(u:Value)(h1:w.heap[bx]?=some (.cells (row st v) T0 (0,0)))(h2:A.rel st v P1 w)(hr:(row st v).setIfInBounds o u=row st' v)(hl:A.same st st') :
  (rowL A T0 row).rel st' (fun k=>k=bx∨P1 k) (w.setCell ⟨bx,o,none⟩ u)/\Upd (fun k=>k=bx) w (w.setCell ⟨bx,o,none⟩ u) :=
 z7o h2 (Upd.set w ⟨bx,o,none⟩ u) (ze h1 o u) hr hl
theorem z0w (o o2:Nat)(u u2:Value)(h1:w.heap[bx]?=some (.cells (row st v) T0 (0,0)))(h2:A.rel st v P1 w)(hr:((row st v).setIfInBounds o u).setIfInBounds o2 u2=row st' v)(hl:A.same st st') :
  (rowL A T0 row).rel st' (fun k=>k=bx∨P1 k) ((w.setCell ⟨bx,o,none⟩ u).setCell ⟨bx,o2,none⟩ u2)/\Upd (fun k=>k=bx) w ((w.setCell ⟨bx,o,none⟩ u).setCell ⟨bx,o2,none⟩ u2) :=
 z7o h2 ((Upd.set w ⟨bx,o,none⟩ u).trans (Upd.set _ ⟨bx,o2,none⟩ u2)) (ze (ze h1 o u) o2 u2) hr hl
theorem Yq {α:Type} {C:Cel α} {T:TypeId} {ls:σ->List α} {sm:σ->σ->Prop} {put:A.V->Value->A.V} {o:Nat} {x:α} {Pi:Nat->Prop} {e:Ending} {w':World} (h2:A.rel st v P1 w)
  (hput:∀(S:Nat->Prop) st' v' P' w',sm st st'->Upd (fun k=>S k∨Pi k) w w'->(∀k,S k->¬P1 k)->LsAt C T (bx+1) v' (ls st') P' w'->(∀k,P' k->Pi k∨w.heap.size<=k)->∃P'',A.rel st' (put v v') P'' w'/\∀k,P'' k->P1 k∨w.heap.size<=k)
  (h:Yw C T T0 bx o (bx+1) (row st v) (ls st) Pi (.ok x) w e w') (hr:∀v',(row st v).setIfInBounds o v'=row st' (put v v')) (hsm:sm st st') (hl:ls st'=ls st++[x]) (hsub:∀k,Pi k->P1 k) :
  e=.returned .nilIface/\Upd (fun k=>k=bx∨P1 k) w w'/\∃P',(rowL A T0 row).rel st' P' w'/\∀k,P' k->(k=bx∨P1 k)∨w.heap.size<=k:=by
 obtain⟨hu,he,v',P',h1,h3,h4⟩:=h;obtain⟨P'',q1,q2⟩:=hput (fun k=>k=bx) st' v' P' w' hsm hu (fun k hk h=>by have hk:k=bx:=hk;have:=(A.lt h2 k h).1;omega) (hl ▸ h3) h4;refine⟨he,hu.mono (fun k _ h=>h.imp id (hsub k)),_,⟨put v v',P'',hr v' ▸ h1,q1,rfl⟩,?_⟩;rintro k (rfl|hk)
 ·exact .inl (.inl rfl)
 ·exact(q2 k hk).imp .inr id
end
def lmays {α:Type}(S:Sub α)(l:List α)(d:Int):Bool:=l.all fun x=>decide (1<=d)&&S.may (d-1) x
def lwt {α:Type}(S:Sub α)(l:List α):Nat:=lsum (l.map S.wt)
section
variable {α:Type} {S:Sub α}
theorem zfg (x:α)(l:List α):lwt S (x::l)=S.wt x+lwt S l:=rfl
theorem lwt_mem {l:List α}{x:α}(h:x∈l):S.wt x<=lwt S l:=Qi (List.mem_map_of_mem (f:=S.wt) h)
theorem z9u {k:Nat}(h:∀x,k<=S.wt x):∀l:List α,l.length*k<=lwt S l
 | []=>by simp
 | x::l=>by rw[zfg,List.length_cons,Nat.add_mul];have:=z9u h l;have:=h x;omega
theorem z65 {n:Nat}(h:n<128):(vput n).length=1:=by
 rw[show vput n=yz (8+1) n from rfl,yz,if_pos h];rfl
theorem lst_may (num:Nat)(d:Int)(l:List α):(zy num S).may d l=lmays S l d:=rfl
theorem lst_wt (num:Nat)(l:List α):(zy num S).wt l=lwt S l:=rfl
theorem zcg {num:Nat}{d:Int}{l:List α}{r:Rec}{x:α}(e:S.rd (d-1) r.s=.ok x):(zy num S).step d l r=.ok (l++[x]):=by
 show xf S d l r=_
 unfold xf;rw[e];rfl
theorem zdy {num:Nat}{d:Int}{l:List α}{r:Rec}{c:Nat}(e:S.rd (d-1) r.s=.error c):(zy num S).step d l r=.error c:=by
 show xf S d l r=_
 unfold xf;rw[e];rfl
theorem zfc (hS:∀d t c,S.rd d t=.error c->j0 c)(num:Nat):(zy num S).Code:=fun d (s:List α) r c h=>by
 cases e:S.rd (d-1) r.s with
 | error c'=>rw[zdy (num:=num) (l:=s) e]at h;cases h;exact hS _ _ _ e
 | ok x=>rw[zcg (num:=num) (l:=s) e]at h;cases h
end
end Go.Proofs.YtmlghmjjlpioeaaGreatDoor
