/-
  A message that is being read, with any number of lists.
-/
import Derived.Test.YtficgfemmijaaaaGreatFld
namespace Go.Proofs.YtficgfemmijaaaaGreat
open Go.RowKit
open Lib (hid)
structure LPart (σ:Type) (lo:Nat) where
 V:Type
 rel:σ→V→(Nat→Prop)→World→Prop
 lt:∀ {st v P w},rel st v P w→∀ k,P k→lo≤k∧k<w.heap.size
 kept:∀ {st v P w w'},rel st v P w→Upd (fun k=>¬P k) w w'→rel st v P w'
 same:σ→σ→Prop
 conv:∀ {st st' v P w},same st st'→rel st v P w→rel st' v P w
def lone {σ α:Type}(C:Cel α)(T:TypeId)(lo:Nat)(ls:σ→List α):LPart σ lo where
 V:=Value
 rel st v P w:=LsAt C T lo v (ls st) P w
 lt:=fun h=>LsAt.lt h
 kept:=fun h hu=>LsAt.kept h hu
 same st st':=ls st'=ls st
 conv:=fun (e:ls _=ls _) h=>by show LsAt C T lo _ (ls _) _ _;rw[e];exact h
def ltwo {σ:Type}{lo:Nat}(A B:LPart σ lo):LPart σ lo where
 V:=A.V × B.V
 rel st v P w:=∃ P1 P2,A.rel st v.1 P1 w∧B.rel st v.2 P2 w∧(∀ k,P1 k→¬P2 k)∧P=fun k=>P1 k∨P2 k
 lt:=by
  rintro st v P w ⟨P1,P2,h1,h2,_,rfl⟩ k (hk|hk)
  ·exact A.lt h1 k hk
  ·exact B.lt h2 k hk
 kept:=by
  rintro st v P w w' ⟨P1,P2,h1,h2,h3,rfl⟩ hu;exact ⟨P1,P2,A.kept h1 (hu.mono fun k _ h h'=>h (.inl h')),B.kept h2 (hu.mono fun k _ h h'=>h (.inr h')),h3,rfl⟩
 same st st':=A.same st st'∧B.same st st'
 conv:=by
  rintro st st' v P w ⟨e1,e2⟩ ⟨P1,P2,h1,h2,h3,rfl⟩;exact ⟨P1,P2,A.conv e1 h1,B.conv e2 h2,h3,rfl⟩
def LPart.Sees {σ α:Type}{lo:Nat}(A:LPart σ lo)(C:Cel α)(T:TypeId)(ls:σ→List α)(get:A.V→Value)(put:A.V→Value→A.V)(sm:σ→σ→Prop):Prop :=
 ∀ st v P w,A.rel st v P w→∃ Pi,LsAt C T lo (get v) (ls st) Pi w∧(∀ k,Pi k→P k) ∧
  ∀ (S:Nat→Prop) st' v' P' w',sm st st'→Upd (fun k=>S k∨Pi k) w w'→(∀ k,S k→¬P k)→LsAt C T lo v' (ls st') P' w'→(∀ k,P' k→Pi k∨w.heap.size≤k)→∃ P'',A.rel st' (put v v') P'' w'∧∀ k,P'' k→P k∨w.heap.size≤k
theorem sees_one {σ α:Type}(C:Cel α)(T:TypeId)(lo:Nat)(ls:σ→List α):(lone C T lo ls).Sees C T ls id (fun _ v'=>v') (fun _ _=>True):=fun _ _ P _ h =>
 ⟨P,h,fun _ h=>h,fun _ _ _ P' _ _ _ _ h1 h2=>⟨P',h1,h2⟩⟩
theorem sees_l {σ α:Type}{lo:Nat}{A B:LPart σ lo}{C:Cel α}{T:TypeId}{ls:σ→List α}{get:A.V→Value}{put:A.V→Value→A.V}{sm:σ→σ→Prop}(h:A.Sees C T ls get put sm):(ltwo A B).Sees C T ls (fun v=>get v.1) (fun v v'=>(put v.1 v',v.2)) (fun st st'=>sm st st'∧B.same st st'):=by
 rintro st v P w ⟨P1,P2,h1,h2,h3,rfl⟩;obtain ⟨Pi,g1,g2,g3⟩:=h st v.1 P1 w h1;refine ⟨Pi,g1,fun k hk => .inl (g2 k hk),fun S st' v' P' w' hs hu hS hl hp=>?_⟩;obtain ⟨P'',q1,q2⟩:=g3 S st' v' P' w' hs.1 hu (fun k hk h=>hS k hk (.inl h)) hl hp
 have hB:B.rel st' v.2 P2 w':=B.conv hs.2 (B.kept h2 (hu.mono fun k _ h h'=>by
  rcases h with h|h
  ·exact hS k h (.inr h')
  ·exact h3 k (g2 k h) h'))
 refine ⟨fun k=>P'' k∨P2 k,⟨P'',P2,q1,hB,fun k hk h'=>?_,rfl⟩,fun k hk=>?_⟩
 ·rcases q2 k hk with h|h
  ·exact h3 k h h'
  ·have:=(B.lt h2 k h').2;omega
 ·rcases hk with hk|hk
  ·exact (q2 k hk).imp .inl id
  ·exact .inl (.inr hk)
theorem sees_r {σ α:Type}{lo:Nat}{A B:LPart σ lo}{C:Cel α}{T:TypeId}{ls:σ→List α}{get:B.V→Value}{put:B.V→Value→B.V}{sm:σ→σ→Prop}(h:B.Sees C T ls get put sm):(ltwo A B).Sees C T ls (fun v=>get v.2) (fun v v'=>(v.1,put v.2 v')) (fun st st'=>A.same st st'∧sm st st'):=by
 rintro st v P w ⟨P1,P2,h1,h2,h3,rfl⟩;obtain ⟨Pi,g1,g2,g3⟩:=h st v.2 P2 w h2;refine ⟨Pi,g1,fun k hk => .inr (g2 k hk),fun S st' v' P' w' hs hu hS hl hp=>?_⟩;obtain ⟨P'',q1,q2⟩:=g3 S st' v' P' w' hs.2 hu (fun k hk h=>hS k hk (.inr h)) hl hp
 have hA:A.rel st' v.1 P1 w':=A.conv hs.1 (A.kept h1 (hu.mono fun k _ h h'=>by
  rcases h with h|h
  ·exact hS k h (.inl h')
  ·exact h3 k h' (g2 k h)))
 refine ⟨fun k=>P1 k∨P'' k,⟨P1,P'',hA,q1,fun k hk h'=>?_,rfl⟩,fun k hk=>?_⟩
 ·rcases q2 k h' with h|h
  ·exact h3 k hk h
  ·have:=(A.lt h1 k hk).2;omega
 ·rcases hk with hk|hk
  ·exact .inl (.inl hk)
  ·exact (q2 k hk).imp .inr id
theorem lone_nil {σ α:Type}{C:Cel α}{T:TypeId}{lo:Nat}{ls:σ→List α}{st:σ}{w:World}(h:ls st=[]):(lone C T lo ls).rel st (Value.slice none 0 0) (fun _=>False) w:=by
 show LsAt C T lo (.slice none 0 0) (ls st) _ w
 rw[h];have:=LsAt.nil C T lo w
 rwa [show (fun k=>(Value.slice none 0 0).ownBlock=some k∨False)=fun _=>False by funext k;simp[Value.ownBlock]] at this
theorem ltwo_nil {σ:Type}{lo:Nat}{A B:LPart σ lo}{st:σ}{va:A.V}{vb:B.V}{w:World}(h1:A.rel st va (fun _=>False) w)(h2:B.rel st vb (fun _=>False) w):(ltwo A B).rel st (va,vb) (fun _=>False) w :=
 ⟨_,_,h1,h2,fun _ h=>h.elim,by funext k;simp⟩
def rowL {σ:Type}{bx:Nat}(A:LPart σ (bx+1))(T0:TypeId)(row:σ→A.V→Array Value):Taker σ where
 rel st P w:=∃ v P1,w.heap[bx]? = some (.cells (row st v) T0 (0,0))∧A.rel st v P1 w∧P=fun k=>k=bx∨P1 k
 lt:=by
  rintro st P w ⟨v,P1,h1,h2,rfl⟩ k (rfl|hk)
  ·exact row_lt h1
  ·exact (A.lt h2 k hk).2
 kept:=by
  rintro st P w w' ⟨v,P1,h1,h2,rfl⟩ hu;exact ⟨v,P1,(hu.block bx (row_lt h1) (fun h=>h (.inl rfl))).trans h1,A.kept h2 (hu.mono fun k _ h h'=>h (.inr h')),rfl⟩
section
variable {σ:Type} {bx:Nat} {A:LPart σ (bx+1)} {T0:TypeId} {row:σ→A.V→Array Value} {st st':σ} {v:A.V} {P1:Nat→Prop} {w:World}
theorem rowL_upd {w':World}{c:Array Value}(h2:A.rel st v P1 w)(hu:Upd (fun k=>k=bx) w w')(h1:w'.heap[bx]? = some (.cells c T0 (0,0)))(hr:c=row st' v)(hl:A.same st st') :
  (rowL A T0 row).rel st' (fun k=>k=bx∨P1 k) w'∧Upd (fun k=>k=bx) w w' :=
 ⟨⟨v,P1,hr ▸ h1,A.conv hl (A.kept h2 (hu.mono fun k _ h h'=>by have h:k=bx:=h;have:=(A.lt h2 k h').1;omega)),rfl⟩,hu⟩
theorem rowL_set (o:Nat)(u:Value)(h1:w.heap[bx]? = some (.cells (row st v) T0 (0,0)))(h2:A.rel st v P1 w)(hr:(row st v).setIfInBounds o u=row st' v)(hl:A.same st st') :
  (rowL A T0 row).rel st' (fun k=>k=bx∨P1 k) (w.setCell ⟨bx,o,none⟩ u)∧Upd (fun k=>k=bx) w (w.setCell ⟨bx,o,none⟩ u) :=
 rowL_upd h2 (Upd.set w ⟨bx,o,none⟩ u) (row_set h1 o u) hr hl
theorem rowL_set2 (o o2:Nat)(u u2:Value)(h1:w.heap[bx]? = some (.cells (row st v) T0 (0,0)))(h2:A.rel st v P1 w)(hr:((row st v).setIfInBounds o u).setIfInBounds o2 u2=row st' v)(hl:A.same st st') :
  (rowL A T0 row).rel st' (fun k=>k=bx∨P1 k) ((w.setCell ⟨bx,o,none⟩ u).setCell ⟨bx,o2,none⟩ u2)∧Upd (fun k=>k=bx) w ((w.setCell ⟨bx,o,none⟩ u).setCell ⟨bx,o2,none⟩ u2) :=
 rowL_upd h2 ((Upd.set w ⟨bx,o,none⟩ u).trans (Upd.set _ ⟨bx,o2,none⟩ u2)) (row_set (row_set h1 o u) o2 u2) hr hl
theorem rowL_add {α:Type} {C:Cel α} {T:TypeId} {ls:σ→List α} {sm:σ→σ→Prop} {put:A.V→Value→A.V} {o:Nat} {x:α} {Pi:Nat→Prop} {e:Ending} {w':World} (h2:A.rel st v P1 w)
  (hput:∀ (S:Nat→Prop) st' v' P' w',sm st st'→Upd (fun k=>S k∨Pi k) w w'→(∀ k,S k→¬P1 k)→LsAt C T (bx+1) v' (ls st') P' w'→(∀ k,P' k→Pi k∨w.heap.size≤k)→∃ P'',A.rel st' (put v v') P'' w'∧∀ k,P'' k→P1 k∨w.heap.size≤k)
  (h:AddPost C T T0 bx o (bx+1) (row st v) (ls st) Pi (.ok x) w e w') (hr:∀ v',(row st v).setIfInBounds o v'=row st' (put v v')) (hsm:sm st st') (hl:ls st'=ls st++[x]) (hsub:∀ k,Pi k→P1 k) :
  e = .returned .nilIface∧Upd (fun k=>k=bx∨P1 k) w w'∧∃ P',(rowL A T0 row).rel st' P' w'∧∀ k,P' k→(k=bx∨P1 k)∨w.heap.size≤k:=by
 obtain ⟨hu,he,v',P',h1,h3,h4⟩:=h;obtain ⟨P'',q1,q2⟩:=hput (fun k=>k=bx) st' v' P' w' hsm hu (fun k hk h=>by have hk:k=bx:=hk;have:=(A.lt h2 k h).1;omega) (hl ▸ h3) h4;refine ⟨he,hu.mono (fun k _ h=>h.imp id (hsub k)),_,⟨put v v',P'',hr v' ▸ h1,q1,rfl⟩,?_⟩;rintro k (rfl|hk)
 ·exact .inl (.inl rfl)
 ·exact (q2 k hk).imp .inr id
end
def louts {α:Type}(S:Sub α)(num:Nat)(l:List α):List UInt8:=(l.map fun x=>rB num (S.out x)).flatMap Rec.raw
def lmays {α:Type}(S:Sub α)(l:List α)(d:Int):Bool:=l.all fun x=>decide (1≤d)&&S.may (d - 1) x
def lwt {α:Type}(S:Sub α)(l:List α):Nat:=lsum (l.map S.wt)
section
variable {α:Type} {S:Sub α}
theorem louts_app (num:Nat)(a b:List α):louts S num (a++b)=louts S num a++louts S num b:=by unfold louts;rw[List.map_append,List.flatMap_append]
theorem louts_one (num:Nat)(x:α):louts S num [x]=(rB num (S.out x)).raw:=by unfold louts;simp
theorem lmays_app (a b:List α)(d:Int):lmays S (a++b) d=(lmays S a d&&lmays S b d):=by unfold lmays;rw[List.all_append]
theorem lmays_one (x:α)(d:Int):lmays S [x] d=(decide (1≤d)&&S.may (d - 1) x):=by unfold lmays;simp
theorem lwt_cons (x:α)(l:List α):lwt S (x::l)=S.wt x+lwt S l:=rfl
theorem lwt_app (a b:List α):lwt S (a++b)=lwt S a+lwt S b:=by
 induction a with
 | nil=>simp[lwt,lsum]
 | cons x a ih=>rw[List.cons_append,lwt_cons,lwt_cons,ih];omega
theorem lwt_one (x:α):lwt S [x]=S.wt x:=by rw[lwt_cons];simp[lwt,lsum]
theorem lwt_mem {l:List α}{x:α}(h:x∈l):S.wt x≤lwt S l:=lsum_mem (List.mem_map_of_mem (f:=S.wt) h)
theorem lwt_at {l:List α}{j:Nat}(hj:j<l.length):lwt S (l.take j)+S.wt l[j]≤lwt S l:=by
 have h:=congrArg (lwt S) (List.take_append_drop (j+1) l);rw[lwt_app,List.take_succ_eq_append_getElem hj,lwt_app,lwt_one] at h;omega
theorem lwt_len {k:Nat}(h:∀ x,k≤S.wt x):∀ l:List α,l.length * k≤lwt S l
 | []=>by simp
 | x::l=>by rw[lwt_cons,List.length_cons,Nat.add_mul];have:=lwt_len h l;have:=h x;omega
theorem vput_one {n:Nat}(h:n<128):(vput n).length=1:=by
 rw[show vput n=vputF (8+1) n from rfl,vputF,if_pos h];rfl
theorem louts_le {num:Nat}(hn:1≤num∧num≤15)(h:∀ x,(S.out x).length+11≤S.wt x):∀ l:List α,(louts S num l).length≤lwt S l
 | []=>by simp[louts]
 | x::l=>by
  have e:louts S num (x::l)=(rB num (S.out x)).raw++louts S num l:=by rw[show x::l=[x]++l from rfl,louts_app,louts_one]
  rw[e,List.length_append,lwt_cons];have:=louts_le hn h l;have:=h x;have h1:(vput (8 * num+2)).length=1:=vput_one (by omega)
  have h2:(rB num (S.out x)).raw.length=(vput (8 * num+2)).length+((vput (S.out x).length).length+(S.out x).length):=by
   show (vput (8 * num+2)++(vput (S.out x).length++S.out x)).length=_
   rw[List.length_append,List.length_append]
  have:=vput_le10 (S.out x).length;omega
theorem lst_out (num:Nat)(l:List α):((listF num S).out l).flatMap Rec.raw=louts S num l:=rfl
theorem lst_may (num:Nat)(d:Int)(l:List α):(listF num S).may d l=lmays S l d:=rfl
theorem lst_wt (num:Nat)(l:List α):(listF num S).wt l=lwt S l:=rfl
theorem lst_ok {num:Nat}{d:Int}{l:List α}{r:Rec}{x:α}(e:S.rd (d - 1) r.s = .ok x):(listF num S).step d l r = .ok (l++[x]):=by
 show listStep S d l r=_
 unfold listStep;rw[e];rfl
theorem lst_no {num:Nat}{d:Int}{l:List α}{r:Rec}{c:Nat}(e:S.rd (d - 1) r.s = .error c):(listF num S).step d l r = .error c:=by
 show listStep S d l r=_
 unfold listStep;rw[e];rfl
end
end Go.Proofs.YtficgfemmijaaaaGreat
