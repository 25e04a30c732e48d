/-
  RowL, ExSub
-/
import Derived.Test.YtjbingoliffjiaaGreatDoorFld
import Derived.Test.YtjbingoliffjiaaGreatDoorExBack
namespace Go.Proofs.YtjbingoliffjiaaGreatDoor
open Go.RowKit
structure LPart (σ:Type) (lo:Nat) where
 V:Type
 rel:σ→V→(Nat→Prop)→World→Prop
 lt:∀ {st v P w},rel st v P w→∀ k,P k→lo≤k∧k<w.heap.size
 kept:∀ {st v P w w'},rel st v P w→Upd (fun k=>¬P k) w w'→rel st v P w'
 same:σ→σ→Prop
 conv:∀ {st st' v P w},same st st'→rel st v P w→rel st' v P w
def lone {σ α:Type} (C:Cel α) (T:TypeId) (lo:Nat) (ls:σ→List α):LPart σ lo where
 V:=Value
 rel st v P w:=LsAt C T lo v (ls st) P w
 lt:=fun h=>LsAt.lt h
 kept:=fun h hu=>LsAt.kept h hu
 same st st':=ls st'=ls st
 conv:=fun (e:ls _=ls _) h=>by show LsAt C T lo _ (ls _) _ _;rw[e];exact h
def ltwo {σ:Type} {lo:Nat} (A B:LPart σ lo):LPart σ lo where
 V:=A.V × B.V
 rel st v P w:=∃ P1 P2,A.rel st v.1 P1 w∧B.rel st v.2 P2 w∧(∀ k,P1 k→¬P2 k)∧P=fun k=>P1 k∨P2 k
 lt:=by
  rintro st v P w ⟨P1,P2,h1,h2,_,rfl⟩ k (hk|hk)
  ·exact A.lt h1 k hk
  ·exact B.lt h2 k hk
 kept:=by
  rintro st v P w w' ⟨P1,P2,h1,h2,h3,rfl⟩ hu
  exact ⟨P1,P2,A.kept h1 (hu.mono fun k _ h h'=>h (.inl h')),B.kept h2 (hu.mono fun k _ h h'=>h (.inr h')),h3,rfl⟩
 same st st':=A.same st st'∧B.same st st'
 conv:=by
  rintro st st' v P w ⟨e1,e2⟩ ⟨P1,P2,h1,h2,h3,rfl⟩
  exact ⟨P1,P2,A.conv e1 h1,B.conv e2 h2,h3,rfl⟩
def LPart.Sees {σ α:Type} {lo:Nat} (A:LPart σ lo) (C:Cel α) (T:TypeId) (ls:σ→List α) (get:A.V→Value) (put:A.V→Value→A.V) (sm:σ→σ→Prop):Prop :=
 ∀ st v P w,A.rel st v P w→∃ Pi,LsAt C T lo (get v) (ls st) Pi w∧(∀ k,Pi k→P k) ∧
  ∀ (S:Nat→Prop) st' v' P' w',sm st st'→Upd (fun k=>S k∨Pi k) w w'→(∀ k,S k→¬P k)→LsAt C T lo v' (ls st') P' w'→(∀ k,P' k→Pi k∨w.heap.size≤k)→∃ P'',A.rel st' (put v v') P'' w'∧∀ k,P'' k→P k∨w.heap.size≤k
theorem sees_one {σ α:Type} (C:Cel α) (T:TypeId) (lo:Nat) (ls:σ→List α):(lone C T lo ls).Sees C T ls id (fun _ v'=>v') (fun _ _=>True):=fun _ _ P _ h =>
 ⟨P,h,fun _ h=>h,fun _ _ _ P' _ _ _ _ h1 h2=>⟨P',h1,h2⟩⟩
theorem sees_l {σ α:Type} {lo:Nat} {A B:LPart σ lo} {C:Cel α} {T:TypeId} {ls:σ→List α} {get:A.V→Value} {put:A.V→Value→A.V} {sm:σ→σ→Prop} (h:A.Sees C T ls get put sm):(ltwo A B).Sees C T ls (fun v=>get v.1) (fun v v'=>(put v.1 v',v.2)) (fun st st'=>sm st st'∧B.same st st'):=by
 rintro st v P w ⟨P1,P2,h1,h2,h3,rfl⟩
 obtain ⟨Pi,g1,g2,g3⟩:=h st v.1 P1 w h1
 refine ⟨Pi,g1,fun k hk => .inl (g2 k hk),fun S st' v' P' w' hs hu hS hl hp=>?_⟩
 obtain ⟨P'',q1,q2⟩:=g3 S st' v' P' w' hs.1 hu (fun k hk h=>hS k hk (.inl h)) hl hp
 have hB:B.rel st' v.2 P2 w':=B.conv hs.2 (B.kept h2 (hu.mono fun k _ h h'=>by
  rcases h with h|h
  ·exact hS k h (.inr h')
  ·exact h3 k (g2 k h) h'))
 refine ⟨fun k=>P'' k∨P2 k,⟨P'',P2,q1,hB,fun k hk h'=>?_,rfl⟩,fun k hk=>?_⟩
 ·rcases q2 k hk with h|h
  ·exact h3 k h h'
  ·have:=(B.lt h2 k h').2;omega
 ·rcases hk with hk|hk
  ·exact (q2 k hk).imp .inl id
  ·exact .inl (.inr hk)
theorem sees_r {σ α:Type} {lo:Nat} {A B:LPart σ lo} {C:Cel α} {T:TypeId} {ls:σ→List α} {get:B.V→Value} {put:B.V→Value→B.V} {sm:σ→σ→Prop} (h:B.Sees C T ls get put sm):(ltwo A B).Sees C T ls (fun v=>get v.2) (fun v v'=>(v.1,put v.2 v')) (fun st st'=>A.same st st'∧sm st st'):=by
 rintro st v P w ⟨P1,P2,h1,h2,h3,rfl⟩
 obtain ⟨Pi,g1,g2,g3⟩:=h st v.2 P2 w h2
 refine ⟨Pi,g1,fun k hk => .inr (g2 k hk),fun S st' v' P' w' hs hu hS hl hp=>?_⟩
 obtain ⟨P'',q1,q2⟩:=g3 S st' v' P' w' hs.2 hu (fun k hk h=>hS k hk (.inr h)) hl hp
 have hA:A.rel st' v.1 P1 w':=A.conv hs.1 (A.kept h1 (hu.mono fun k _ h h'=>by
  rcases h with h|h
  ·exact hS k h (.inl h')
  ·exact h3 k h' (g2 k h)))
 refine ⟨fun k=>P1 k∨P'' k,⟨P1,P'',hA,q1,fun k hk h'=>?_,rfl⟩,fun k hk=>?_⟩
 ·rcases q2 k h' with h|h
  ·exact h3 k hk h
  ·have:=(A.lt h1 k hk).2;omega
 ·rcases hk with hk|hk
  ·exact .inl (.inl hk)
  ·exact (q2 k hk).imp .inr id
theorem lone_nil {σ α:Type} {C:Cel α} {T:TypeId} {lo:Nat} {ls:σ→List α} {st:σ} {w:World} (h:ls st=[]):(lone C T lo ls).rel st (Value.slice none 0 0) (fun _=>False) w:=by
 show LsAt C T lo (.slice none 0 0) (ls st) _ w
 rw[h]
 have:=LsAt.nil C T lo w
 rwa [show (fun k=>(Value.slice none 0 0).ownBlock=some k∨False)=fun _=>False by funext k;simp[Value.ownBlock]] at this
theorem ltwo_nil {σ:Type} {lo:Nat} {A B:LPart σ lo} {st:σ} {va:A.V} {vb:B.V} {w:World} (h1:A.rel st va (fun _=>False) w) (h2:B.rel st vb (fun _=>False) w):(ltwo A B).rel st (va,vb) (fun _=>False) w :=
 ⟨_,_,h1,h2,fun _ h=>h.elim,by funext k;simp⟩
def rowL {σ:Type} {bx:Nat} (A:LPart σ (bx+1)) (T0:TypeId) (row:σ→A.V→Array Value):Taker σ where
 rel st P w:=∃ v P1,w.heap[bx]? = some (.cells (row st v) T0 (0,0))∧A.rel st v P1 w∧P=fun k=>k=bx∨P1 k
 lt:=by
  rintro st P w ⟨v,P1,h1,h2,rfl⟩ k (rfl|hk)
  ·exact row_lt h1
  ·exact (A.lt h2 k hk).2
 kept:=by
  rintro st P w w' ⟨v,P1,h1,h2,rfl⟩ hu
  exact ⟨v,P1,(hu.block bx (row_lt h1) (fun h=>h (.inl rfl))).trans h1,A.kept h2 (hu.mono fun k _ h h'=>h (.inr h')),rfl⟩
section
variable {σ:Type} {bx:Nat} {A:LPart σ (bx+1)} {T0:TypeId} {row:σ→A.V→Array Value} {st st':σ} {v:A.V} {P1:Nat→Prop} {w:World}
theorem rowL_upd {w':World} {c:Array Value} (h2:A.rel st v P1 w) (hu:Upd (fun k=>k=bx) w w') (h1:w'.heap[bx]? = some (.cells c T0 (0,0))) (hr:c=row st' v) (hl:A.same st st') :
  (rowL A T0 row).rel st' (fun k=>k=bx∨P1 k) w'∧Upd (fun k=>k=bx) w w' :=
 ⟨⟨v,P1,hr ▸ h1,A.conv hl (A.kept h2 (hu.mono fun k _ h h'=>by have h:k=bx:=h;have:=(A.lt h2 k h').1;omega)),rfl⟩,hu⟩
theorem rowL_set (o:Nat) (u:Value) (h1:w.heap[bx]? = some (.cells (row st v) T0 (0,0))) (h2:A.rel st v P1 w) (hr:(row st v).setIfInBounds o u=row st' v) (hl:A.same st st') :
  (rowL A T0 row).rel st' (fun k=>k=bx∨P1 k) (w.setCell ⟨bx,o,none⟩ u)∧Upd (fun k=>k=bx) w (w.setCell ⟨bx,o,none⟩ u) :=
 rowL_upd h2 (Upd.set w ⟨bx,o,none⟩ u) (row_set h1 o u) hr hl
theorem rowL_set2 (o o2:Nat) (u u2:Value) (h1:w.heap[bx]? = some (.cells (row st v) T0 (0,0))) (h2:A.rel st v P1 w) (hr:((row st v).setIfInBounds o u).setIfInBounds o2 u2=row st' v) (hl:A.same st st') :
  (rowL A T0 row).rel st' (fun k=>k=bx∨P1 k) ((w.setCell ⟨bx,o,none⟩ u).setCell ⟨bx,o2,none⟩ u2)∧Upd (fun k=>k=bx) w ((w.setCell ⟨bx,o,none⟩ u).setCell ⟨bx,o2,none⟩ u2) :=
 rowL_upd h2 ((Upd.set w ⟨bx,o,none⟩ u).trans (Upd.set _ ⟨bx,o2,none⟩ u2)) (row_set (row_set h1 o u) o2 u2) hr hl
theorem rowL_add {α:Type} {C:Cel α} {T:TypeId} {ls:σ→List α} {sm:σ→σ→Prop} {put:A.V→Value→A.V} {o:Nat} {x:α} {Pi:Nat→Prop} {e:Ending} {w':World} (h2:A.rel st v P1 w)
  (hput:∀ (S:Nat→Prop) st' v' P' w',sm st st'→Upd (fun k=>S k∨Pi k) w w'→(∀ k,S k→¬P1 k)→LsAt C T (bx+1) v' (ls st') P' w'→(∀ k,P' k→Pi k∨w.heap.size≤k)→∃ P'',A.rel st' (put v v') P'' w'∧∀ k,P'' k→P1 k∨w.heap.size≤k)
  (h:AddPost C T T0 bx o (bx+1) (row st v) (ls st) Pi (.ok x) w e w') (hr:∀ v',(row st v).setIfInBounds o v'=row st' (put v v')) (hsm:sm st st') (hl:ls st'=ls st++[x]) (hsub:∀ k,Pi k→P1 k) :
  e = .returned .nilIface∧Upd (fun k=>k=bx∨P1 k) w w'∧∃ P',(rowL A T0 row).rel st' P' w'∧∀ k,P' k→(k=bx∨P1 k)∨w.heap.size≤k:=by
 obtain ⟨hu,he,v',P',h1,h3,h4⟩:=h
 obtain ⟨P'',q1,q2⟩:=hput (fun k=>k=bx) st' v' P' w' hsm hu (fun k hk h=>by have hk:k=bx:=hk;have:=(A.lt h2 k h).1;omega) (hl ▸ h3) h4
 refine ⟨he,hu.mono (fun k _ h=>h.imp id (hsub k)),_,⟨put v v',P'',hr v' ▸ h1,q1,rfl⟩,?_⟩
 rintro k (rfl|hk)
 ·exact .inl (.inl rfl)
 ·exact (q2 k hk).imp .inr id
end
def louts {α:Type} (S:Sub α) (num:Nat) (l:List α):List UInt8:=(l.map fun x=>rB num (S.out x)).flatMap Rec.raw
def lmays {α:Type} (S:Sub α) (l:List α) (d:Int):Bool:=l.all fun x=>decide (1≤d)&&S.may (d - 1) x
def lwt {α:Type} (S:Sub α) (l:List α):Nat:=lsum (l.map S.wt)
section
variable {α:Type} {S:Sub α}
theorem louts_app (num:Nat) (a b:List α):louts S num (a++b)=louts S num a++louts S num b:=by unfold louts;rw[List.map_append,List.flatMap_append]
theorem louts_one (num:Nat) (x:α):louts S num [x]=(rB num (S.out x)).raw:=by unfold louts;simp
theorem lmays_app (a b:List α) (d:Int):lmays S (a++b) d=(lmays S a d&&lmays S b d):=by unfold lmays;rw[List.all_append]
theorem lmays_one (x:α) (d:Int):lmays S [x] d=(decide (1≤d)&&S.may (d - 1) x):=by unfold lmays;simp
theorem lwt_cons (x:α) (l:List α):lwt S (x::l)=S.wt x+lwt S l:=rfl
theorem lwt_app (a b:List α):lwt S (a++b)=lwt S a+lwt S b:=by
 induction a with
 | nil=>simp[lwt,lsum]
 | cons x a ih=>rw[List.cons_append,lwt_cons,lwt_cons,ih];omega
theorem lwt_one (x:α):lwt S [x]=S.wt x:=by rw[lwt_cons];simp[lwt,lsum]
theorem lwt_mem {l:List α} {x:α} (h:x∈l):S.wt x≤lwt S l:=lsum_mem (List.mem_map_of_mem (f:=S.wt) h)
theorem lwt_at {l:List α} {j:Nat} (hj:j<l.length):lwt S (l.take j)+S.wt l[j]≤lwt S l:=by
 have h:=congrArg (lwt S) (List.take_append_drop (j+1) l)
 rw[lwt_app,List.take_succ_eq_append_getElem hj,lwt_app,lwt_one] at h
 omega
theorem lwt_len {k:Nat} (h:∀ x,k≤S.wt x):∀ l:List α,l.length * k≤lwt S l
 | []=>by simp
 | x::l=>by rw[lwt_cons,List.length_cons,Nat.add_mul];have:=lwt_len h l;have:=h x;omega
theorem vput_one {n:Nat} (h:n<128):(vput n).length=1:=by
 rw[show vput n=vputF (8+1) n from rfl,vputF,if_pos h];rfl
theorem louts_le {num:Nat} (hn:1≤num∧num≤15) (h:∀ x,(S.out x).length+11≤S.wt x):∀ l:List α,(louts S num l).length≤lwt S l
 | []=>by simp[louts]
 | x::l=>by
  have e:louts S num (x::l)=(rB num (S.out x)).raw++louts S num l:=by rw[show x::l=[x]++l from rfl,louts_app,louts_one]
  rw[e,List.length_append,lwt_cons]
  have:=louts_le hn h l
  have:=h x
  have h1:(vput (8 * num+2)).length=1:=vput_one (by omega)
  have h2:(rB num (S.out x)).raw.length=(vput (8 * num+2)).length+((vput (S.out x).length).length+(S.out x).length):=by
   show (vput (8 * num+2)++(vput (S.out x).length++S.out x)).length=_
   rw[List.length_append,List.length_append]
  have:=vput_le10 (S.out x).length
  omega
theorem lst_ok {num:Nat} {d:Int} {l:List α} {r:Rec} {x:α} (e:S.rd (d - 1) r.s = .ok x):(listF num S).step d l r = .ok (l++[x]):=by
 show listStep S d l r=_
 unfold listStep
 rw[e];rfl
theorem lst_no {num:Nat} {d:Int} {l:List α} {r:Rec} {c:Nat} (e:S.rd (d - 1) r.s = .error c):(listF num S).step d l r = .error c:=by
 show listStep S d l r=_
 unfold listStep
 rw[e];rfl
end
open Go.RowKit
theorem rF_len9 {num:Nat} (hn:num≤15) (n:Nat):(rF num n).raw.length≤9:=by
 show (vput (8 * num+1)++eight 8 n).length≤9
 rw[List.length_append,vput_one (by omega)];have:=eight_len 8 n;omega
theorem num_seg9 {num:Nat} (hn:num≤15) (n:Nat):(if n=0 then [] else (rF num n).raw).length≤9:=by
 split
 ·simp
 ·exact rF_len9 hn n
theorem kind_seg9 {num:Nat} (hn:num≤15) (n:Nat) (c k:Int):(if k=c then (rF num n).raw else []).length≤9:=by
 split
 ·exact rF_len9 hn n
 ·simp
theorem bytes_seg11 {num:Nat} (hn:num≤15) (a:List UInt8):(if a=[] then [] else (rB num a).raw).length≤11+a.length:=by
 split
 ·simp
 ·show (vput (8 * num+2)++(vput a.length++a)).length≤_
  rw[List.length_append,List.length_append,vput_one (by omega)];have:=vput_le10 a.length;omega
def exSb:Sub Ex where
 rd d t:=exrd t d
 out:=ex_out
 may d x:=ex_may d x
 fit x:=exF.fit x.1
 wt:=ex_wt
theorem ex_mayx (x:Ex) (d:Int):ex_may d x=(decide (0≤d)&&(exF.may d x.1&&munkOk exF.tk x.2 d)):=by
 obtain ⟨⟨t,⟨⟨⟨k,n⟩,⟨a,b⟩⟩,l⟩⟩,u⟩:=x
 exact ex_mayF d
theorem ex_outx (x:Ex):(exF.out x.1).flatMap Rec.raw++x.2=ex_out x:=by
 obtain ⟨⟨t,⟨⟨⟨k,n⟩,⟨a,b⟩⟩,l⟩⟩,u⟩:=x
 exact ex_outF
theorem ex_wtx (x:Ex):ex_wt x=60+(exF.wt x.1+x.2.length):=by
 obtain ⟨⟨t,⟨⟨⟨k,n⟩,⟨a,b⟩⟩,l⟩⟩,u⟩:=x
 show 60+(a.length+b.length+ksw l+u.length)=60+((0+((0+(a.length+b.length))+(listF 7 kvS).wt l))+u.length)
 rw[kvs_wt];omega
theorem ex_wlen (x:Ex):(ex_out x).length+11≤ex_wt x:=by
 obtain ⟨⟨t,⟨⟨⟨k,n⟩,⟨a,b⟩⟩,l⟩⟩,u⟩:=x
 have g0:=num_seg9 (num:=2) (by omega) t
 have g1:=kind_seg9 (num:=3) (by omega) n 1 k
 have g2:=kind_seg9 (num:=6) (by omega) n 2 k
 have g3:=bytes_seg11 (num:=4) (by omega) a
 have g4:=bytes_seg11 (num:=5) (by omega) b
 have g5:=kouts_le 7 (by omega) l
 show ((if t=0 then [] else (rF 2 t).raw)++(if k=1 then (rF 3 n).raw else [])++(if a=[] then [] else (rB 4 a).raw)++(if b=[] then [] else (rB 5 b).raw)++(if k=2 then (rF 6 n).raw else [])++kouts 7 l++u).length+11≤60+(a.length+b.length+ksw l+u.length)
 simp only[List.length_append]
 omega
theorem exSb_ok:exSb.Ok where
 len:=fun x=>by have:=ex_wlen x;show (ex_out x).length≤ex_wt x+1000;omega
 back:=fun (x:Ex) d hf hw hd hm=>by
  have hm:ex_may d x=true:=hm
  have hw:ex_wt x≤1000000:=hw
  rw[ex_mayx] at hm
  simp only[Bool.and_eq_true,decide_eq_true_eq] at hm
  rw[ex_wtx] at hw
  have h:=fld_back exF_ok (s:=x.1) (u:=x.2) hf (by omega) hd hm.2.1 hm.2.2
  rw[ex_outx] at h
  exact h
 less:=fun (x:Ex) d d' hf hw hd hm hle hn=>by
  have hm:ex_may d x=true:=hm
  have hw:ex_wt x≤1000000:=hw
  rw[ex_mayx] at hm
  simp only[Bool.and_eq_true,decide_eq_true_eq] at hm
  rw[ex_wtx] at hw
  obtain ⟨c,h⟩:=fld_less exF_ok (s:=x.1) (u:=x.2) (d:=d) (d':=d') hf (by omega) hm.2.1 hm.2.2 hle (by
   rcases hn with h0|h0
   ·exact .inl h0
   ·have h0:ex_may d' x=false:=h0
    by_cases h1:d' < 0
    ·exact .inl h1
    ·rw[ex_mayx,decide_eq_true (by omega:0≤d'),Bool.true_and,Bool.and_eq_false_iff] at h0
     exact .inr h0)
  rw[ex_outx] at h
  exact ⟨c,h⟩
 twice:=fun t (x:Ex) d ht h=>by
  obtain ⟨h0,h1,h2,h3,h4⟩:=fld_twice exF_ok (s:=x.1) (u:=x.2) ht h
  have h4:exF.wt x.1+x.2.length≤(0+((0+(0+0))+0))+51 * t.length:=h4
  refine ⟨h0,?_,h3,?_⟩
  ·show ex_may d x=true
   rw[ex_mayx,h1,h2,decide_eq_true h0];rfl
  ·show ex_wt x≤_
   rw[ex_wtx];omega
theorem ex_may_neg (x:Ex) (d:Int):ex_may d x=(decide (0≤d)&&ex_may d x):=by
 rw[ex_mayx]
 cases decide (0≤d)<;>rfl
theorem ex_arg_ofx {x:Ex} (h:ex_fit x):ex_arg x:=by
 obtain ⟨⟨t,⟨⟨⟨k,n⟩,⟨a,b⟩⟩,l⟩⟩,u⟩:=x
 exact ex_arg_of h
theorem exs_wt_le {l:List Ex} {x:Ex} {n:Nat} (hx:x∈l) (hw:lwt exSb l≤n):ex_wt x≤n:=Nat.le_trans (lwt_mem (S:=exSb) hx) hw
theorem exs_len:∀ l:List Ex,l.length * 60≤lwt exSb l:=lwt_len (S:=exSb) (k:=60) fun x=>by
 obtain ⟨⟨t,⟨⟨⟨k,n⟩,⟨a,b⟩⟩,l⟩⟩,u⟩:=x
 show 60≤60+_
 omega
theorem exs_olen {num:Nat} (hn:1≤num∧num≤15) (l:List Ex):(louts exSb num l).length≤lwt exSb l:=louts_le hn ex_wlen l
theorem ExRel.form {w:World} {P:Nat→Prop}:∀ {x:Ex} {c:List Value},ExRel w P x c→∃ (lo:Option Addr) (llo lc:Nat) (jt:Int) (jk:Int) (jn:Int) (Xa:ByteArray) (Xb:ByteArray) (Xu:ByteArray),c=[.slice lo llo lc,.int .u64 jt,.int .i64 jk,.int .u64 jn,.string Xa,.string Xb,.string Xu]
 | ((t,(((k,n),(a,b)),l)),u),c,h=>by
  obtain ⟨lo,lc,rfl,_⟩:=h
  exact ⟨_,_,_,_,_,_,_,_,_,rfl⟩
theorem rowx7 {w:World} {g:Nat} {c0 c1 c2 c3 c4 c5 c6:Value} {T:TypeId} {fr:Nat × Nat} (h:w.heap[g]? = some (.cells #[c0,c1,c2,c3,c4,c5,c6] T fr)):w.cell? ⟨g,0,none⟩=some c0∧w.cell? ⟨g,1,none⟩=some c1∧w.cell? ⟨g,2,none⟩=some c2∧w.cell? ⟨g,3,none⟩=some c3∧w.cell? ⟨g,4,none⟩=some c4∧w.cell? ⟨g,5,none⟩=some c5∧w.cell? ⟨g,6,none⟩=some c6:=⟨row_cell h (j:=0) rfl,row_cell h (j:=1) rfl,row_cell h (j:=2) rfl,row_cell h (j:=3) rfl,row_cell h (j:=4) rfl,row_cell h (j:=5) rfl,row_cell h (j:=6) rfl⟩
theorem cells7 {w:World} {g o j:Nat} {c0 c1 c2 c3 c4 c5 c6:Value} (h:Cells w g (o+7 * j) [c0,c1,c2,c3,c4,c5,c6]):w.cell? ⟨g,o+j * 7,none⟩=some c0∧w.cell? ⟨g,o+j * 7+1,none⟩=some c1∧w.cell? ⟨g,o+j * 7+2,none⟩=some c2∧w.cell? ⟨g,o+j * 7+3,none⟩=some c3∧w.cell? ⟨g,o+j * 7+4,none⟩=some c4∧w.cell? ⟨g,o+j * 7+5,none⟩=some c5∧w.cell? ⟨g,o+j * 7+6,none⟩=some c6:=by
 refine ⟨?_,?_,?_,?_,?_,?_,?_⟩
 ·have:=h 0 (by simp);rw[show o+j * 7=o+7 * j+0 by omega,this];rfl
 ·have:=h 1 (by simp);rw[show o+j * 7+1=o+7 * j+1 by omega,this];rfl
 ·have:=h 2 (by simp);rw[show o+j * 7+2=o+7 * j+2 by omega,this];rfl
 ·have:=h 3 (by simp);rw[show o+j * 7+3=o+7 * j+3 by omega,this];rfl
 ·have:=h 4 (by simp);rw[show o+j * 7+4=o+7 * j+4 by omega,this];rfl
 ·have:=h 5 (by simp);rw[show o+j * 7+5=o+7 * j+5 by omega,this];rfl
 ·have:=h 6 (by simp);rw[show o+j * 7+6=o+7 * j+6 by omega,this];rfl
end Go.Proofs.YtjbingoliffjiaaGreatDoor
