/-
  Records of the wire: what is read, over lists of bytes.
-/
import Derived.Test.YtficgfemmijaaaaGreatDoorUpd
namespace Go.Proofs.YtficgfemmijaaaaGreatDoor
structure Rec where
 num:Nat
 ty:Nat
 n:Nat
 s:List UInt8
 raw:List UInt8
def wv (l:List UInt8):Except Nat (Nat × Nat):=vgetGo 10 0 0 l
def wlit:List UInt8→Nat
 | []=>0
 | b::r=>b.toNat+256 * wlit r
def whd (l:List UInt8):Except Nat (Nat × Nat × Nat):=match wv l with
 | .error c => .error c
 | .ok (t,j)=>if t / 8<1∨536870911<t / 8∨5<t % 8 then .error 3 else .ok (t / 8,t % 8,j)
def wbd (l:List UInt8)(ty:Nat):Except Nat (Nat × List UInt8 × Nat) :=
 if ty=1 then if l.length<8 then .error 1 else .ok (wlit (l.take 8),[],8)
 else if ty=5 then if l.length<4 then .error 1 else .ok (wlit (l.take 4),[],4)
 else match wv l with
  | .error c => .error c
  | .ok (n,j)=>if ty=0 then .ok (n,[],j) else if l.length - j<n then .error 1 else .ok (0,(l.drop j).take n,j+n)
def wadd (j:Nat):Except Nat Nat→Except Nat Nat
 | .error c => .error c
 | .ok k => .ok (j+k)
def wgr:Nat→List UInt8→List Nat→Int→Except Nat Nat
 | 0,_,_,_ => .error 1
 | f+1,l,st,d=>if st=[] then .ok 0 else if d<(st.length:Int) then .error 6 else
  match whd l with
  | .error c => .error c
  | .ok (num,ty,j) =>
   if ty=3 then wadd j (wgr f (l.drop j) (num::st) d)
   else if ty=4 then if st.head? = some num then wadd j (wgr f (l.drop j) st.tail d) else .error 3
   else match wbd (l.drop j) ty with
    | .error c => .error c
    | .ok (_,_,k)=>wadd (j+k) (wgr f (l.drop (j+k)) st d)
def wgroup (l:List UInt8)(st:List Nat)(d:Int):Except Nat Nat:=wgr (l.length+1) l st d
def wnx (l:List UInt8)(d:Int):Except Nat (Rec × Nat):=match whd l with
 | .error c => .error c
 | .ok (num,ty,j) =>
  if ty=4 then .error 3
  else if ty=3 then match wgroup (l.drop j) [num] d with
   | .error c => .error c
   | .ok k => .ok (⟨num,3,0,[],l.take (j+k)⟩,j+k)
  else match wbd (l.drop j) ty with
   | .error c => .error c
   | .ok (n,s,k) => .ok (⟨num,ty,n,s,l.take (j+k)⟩,j+k)
def wal:Nat→List UInt8→Int→Except Nat (List Rec)
 | 0,_,_ => .ok []
 | f+1,l,d=>if l=[] then .ok [] else match wnx l d with
  | .error c => .error c
  | .ok (r,j)=>match wal f (l.drop j) d with
   | .error c => .error c
   | .ok rs => .ok (r::rs)
def wall (l:List UInt8)(d:Int):Except Nat (List Rec):=wal l.length l d
theorem vgetGo_bounds:∀ (f k m:Nat) (l:List UInt8) {n j:Nat},f+k=10→m<128 ^ k→vgetGo f k m l = .ok (n,j)→k<j∧j≤k+l.length∧j≤10∧n<2 ^ 64
 | 0,k,m,l,n,j,_,_,h=>by simp[vgetGo] at h
 | f+1,k,m,[],n,j,_,_,h=>by simp[vgetGo] at h
 | f + 1,k,m,c::r,n,j,hf,hm,h=>by
  simp only[vgetGo] at h
  split at h
  ·simp at h
  ·rename_i h1
   split at h
   ·rename_i h2
    simp only[Except.ok.injEq,Prod.mk.injEq] at h
    obtain ⟨rfl,rfl⟩:=h;refine ⟨by omega,by simp,by omega,?_⟩;have hc:c.toNat<(if f=0 then 2 else 128):=by split<;>omega
    by_cases hf0:f=0
    ·subst hf0
     obtain rfl:k=9:=by omega
     rw[if_pos rfl] at hc;have:c.toNat * 128 ^ 9≤1 * 128 ^ 9:=Nat.mul_le_mul_right _ (by omega);omega
    ·have hk:k≤8:=by omega
     have h3:128 ^ k≤128 ^ 8:=Nat.pow_le_pow_right (by omega) hk;have:c.toNat * 128 ^ k≤127 * 128 ^ k:=Nat.mul_le_mul_right _ (by omega);omega
   ·rename_i h2
    have hc:=c.toNat_lt;have h4:(c.toNat - 128) * 128 ^ k≤127 * 128 ^ k:=Nat.mul_le_mul_right _ (by omega);have:=vgetGo_bounds f (k+1) _ r (by omega) (by rw[Nat.pow_succ];omega) h
    simp
    omega
theorem wv_bounds {l:List UInt8}{n j:Nat}(h:wv l = .ok (n,j)):1≤j∧j≤l.length∧j≤10∧n<2 ^ 64:=by
 have:=vgetGo_bounds 10 0 0 l rfl (by decide) h;omega
theorem vgetGo_append:∀ (f k m:Nat) (l t:List UInt8) {n j:Nat},vgetGo f k m l = .ok (n,j)→vgetGo f k m (l++t) = .ok (n,j)
 | 0,k,m,l,t,n,j,h=>by simp[vgetGo] at h
 | f+1,k,m,[],t,n,j,h=>by simp[vgetGo] at h
 | f+1,k,m,c::r,t,n,j,h=>by
  simp only[vgetGo,List.cons_append] at h ⊢
  split at h
  ·simp at h
  ·rename_i h1
   rw[if_neg h1]
   split at h
   ·rename_i h2
    rw[if_pos h2];exact h
   ·rename_i h2
    rw[if_neg h2];exact vgetGo_append f _ _ r t h
theorem wv_append {l:List UInt8}{n j:Nat}(t:List UInt8)(h:wv l = .ok (n,j)):wv (l++t) = .ok (n,j):=vgetGo_append _ _ _ _ t h
theorem vget_wv {l:List UInt8}{p:Nat}(hp:p≤l.length):vget l p=match wv (l.drop p) with
  | .ok (n,j) => .ok (n,p+j)
  | .error c => .error c:=vget_in hp
theorem vget_ok {l:List UInt8}{p n j:Nat}(hp:p≤l.length)(h:wv (l.drop p) = .ok (n,j)):vget l p = .ok (n,p+j):=by rw[vget_wv hp,h]
theorem vget_no {l:List UInt8}{p c:Nat}(hp:p≤l.length)(h:wv (l.drop p) = .error c):vget l p = .error c:=by rw[vget_wv hp,h]
theorem wv_err {l:List UInt8}{c:Nat}(h:wv l = .error c):c=1∨c=4:=by
 have aux:∀ f k m (l:List UInt8),vgetGo f k m l = .error c→c=1∨c=4:=by
  intro f
  induction f with
  | zero=>intro k m l h;simp[vgetGo] at h;omega
  | succ f ih =>
   intro k m l h
   cases l with
   | nil=>simp[vgetGo] at h;omega
   | cons b r =>
    simp only[vgetGo] at h
    split at h
    ·simp at h;omega
    ·split at h
     ·simp at h
     ·exact ih _ _ _ h
 exact aux _ _ _ _ h
theorem whd_ok {l:List UInt8}{t j:Nat}(h:wv l = .ok (t,j))(h1:1≤t / 8)(h2:t / 8≤536870911)(h3:t % 8≤5):whd l = .ok (t / 8,t % 8,j):=by
 unfold whd;rw[h];dsimp only;rw[if_neg (by omega)]
theorem whd_form {l:List UInt8}{t j:Nat}(h:wv l = .ok (t,j))(h1:t / 8<1∨536870911<t / 8∨5<t % 8):whd l = .error 3:=by
 unfold whd;rw[h];dsimp only;rw[if_pos h1]
theorem whd_no {l:List UInt8}{c:Nat}(h:wv l = .error c):whd l = .error c:=by unfold whd;rw[h]
theorem whd_bounds {l:List UInt8}{num ty j:Nat}(h:whd l = .ok (num,ty,j)):1≤j∧j≤l.length∧1≤num∧num≤536870911∧ty≤5∧wv l = .ok (8 * num+ty,j):=by
 unfold whd at h
 cases hv:wv l with
 | error c=>rw[hv] at h;cases h
 | ok x =>
  obtain ⟨t,i⟩:=x;rw[hv] at h;dsimp only at h
  split at h
  ·cases h
  ·rename_i h1
   simp only[Except.ok.injEq,Prod.mk.injEq] at h
   obtain ⟨rfl,rfl,rfl⟩:=h;have:=wv_bounds hv;have e:8 * (t / 8)+t % 8=t:=by omega
   rw[e];exact ⟨by omega,by omega,by omega,by omega,by omega,rfl⟩
theorem whd_append {l:List UInt8}{x:Nat × Nat × Nat}(t:List UInt8)(h:whd l = .ok x):whd (l++t) = .ok x:=by
 obtain ⟨num,ty,j⟩:=x;obtain ⟨_,_,h1,h2,h3,h4⟩:=whd_bounds h;have e1:(8 * num+ty) / 8=num:=by omega
 have e2:(8 * num+ty) % 8=ty:=by omega
 have:=whd_ok (wv_append t h4) (by omega) (by omega) (by omega);rw[this,e1,e2]
theorem wbd_bounds {l:List UInt8}{ty n k:Nat}{s:List UInt8}(h:wbd l ty = .ok (n,s,k)):1≤k∧k≤l.length∧s.length≤k:=by
 unfold wbd at h
 split at h
 ·split at h
  ·cases h
  ·simp only[Except.ok.injEq,Prod.mk.injEq] at h
   obtain ⟨rfl,rfl,rfl⟩:=h
   simp;omega
 ·split at h
  ·split at h
   ·cases h
   ·simp only[Except.ok.injEq,Prod.mk.injEq] at h
    obtain ⟨rfl,rfl,rfl⟩:=h
    simp;omega
  ·cases hv:wv l with
   | error c=>rw[hv] at h;cases h
   | ok x =>
    obtain ⟨m,j⟩:=x;rw[hv] at h;have:=wv_bounds hv;dsimp only at h
    split at h
    ·simp only[Except.ok.injEq,Prod.mk.injEq] at h
     obtain ⟨rfl,rfl,rfl⟩:=h
     simp;omega
    ·split at h
     ·cases h
     ·simp only[Except.ok.injEq,Prod.mk.injEq] at h
      obtain ⟨rfl,rfl,rfl⟩:=h
      simp;omega
theorem wbd_append {l:List UInt8}{ty:Nat}{x:Nat × List UInt8 × Nat}(t:List UInt8)(h:wbd l ty = .ok x):wbd (l++t) ty = .ok x:=by
 unfold wbd at h ⊢
 split at h
 ·rename_i h1
  rw[if_pos h1]
  split at h
  ·cases h
  ·rw[if_neg (by simp;omega),List.take_append_of_le_length (by omega)]
   exact h
 ·rename_i h1
  rw[if_neg h1]
  split at h
  ·rename_i h2
   rw[if_pos h2]
   split at h
   ·cases h
   ·rw[if_neg (by simp;omega),List.take_append_of_le_length (by omega)]
    exact h
  ·rename_i h2
   rw[if_neg h2]
   cases hv:wv l with
   | error c=>rw[hv] at h;cases h
   | ok x =>
    obtain ⟨m,j⟩:=x;rw[hv] at h;rw[wv_append t hv];have:=wv_bounds hv;dsimp only at h ⊢
    split at h
    ·rename_i h3
     rw[if_pos h3];exact h
    ·rename_i h3
     rw[if_neg h3]
     split at h
     ·cases h
     ·rw[if_neg (by simp;omega),List.drop_append_of_le_length (by omega),List.take_append_of_le_length (by simp;omega)]
      exact h
theorem wgr_fuel:∀ (f g:Nat) (l:List UInt8) (st:List Nat) (d:Int),l.length<f→l.length<g→wgr f l st d=wgr g l st d
 | 0,_,_,_,_,h,_=>by omega
 | _+1,0,_,_,_,_,h=>by omega
 | f + 1,g+1,l,st,d,hf,hg=>by
  rw[wgr,wgr]
  split
  ·rfl
  ·split
   ·rfl
   ·cases hh:whd l with
    | error c=>rfl
    | ok x =>
     obtain ⟨num,ty,j⟩:=x;have hb:=whd_bounds hh;dsimp only
     split
     ·rw[wgr_fuel f g _ _ _ (by simp;omega) (by simp;omega)]
     ·split
      ·split
       ·rw[wgr_fuel f g _ _ _ (by simp;omega) (by simp;omega)]
       ·rfl
      ·cases wbd (l.drop j) ty with
       | error c=>rfl
       | ok y =>
        obtain ⟨n,s,k⟩:=y;dsimp only;rw[wgr_fuel f g _ _ _ (by simp;omega) (by simp;omega)]
theorem wgroup_eq {f:Nat}{l:List UInt8}{st:List Nat}{d:Int}(h:l.length<f):wgr f l st d=wgroup l st d:=wgr_fuel _ _ _ _ _ h (by omega)
theorem wadd_add (i j:Nat)(x:Except Nat Nat):wadd i (wadd j x)=wadd (i+j) x:=by
 cases x with
 | error c=>rfl
 | ok k=>simp[wadd,Nat.add_assoc]
theorem wadd_zero (x:Except Nat Nat):wadd 0 x=x:=by
 cases x with
 | error c=>rfl
 | ok k=>simp[wadd]
theorem wadd_ok {j k:Nat}{x:Except Nat Nat}(h:wadd j x = .ok k):∃ i,x = .ok i∧k=j+i:=by
 cases x with
 | error c=>cases h
 | ok i=>simp only[wadd,Except.ok.injEq] at h;exact ⟨i,rfl,h.symm⟩
theorem wgroup_nil (l:List UInt8)(d:Int):wgroup l [] d = .ok 0:=by unfold wgroup;rw[wgr,if_pos rfl]
theorem wgroup_deep {l:List UInt8}{st:List Nat}{d:Int}(h0:st≠[])(h:d<(st.length:Int)):wgroup l st d = .error 6:=by unfold wgroup;rw[wgr,if_neg h0,if_pos h]
theorem wgroup_no {l:List UInt8}{st:List Nat}{d:Int}{c:Nat}(h0:st≠[])(h:(st.length:Int)≤d)(hh:whd l = .error c):wgroup l st d = .error c:=by
 unfold wgroup;rw[wgr,if_neg h0,if_neg (by omega),hh]
theorem wgroup_begin {l:List UInt8}{st:List Nat}{d:Int}{num j:Nat}(h0:st≠[])(h:(st.length:Int)≤d)(hh:whd l = .ok (num,3,j)):wgroup l st d=wadd j (wgroup (l.drop j) (num::st) d):=by
 have hb:=whd_bounds hh
 conv=>lhs;unfold wgroup
 rw[wgr,if_neg h0,if_neg (by omega),hh];dsimp only;rw[if_pos rfl,wgroup_eq (by simp;omega)]
theorem wgroup_end {l:List UInt8}{st:List Nat}{d:Int}{num j:Nat}(h:((num::st).length:Int)≤d)(hh:whd l = .ok (num,4,j)):wgroup l (num::st) d=wadd j (wgroup (l.drop j) st d):=by
 have hb:=whd_bounds hh
 conv=>lhs;unfold wgroup
 rw[wgr,if_neg (by simp),if_neg (by omega),hh];dsimp only;rw[if_neg (by omega),if_pos rfl,if_pos (by simp),wgroup_eq (by simp;omega)]
 rfl
theorem wgroup_other {l:List UInt8}{st:List Nat}{d:Int}{m num j:Nat}(h:((m::st).length:Int)≤d)(hh:whd l = .ok (num,4,j))(hn:num≠m):wgroup l (m::st) d = .error 3:=by
 unfold wgroup;rw[wgr,if_neg (by simp),if_neg (by omega),hh];dsimp only;rw[if_neg (by omega),if_pos rfl,if_neg (by simp;omega)]
theorem wgroup_body {l:List UInt8}{st:List Nat}{d:Int}{num ty j:Nat}(h0:st≠[])(h:(st.length:Int)≤d)(hh:whd l = .ok (num,ty,j))(h3:ty≠3)(h4:ty≠4):wgroup l st d=match wbd (l.drop j) ty with
  | .error c => .error c
  | .ok (_,_,k)=>wadd (j+k) (wgroup (l.drop (j+k)) st d):=by
 have hb:=whd_bounds hh
 conv=>lhs;unfold wgroup
 rw[wgr,if_neg h0,if_neg (by omega),hh];dsimp only;rw[if_neg h3,if_neg h4]
 cases wbd (l.drop j) ty with
 | error c=>rfl
 | ok y =>
  obtain ⟨n,s,k⟩:=y;dsimp only;rw[wgroup_eq (by simp;omega)]
theorem wgroup_bodyNo {l:List UInt8}{st:List Nat}{d:Int}{num ty j c:Nat}(h0:st≠[])(h:(st.length:Int)≤d)(hh:whd l = .ok (num,ty,j))(h3:ty≠3)(h4:ty≠4)(hb:wbd (l.drop j) ty = .error c):wgroup l st d = .error c:=by
 rw[wgroup_body h0 h hh h3 h4,hb]
theorem wgroup_bodyOk {l:List UInt8}{st:List Nat}{d:Int}{num ty j n k:Nat}{s:List UInt8}(h0:st≠[])(h:(st.length:Int)≤d)(hh:whd l = .ok (num,ty,j))(h3:ty≠3)(h4:ty≠4)(hb:wbd (l.drop j) ty = .ok (n,s,k)):wgroup l st d=wadd (j+k) (wgroup (l.drop (j+k)) st d):=by
 rw[wgroup_body h0 h hh h3 h4,hb]
theorem wgroup_bounds:∀ (f:Nat) {l:List UInt8} {st:List Nat} {d:Int} {k:Nat},l.length<f→wgr f l st d = .ok k→k≤l.length∧(st≠[]→1≤k)
 | 0,_,_,_,_,h,_=>by omega
 | f + 1,l,st,d,k,hf,h=>by
  rw[wgr] at h
  split at h
  ·rename_i h0
   simp only[Except.ok.injEq] at h
   subst h;exact ⟨by omega,fun h1=>absurd h0 h1⟩
  ·split at h
   ·cases h
   ·cases hh:whd l with
    | error c=>rw[hh] at h;cases h
    | ok x =>
     obtain ⟨num,ty,j⟩:=x;rw[hh] at h;have hb:=whd_bounds hh;dsimp only at h
     split at h
     ·obtain ⟨i,hi,rfl⟩:=wadd_ok h
      have:=(wgroup_bounds f (by simp;omega) hi).1
      simp at this
      exact ⟨by omega,fun _=>by omega⟩
     ·split at h
      ·split at h
       ·obtain ⟨i,hi,rfl⟩:=wadd_ok h
        have:=(wgroup_bounds f (by simp;omega) hi).1
        simp at this
        exact ⟨by omega,fun _=>by omega⟩
       ·cases h
      ·cases hbd:wbd (l.drop j) ty with
       | error c=>rw[hbd] at h;cases h
       | ok y =>
        obtain ⟨n,s,m⟩:=y;rw[hbd] at h;have hb2:=wbd_bounds hbd
        simp at hb2
        obtain ⟨i,hi,rfl⟩:=wadd_ok h;have:=(wgroup_bounds f (by simp;omega) hi).1
        simp at this
        exact ⟨by omega,fun _=>by omega⟩
theorem wgr_append:∀ (f:Nat) {l:List UInt8} {st:List Nat} {d:Int} {k:Nat} (t:List UInt8),l.length<f→wgr f l st d = .ok k→∀ g,(l++t).length<g→wgr g (l++t) st d = .ok k
 | 0,_,_,_,_,_,h,_=>by omega
 | f + 1,l,st,d,k,t,hf,h=>fun g hg=>by
  obtain ⟨g,rfl⟩:∃ g',g=g'+1:=⟨g - 1,by omega⟩
  rw[wgr] at h ⊢
  split at h
  ·rename_i h0
   rw[if_pos h0];exact h
  ·rename_i h0
   rw[if_neg h0]
   split at h
   ·cases h
   ·rename_i h1
    rw[if_neg h1]
    cases hh:whd l with
    | error c=>rw[hh] at h;cases h
    | ok x =>
     obtain ⟨num,ty,j⟩:=x;rw[hh] at h;rw[whd_append t hh];have hb:=whd_bounds hh;have hd:(l++t).drop j=l.drop j++t:=List.drop_append_of_le_length (by omega)
     simp at hg
     dsimp only at h ⊢
     split at h
     ·rename_i h3
      rw[if_pos h3,hd];obtain ⟨i,hi,rfl⟩:=wadd_ok h;rw[wgr_append f t (by simp;omega) hi g (by simp;omega)];rfl
     ·rename_i h3
      rw[if_neg h3]
      split at h
      ·rename_i h4
       rw[if_pos h4]
       split at h
       ·rename_i h5
        rw[if_pos h5,hd];obtain ⟨i,hi,rfl⟩:=wadd_ok h;rw[wgr_append f t (by simp;omega) hi g (by simp;omega)];rfl
       ·cases h
      ·rename_i h4
       rw[if_neg h4,hd]
       cases hbd:wbd (l.drop j) ty with
       | error c=>rw[hbd] at h;cases h
       | ok y =>
        obtain ⟨n,s,m⟩:=y;rw[hbd] at h;rw[wbd_append t hbd];have hb2:=wbd_bounds hbd
        simp at hb2
        have hd2:(l++t).drop (j+m)=l.drop (j+m)++t:=List.drop_append_of_le_length (by omega);dsimp only;rw[hd2];obtain ⟨i,hi,rfl⟩:=wadd_ok h;rw[wgr_append f t (by simp;omega) hi g (by simp;omega)];rfl
theorem wnx_bounds {l:List UInt8}{d:Int}{r:Rec}{q:Nat}(h:wnx l d = .ok (r,q)):2≤q∧q≤l.length∧r.raw=l.take q∧1≤r.num∧r.num≤536870911∧r.ty≤5:=by
 unfold wnx at h
 cases hh:whd l with
 | error c=>rw[hh] at h;cases h
 | ok x =>
  obtain ⟨num,ty,j⟩:=x;rw[hh] at h;have hb:=whd_bounds hh;dsimp only at h
  split at h
  ·cases h
  ·split at h
   ·cases hg:wgroup (l.drop j) [num] d with
    | error c=>rw[hg] at h;cases h
    | ok k =>
     rw[hg] at h
     simp only[Except.ok.injEq,Prod.mk.injEq] at h
     obtain ⟨rfl,rfl⟩:=h;have:=wgroup_bounds _ (Nat.lt_succ_self _) hg;have h1:=this.2 (by simp);have h2:=this.1
     simp at h2
     exact ⟨by omega,by omega,rfl,hb.2.2.1,hb.2.2.2.1,by show 3≤5;decide⟩
   ·cases hbd:wbd (l.drop j) ty with
    | error c=>rw[hbd] at h;cases h
    | ok y =>
     obtain ⟨n,s,m⟩:=y;rw[hbd] at h
     simp only[Except.ok.injEq,Prod.mk.injEq] at h
     obtain ⟨rfl,rfl⟩:=h;have hb2:=wbd_bounds hbd
     simp at hb2
     exact ⟨by omega,by omega,rfl,hb.2.2.1,hb.2.2.2.1,hb.2.2.2.2.1⟩
theorem wnx_append {l:List UInt8}{d:Int}{r:Rec}{q:Nat}(t:List UInt8)(h:wnx l d = .ok (r,q)):wnx (l++t) d = .ok (r,q):=by
 unfold wnx at h ⊢
 cases hh:whd l with
 | error c=>rw[hh] at h;cases h
 | ok x =>
  obtain ⟨num,ty,j⟩:=x;rw[hh] at h;rw[whd_append t hh];have hb:=whd_bounds hh;have hd:(l++t).drop j=l.drop j++t:=List.drop_append_of_le_length (by omega);dsimp only at h ⊢;rw[hd]
  split at h
  ·cases h
  ·rename_i h4
   rw[if_neg h4]
   split at h
   ·rename_i h3
    rw[if_pos h3]
    cases hg:wgroup (l.drop j) [num] d with
    | error c=>rw[hg] at h;cases h
    | ok k =>
     rw[hg] at h;have h2:=(wgroup_bounds _ (Nat.lt_succ_self _) hg).1
     simp at h2
     have e:wgroup (l.drop j++t) [num] d = .ok k:=wgr_append _ t (Nat.lt_succ_self _) hg _ (Nat.lt_succ_self _);rw[e];dsimp only at h ⊢;rw[List.take_append_of_le_length (by omega)];exact h
   ·rename_i h3
    rw[if_neg h3]
    cases hbd:wbd (l.drop j) ty with
    | error c=>rw[hbd] at h;cases h
    | ok y =>
     obtain ⟨n,s,m⟩:=y;rw[hbd] at h;rw[wbd_append t hbd];have hb2:=wbd_bounds hbd
     simp at hb2
     dsimp only at h ⊢;rw[List.take_append_of_le_length (by omega)];exact h
theorem wal_fuel:∀ (f g:Nat) (l:List UInt8) (d:Int),l.length≤f→l.length≤g→wal f l d=wal g l d
 | 0,0,_,_,_,_=>rfl
 | 0,g+1,l,d,hf,_=>by
  have:l=[]:=List.length_eq_zero_iff.1 (by omega);rw[wal,wal,if_pos this]
 | f+1,0,l,d,_,hg=>by
  have:l=[]:=List.length_eq_zero_iff.1 (by omega);rw[wal,wal,if_pos this]
 | f+1,g+1,l,d,hf,hg=>by
  rw[wal,wal]
  split
  ·rfl
  ·cases h:wnx l d with
   | error c=>rfl
   | ok x =>
    obtain ⟨r,j⟩:=x;have:=wnx_bounds h;dsimp only;rw[wal_fuel f g _ _ (by simp;omega) (by simp;omega)]
theorem wall_nil (d:Int):wall [] d = .ok []:=rfl
theorem wall_no {l:List UInt8}{d:Int}{c:Nat}(h0:l≠[])(h:wnx l d = .error c):wall l d = .error c:=by
 unfold wall
 cases hl:l.length with
 | zero=>exact absurd (List.length_eq_zero_iff.1 hl) h0
 | succ f=>rw[wal,if_neg h0,h]
theorem wall_cons {l:List UInt8}{d:Int}{r:Rec}{q:Nat}(h:wnx l d = .ok (r,q)):wall l d=match wall (l.drop q) d with
  | .error c => .error c
  | .ok rs => .ok (r::rs):=by
 have hb:=wnx_bounds h
 conv=>lhs;unfold wall
 cases hl:l.length with
 | zero=>omega
 | succ f =>
  rw[wal,if_neg (by intro e;subst e;simp at hl),h];dsimp only;have e:wal f (l.drop q) d=wall (l.drop q) d:=wal_fuel _ _ _ _ (by simp;omega) (by simp);rw[e]
theorem wall_inv {l:List UInt8}{d:Int}{rs:List Rec}(h:wall l d = .ok rs):(l=[]∧rs=[])∨∃ r q ks,wnx l d = .ok (r,q)∧wall (l.drop q) d = .ok ks∧rs=r::ks∧2≤q∧q≤l.length∧r.raw=l.take q:=by
 by_cases h0:l=[]
 ·subst h0
  rw[wall_nil] at h
  simp only[Except.ok.injEq] at h
  exact .inl ⟨rfl,h.symm⟩
 ·cases hn:wnx l d with
  | error c=>rw[wall_no h0 hn] at h;cases h
  | ok x =>
   obtain ⟨r,q⟩:=x;rw[wall_cons hn] at h;have hb:=wnx_bounds hn
   cases hk:wall (l.drop q) d with
   | error c=>rw[hk] at h;cases h
   | ok ks =>
    rw[hk] at h
    simp only[Except.ok.injEq] at h
    exact .inr ⟨r,q,ks,rfl,hk,h.symm,hb.1,hb.2.1,hb.2.2.1⟩
theorem wall_raws:∀ (n:Nat) {l:List UInt8} {d:Int} {rs:List Rec},l.length≤n→wall l d = .ok rs→rs.flatMap Rec.raw=l∧∀ r∈rs,2≤r.raw.length
 | n,l,d,rs,hn,h=>by
  rcases wall_inv h with ⟨rfl,rfl⟩|⟨r,q,ks,h1,h2,rfl,h3,h4,h5⟩
  ·simp
  ·match n,hn with
   | 0,hn=>omega
   | n+1,hn =>
    have ih:=wall_raws n (by simp;omega) h2;refine ⟨?_,fun x hx=>?_⟩
    ·rw[List.flatMap_cons,ih.1,h5,List.take_append_drop]
    ·rcases List.mem_cons.1 hx with rfl|hx
     ·rw[h5];simp;omega
     ·exact ih.2 x hx
theorem wall_append:∀ (n:Nat) {l:List UInt8} {d:Int} {rs:List Rec} (t:List UInt8),l.length≤n→wall l d = .ok rs→wall (l++t) d=match wall t d with
  | .error c => .error c
  | .ok ks => .ok (rs++ks)
 | n,l,d,rs,t,hn,h=>by
  rcases wall_inv h with ⟨rfl,rfl⟩|⟨r,q,ks,h1,h2,rfl,h3,h4,h5⟩
  ·rw[List.nil_append]
   cases wall t d<;>rfl
  ·match n,hn with
   | 0,hn=>omega
   | n+1,hn =>
    have ih:=wall_append n t (by simp;omega) h2;rw[wall_cons (wnx_append t h1),List.drop_append_of_le_length h4,ih]
    cases wall t d<;>rfl
theorem raws_le {rs:List Rec}{l:List UInt8}(h:rs.flatMap Rec.raw=l)(i:Nat):((rs.take i).flatMap Rec.raw).length≤l.length:=by
 have e:rs.flatMap Rec.raw=(rs.take i).flatMap Rec.raw++(rs.drop i).flatMap Rec.raw:=by rw[←List.flatMap_append,List.take_append_drop]
 rw[←h,e,List.length_append];omega
theorem raw_le {rs:List Rec}{l:List UInt8}(h:rs.flatMap Rec.raw=l){r:Rec}(hr:r∈rs):r.raw.length≤l.length:=by
 obtain ⟨a,b,rfl⟩:=List.append_of_mem hr;rw[←h]
 simp
 omega
def rnx (G:List UInt8→Nat→Int→Option Nat)(l:List UInt8)(d:Int):Option (Rec × Nat):=match whd l with
 | .error _=>none
 | .ok (num,ty,j) =>
  if ty=4 then none
  else if ty=3 then (G (l.drop j) num d).map fun k=>(⟨num,3,0,[],l.take (j+k)⟩,j+k)
  else match wbd (l.drop j) ty with
   | .error _=>none
   | .ok (n,s,k)=>some (⟨num,ty,n,s,l.take (j+k)⟩,j+k)
def rgr:Nat→List UInt8→Nat→Int→Option Nat
 | 0,_,_,_=>none
 | f+1,l,num,d=>if d<1 then none else match wv l with
  | .error _=>none
  | .ok (t,j) =>
   if t % 8=4 then (if t / 8=num then some j else none)
   else match rnx (rgr f) l (d - 1) with
    | none=>none
    | some (_,k)=>(rgr f (l.drop k) num d).map (k+·)
def opt {α:Type}:Except Nat α→Option α
 | .error _=>none
 | .ok x=>some x
theorem opt_wadd (j:Nat)(x:Except Nat Nat):opt (wadd j x)=(opt x).map (j+·):=by cases x<;>rfl
theorem wgr_rgr:∀ (f:Nat) (l:List UInt8) (st:List Nat) (d:Int) (num:Nat),l.length<f→1≤num→num≤536870911 →
  opt (wgroup l (num::st) d)=(rgr f l num (d - st.length)).bind fun k=>(opt (wgroup (l.drop k) st d)).map (k+·)
 | 0,_,_,_,_,h,_,_=>by omega
 | f + 1,l,st,d,num,hf,hn1,hn2=>by
  rw[rgr]
  by_cases hd:d - st.length<1
  ·rw[if_pos hd,wgroup_deep (by simp) (by simp;omega)];rfl
  ·rw [if_neg hd]
   have hd':((num::st).length:Int)≤d:=by simp;omega
   cases hv:wv l with
   | error c=>rw[wgroup_no (by simp) hd' (whd_no hv)];rfl
   | ok x =>
    obtain ⟨t,j⟩:=x;have hvb:=wv_bounds hv;dsimp only
    by_cases h4:t % 8=4
    ·rw[if_pos h4]
     by_cases hnum:t / 8=num
     ·have hh:=whd_ok hv (by omega) (by omega) (by omega)
      rw[hnum,h4] at hh;rw[if_pos hnum,wgroup_end hd' hh,opt_wadd];rfl
     ·rw[if_neg hnum]
      by_cases hr:t / 8<1∨536870911<t / 8
      ·rw[wgroup_no (by simp) hd' (whd_form hv (by omega))];rfl
      ·have hh:=whd_ok hv (by omega) (by omega) (by omega)
       rw[h4] at hh;rw[wgroup_other hd' hh hnum];rfl
    ·rw [if_neg h4]
     unfold rnx
     cases hh:whd l with
     | error c=>rw[wgroup_no (by simp) hd' hh];rfl
     | ok y =>
      obtain ⟨m,ty,i⟩:=y;have hb:=whd_bounds hh
      have hty:ty≠4:=by
       intro e;have:=hb.2.2.2.2.2;rw[hv] at this
       simp only[Except.ok.injEq,Prod.mk.injEq] at this
       omega
      dsimp only;rw[if_neg hty]
      by_cases h3:ty=3
      ·subst h3
       rw[if_pos rfl,wgroup_begin (by simp) hd' hh,opt_wadd,wgr_rgr f (l.drop i) (num::st) d m (by simp;omega) hb.2.2.1 hb.2.2.2.1];have e:d - ((num::st).length:Int)=d - st.length - 1:=by simp;omega
       rw[e]
       cases hg:rgr f (l.drop i) m (d - st.length - 1) with
       | none=>rfl
       | some k =>
        dsimp only[Option.bind,Option.map];rw[List.drop_drop];have:=wgr_rgr f (l.drop (i+k)) st d num (by simp;omega) hn1 hn2;rw[this]
        cases hg2:rgr f (l.drop (i+k)) num (d - st.length) with
        | none=>rfl
        | some k2 =>
         dsimp only[Option.bind,Option.map];rw[List.drop_drop]
         cases opt (wgroup (l.drop (i+k+k2)) st d) with
         | none=>rfl
         | some z=>simp[Nat.add_assoc]
      ·rw[if_neg h3]
       cases hbd:wbd (l.drop i) ty with
       | error c=>rw[wgroup_bodyNo (by simp) hd' hh h3 hty hbd];rfl
       | ok z =>
        obtain ⟨n,s,k⟩:=z;rw[wgroup_bodyOk (by simp) hd' hh h3 hty hbd,opt_wadd];dsimp only;rw[wgr_rgr f (l.drop (i+k)) st d num (by simp;omega) hn1 hn2]
        cases hg2:rgr f (l.drop (i+k)) num (d - st.length) with
        | none=>rfl
        | some k2 =>
         dsimp only[Option.bind,Option.map];rw[List.drop_drop]
         cases opt (wgroup (l.drop (i+k+k2)) st d) with
         | none=>rfl
         | some z=>simp[Nat.add_assoc]
theorem rgr_eq {f:Nat}{l:List UInt8}{num:Nat}{d:Int}(hf:l.length<f)(h1:1≤num)(h2:num≤536870911):rgr f l num d=opt (wgroup l [num] d):=by
 have:=wgr_rgr f l [] d num hf h1 h2
 simp only[List.length_nil,Int.natCast_zero,Int.sub_zero] at this
 rw[this]
 cases rgr f l num d with
 | none=>rfl
 | some k =>
  dsimp only[Option.bind];rw[wgroup_nil];rfl
theorem rnx_eq {f:Nat}{l:List UInt8}{d:Int}(hf:l.length<f):rnx (rgr f) l d=opt (wnx l d):=by
 unfold rnx wnx
 cases hh:whd l with
 | error c=>rfl
 | ok y =>
  obtain ⟨m,ty,i⟩:=y;have hb:=whd_bounds hh;dsimp only
  split
  ·rfl
  ·split
   ·rw[rgr_eq (by simp;omega) hb.2.2.1 hb.2.2.2.1]
    cases wgroup (l.drop i) [m] d with
    | error c=>rfl
    | ok k=>rfl
   ·cases wbd (l.drop i) ty with
    | error c=>rfl
    | ok z=>rfl
end Go.Proofs.YtficgfemmijaaaaGreatDoor
