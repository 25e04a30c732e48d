/-
  Records of the wire: what is read, over lists of bytes.
-/
import Derived.Test.YtmlghmjjlpioeaaGreatDoorKit
namespace Go.Proofs.YtmlghmjjlpioeaaGreatDoor
structure Rec where
 num:Nat
 ty:Nat
 n:Nat
 s:List UInt8
 raw:List UInt8
def wv (l:List UInt8):Except Nat (Nat × Nat):=yg 10 0 0 l
def wlit:List UInt8->Nat
 | []=>0
 | b::r=>b.toNat+256*wlit r
def whd (l:List UInt8):Except Nat (Nat × Nat × Nat):=match wv l with
 | .error c => .error c
 | .ok (t,j)=>if t/8<1∨536870911<t/8∨5<t%8 then .error 3 else .ok (t/8,t%8,j)
def wbd (l:List UInt8)(ty:Nat):Except Nat (Nat × List UInt8 × Nat) :=
 if ty=1 then if l.length<8 then .error 1 else .ok (wlit (l.take 8),[],8)
 else if ty=5 then if l.length<4 then .error 1 else .ok (wlit (l.take 4),[],4)
 else match wv l with
  | .error c => .error c
  | .ok (n,j)=>if ty=0 then .ok (n,[],j)else if l.length-j<n then .error 1 else .ok (0,(l.drop j).take n,j+n)
def wadd (j:Nat):Except Nat Nat->Except Nat Nat
 | .error c => .error c
 | .ok k => .ok (j+k)
def wgr:Nat->List UInt8->List Nat->Int->Except Nat Nat
 | 0,_,_,_ => .error 1
 | f+1,l,st,d=>if st=[]then .ok 0 else if d<(st.length:Int)then .error 6 else
  match whd l with
  | .error c => .error c
  | .ok (num,ty,j) =>
   if ty=3 then wadd j (wgr f (l.drop j) (num::st) d)
   else if ty=4 then if st.head?=some num then wadd j (wgr f (l.drop j) st.tail d)else .error 3
   else match wbd (l.drop j) ty with
    | .error c => .error c
    | .ok (_,_,k)=>wadd (j+k) (wgr f (l.drop (j+k)) st d)
def zk (l:List UInt8)(st:List Nat)(d:Int):Except Nat Nat:=wgr (l.length+1) l st d
def wnx (l:List UInt8)(d:Int):Except Nat (Rec × Nat):=match whd l with
 | .error c => .error c
 | .ok (num,ty,j) =>
  if ty=4 then .error 3
  else if ty=3 then match zk (l.drop j) [num] d with
   | .error c => .error c
   | .ok k => .ok (⟨num,3,0,[],l.take (j+k)⟩,j+k)
  else match wbd (l.drop j) ty with
   | .error c => .error c
   | .ok (n,s,k) => .ok (⟨num,ty,n,s,l.take (j+k)⟩,j+k)
def wal:Nat->List UInt8->Int->Except Nat (List Rec)
 | 0,_,_ => .ok []
 | f+1,l,d=>if l=[]then .ok []else match wnx l d with
  | .error c => .error c
  | .ok (r,j)=>match wal f (l.drop j) d with
   | .error c => .error c
   | .ok rs => .ok (r::rs)
def wall (l:List UInt8)(d:Int):Except Nat (List Rec):=wal l.length l d
theorem Kz:∀(f k m:Nat) (l:List UInt8) {n j:Nat},f+k=10->m<128^k->yg f k m l=.ok (n,j)->k<j/\j<=k+l.length/\j<=10/\n<2^64
 | 0,k,m,l,n,j,_,_,h=>by simp[yg]at h
 | f+1,k,m,[],n,j,_,_,h=>by simp[yg]at h
 | f + 1,k,m,c::r,n,j,hf,hm,h=>by
  simp only[yg]at h
  split at h
  ·simp at h
  ·rename_i h1
   split at h
   ·rename_i h2
    simp only[Except.ok.injEq,Prod.mk.injEq]at h
    obtain⟨rfl,rfl⟩:=h;refine⟨by omega,by simp,by omega,?_⟩;have hc:c.toNat<(if f=0 then 2 else 128):=by split<;>omega
    by_cases hf0:f=0
    ·subst hf0
     obtain rfl:k=9:=by omega
     rw[if_pos rfl]at hc;have:c.toNat*128^9<=1*128^9:=Nat.mul_le_mul_right _ (by omega);omega
    ·have hk:k<=8:=by omega
     have h3:128^k<=128^8:=Nat.pow_le_pow_right (by omega) hk;have:c.toNat*128^k<=127*128^k:=Nat.mul_le_mul_right _ (by omega);omega
   ·rename_i h2
    have hc:=c.toNat_lt;have h4:(c.toNat-128)*128^k<=127*128^k:=Nat.mul_le_mul_right _ (by omega);have:=Kz f (k+1) _ r (by omega) (by rw[Nat.pow_succ];omega) h
    simp
    omega
theorem yi {l:List UInt8}{n j:Nat}(h:wv l=.ok (n,j)):1<=j/\j<=l.length/\j<=10/\n<2^64:=by
 have:=Kz 10 0 0 l rfl (by decide) h;omega
theorem Kw:∀(f k m:Nat) (l t:List UInt8) {n j:Nat},yg f k m l=.ok (n,j)->yg f k m (l++t)=.ok (n,j)
 | 0,k,m,l,t,n,j,h=>by simp[yg]at h
 | f+1,k,m,[],t,n,j,h=>by simp[yg]at h
 | f+1,k,m,c::r,t,n,j,h=>by
  simp only[yg,List.cons_append]at h ⊢
  split at h
  ·simp at h
  ·rename_i h1
   rw[if_neg h1]
   split at h
   ·rename_i h2
    rw[if_pos h2];exact h
   ·rename_i h2
    rw[if_neg h2];exact Kw f _ _ r t h
theorem z4t {l:List UInt8}{n j:Nat}(t:List UInt8)(h:wv l=.ok (n,j)):wv (l++t)=.ok (n,j):=Kw _ _ _ _ t h
theorem z91 {l:List UInt8}{p:Nat}(hp:p<=l.length):vget l p=match wv (l.drop p)with
  | .ok (n,j) => .ok (n,p+j)
  | .error c => .error c:=Jk hp
theorem Z3 {l:List UInt8}{p n j:Nat}(hp:p<=l.length)(h:wv (l.drop p)=.ok (n,j)):vget l p=.ok (n,p+j):=by rw[z91 hp,h]
theorem Zm {l:List UInt8}{p c:Nat}(hp:p<=l.length)(h:wv (l.drop p)=.error c):vget l p=.error c:=by rw[z91 hp,h]
theorem Yh {l:List UInt8}{c:Nat}(h:wv l=.error c):c=1∨c=4:=by
 have aux:∀f k m (l:List UInt8),yg f k m l=.error c->c=1∨c=4:=by
  intro f
  induction f with
  | zero=>intro k m l h;simp[yg]at h;omega
  | succ f ih =>
   intro k m l h
   cases l with
   | nil=>simp[yg]at h;omega
   | cons b r =>
    simp only[yg]at h
    split at h
    ·simp at h;omega
    ·split at h
     ·simp at h
     ·exact ih _ _ _ h
 exact aux _ _ _ _ h
theorem Q5 {l:List UInt8}{t j:Nat}(h:wv l=.ok (t,j))(h1:1<=t/8)(h2:t/8<=536870911)(h3:t%8<=5):whd l=.ok (t/8,t%8,j):=by
 unfold whd;rw[h];dsimp only;rw[if_neg (by omega)]
theorem z1x {l:List UInt8}{t j:Nat}(h:wv l=.ok (t,j))(h1:t/8<1∨536870911<t/8∨5<t%8):whd l=.error 3:=by
 unfold whd;rw[h];dsimp only;rw[if_pos h1]
theorem z7a {l:List UInt8}{c:Nat}(h:wv l=.error c):whd l=.error c:=by unfold whd;rw[h]
theorem yo {l:List UInt8}{num ty j:Nat}(h:whd l=.ok (num,ty,j)):1<=j/\j<=l.length/\1<=num/\num<=536870911/\ty<=5/\wv l=.ok (8*num+ty,j):=by
 unfold whd at h
 cases hv:wv l with
 | error c=>rw[hv]at h;cases h
 | ok x =>
  obtain⟨t,i⟩:=x;rw[hv]at h;dsimp only at h
  split at h
  ·cases h
  ·rename_i h1
   simp only[Except.ok.injEq,Prod.mk.injEq]at h
   obtain⟨rfl,rfl,rfl⟩:=h;have:=yi hv;have e:8*(t/8)+t%8=t:=by omega
   rw[e];exact⟨by omega,by omega,by omega,by omega,by omega,rfl⟩
theorem z2z {l:List UInt8}{x:Nat × Nat × Nat}(t:List UInt8)(h:whd l=.ok x):whd (l++t)=.ok x:=by
 obtain⟨num,ty,j⟩:=x;obtain⟨_,_,h1,h2,h3,h4⟩:=yo h;have e1:(8*num+ty)/8=num:=by omega
 have e2:(8*num+ty)%8=ty:=by omega
 have:=Q5 (z4t t h4) (by omega) (by omega) (by omega);rw[this,e1,e2]
theorem j1 {l:List UInt8}{ty n k:Nat}{s:List UInt8}(h:wbd l ty=.ok (n,s,k)):1<=k/\k<=l.length/\s.length<=k:=by
 unfold wbd at h
 split at h
 ·split at h
  ·cases h
  ·simp only[Except.ok.injEq,Prod.mk.injEq]at h
   obtain⟨rfl,rfl,rfl⟩:=h
   simp;omega
 ·split at h
  ·split at h
   ·cases h
   ·simp only[Except.ok.injEq,Prod.mk.injEq]at h
    obtain⟨rfl,rfl,rfl⟩:=h
    simp;omega
  ·cases hv:wv l with
   | error c=>rw[hv]at h;cases h
   | ok x =>
    obtain⟨m,j⟩:=x;rw[hv]at h;have:=yi hv;dsimp only at h
    split at h
    ·simp only[Except.ok.injEq,Prod.mk.injEq]at h
     obtain⟨rfl,rfl,rfl⟩:=h
     simp;omega
    ·split at h
     ·cases h
     ·simp only[Except.ok.injEq,Prod.mk.injEq]at h
      obtain⟨rfl,rfl,rfl⟩:=h
      simp;omega
theorem z33 {l:List UInt8}{ty:Nat}{x:Nat × List UInt8 × Nat}(t:List UInt8)(h:wbd l ty=.ok x):wbd (l++t) ty=.ok x:=by
 unfold wbd at h ⊢
 split at h
 ·rename_i h1
  rw[if_pos h1]
  split at h
  ·cases h
  ·rw[if_neg (by simp;omega),List.take_append_of_le_length (by omega)]
   exact h
 ·rename_i h1
  rw[if_neg h1]
  split at h
  ·rename_i h2
   rw[if_pos h2]
   split at h
   ·cases h
   ·rw[if_neg (by simp;omega),List.take_append_of_le_length (by omega)]
    exact h
  ·rename_i h2
   rw[if_neg h2]
   cases hv:wv l with
   | error c=>rw[hv]at h;cases h
   | ok x =>
    obtain⟨m,j⟩:=x;rw[hv]at h;rw[z4t t hv];have:=yi hv;dsimp only at h ⊢
    split at h
    ·rename_i h3
     rw[if_pos h3];exact h
    ·rename_i h3
     rw[if_neg h3]
     split at h
     ·cases h
     ·rw[if_neg (by simp;omega),List.drop_append_of_le_length (by omega),List.take_append_of_le_length (by simp;omega)]
      exact h
theorem K9:∀(f g:Nat) (l:List UInt8) (st:List Nat) (d:Int),l.length<f->l.length<g->wgr f l st d=wgr g l st d
 | 0,_,_,_,_,h,_=>by omega
 | _+1,0,_,_,_,_,h=>by omega
 | f + 1,g+1,l,st,d,hf,hg=>by
  rw[wgr,wgr]
  split
  ·rfl
  ·split
   ·rfl
   ·cases hh:whd l with
    | error c=>rfl
    | ok x =>
     obtain⟨num,ty,j⟩:=x;have hb:=yo hh;dsimp only
     split
     ·rw[K9 f g _ _ _ (by simp;omega) (by simp;omega)]
     ·split
      ·split
       ·rw[K9 f g _ _ _ (by simp;omega) (by simp;omega)]
       ·rfl
      ·cases wbd (l.drop j) ty with
       | error c=>rfl
       | ok y =>
        obtain⟨n,s,k⟩:=y;dsimp only;rw[K9 f g _ _ _ (by simp;omega) (by simp;omega)]
theorem z0q {f:Nat}{l:List UInt8}{st:List Nat}{d:Int}(h:l.length<f):wgr f l st d=zk l st d:=K9 _ _ _ _ _ h (by omega)
theorem zed (i j:Nat)(x:Except Nat Nat):wadd i (wadd j x)=wadd (i+j) x:=by
 cases x with
 | error c=>rfl
 | ok k=>simp[wadd,Nat.add_assoc]
theorem zcz (x:Except Nat Nat):wadd 0 x=x:=by
 cases x with
 | error c=>rfl
 | ok k=>simp[wadd]
theorem jp {j k:Nat}{x:Except Nat Nat}(h:wadd j x=.ok k):∃i,x=.ok i/\k=j+i:=by
 cases x with
 | error c=>cases h
 | ok i=>simp only[wadd,Except.ok.injEq]at h;exact⟨i,rfl,h.symm⟩
theorem z2c {j c:Nat}{x:Except Nat Nat}(h:wadd j x=.error c):x=.error c:=by
 cases x with
 | error c=>simpa [wadd] using h
 | ok i=>cases h
theorem z34 (l:List UInt8)(d:Int):zk l [] d=.ok 0:=by unfold zk;rw[wgr,if_pos rfl]
theorem z1o {l:List UInt8}{st:List Nat}{d:Int}(h0:st≠[])(h:d<(st.length:Int)):zk l st d=.error 6:=by unfold zk;rw[wgr,if_neg h0,if_pos h]
theorem Qt {l:List UInt8}{st:List Nat}{d:Int}{c:Nat}(h0:st≠[])(h:(st.length:Int)<=d)(hh:whd l=.error c):zk l st d=.error c:=by
 unfold zk;rw[wgr,if_neg h0,if_neg (by omega),hh]
theorem z0e {l:List UInt8}{st:List Nat}{d:Int}{num j:Nat}(h0:st≠[])(h:(st.length:Int)<=d)(hh:whd l=.ok (num,3,j)):zk l st d=wadd j (zk (l.drop j) (num::st) d):=by
 have hb:=yo hh
 conv=>lhs;unfold zk
 rw[wgr,if_neg h0,if_neg (by omega),hh];dsimp only;rw[if_pos rfl,z0q (by simp;omega)]
theorem z3u {l:List UInt8}{st:List Nat}{d:Int}{num j:Nat}(h:((num::st).length:Int)<=d)(hh:whd l=.ok (num,4,j)):zk l (num::st) d=wadd j (zk (l.drop j) st d):=by
 have hb:=yo hh
 conv=>lhs;unfold zk
 rw[wgr,if_neg (by simp),if_neg (by omega),hh];dsimp only;rw[if_neg (by omega),if_pos rfl,if_pos (by simp),z0q (by simp;omega)]
 rfl
theorem z0b {l:List UInt8}{st:List Nat}{d:Int}{m num j:Nat}(h:((m::st).length:Int)<=d)(hh:whd l=.ok (num,4,j))(hn:num≠m):zk l (m::st) d=.error 3:=by
 unfold zk;rw[wgr,if_neg (by simp),if_neg (by omega),hh];dsimp only;rw[if_neg (by omega),if_pos rfl,if_neg (by simp;omega)]
theorem z1m {l:List UInt8}{st:List Nat}{d:Int}{num ty j:Nat}(h0:st≠[])(h:(st.length:Int)<=d)(hh:whd l=.ok (num,ty,j))(h3:ty≠3)(h4:ty≠4):zk l st d=match wbd (l.drop j) ty with
  | .error c => .error c
  | .ok (_,_,k)=>wadd (j+k) (zk (l.drop (j+k)) st d):=by
 have hb:=yo hh
 conv=>lhs;unfold zk
 rw[wgr,if_neg h0,if_neg (by omega),hh];dsimp only;rw[if_neg h3,if_neg h4]
 cases wbd (l.drop j) ty with
 | error c=>rfl
 | ok y =>
  obtain⟨n,s,k⟩:=y;dsimp only;rw[z0q (by simp;omega)]
theorem Kx {l:List UInt8}{st:List Nat}{d:Int}{num ty j c:Nat}(h0:st≠[])(h:(st.length:Int)<=d)(hh:whd l=.ok (num,ty,j))(h3:ty≠3)(h4:ty≠4)(hb:wbd (l.drop j) ty=.error c):zk l st d=.error c:=by
 rw[z1m h0 h hh h3 h4,hb]
theorem Kv {l:List UInt8}{st:List Nat}{d:Int}{num ty j n k:Nat}{s:List UInt8}(h0:st≠[])(h:(st.length:Int)<=d)(hh:whd l=.ok (num,ty,j))(h3:ty≠3)(h4:ty≠4)(hb:wbd (l.drop j) ty=.ok (n,s,k)):zk l st d=wadd (j+k) (zk (l.drop (j+k)) st d):=by
 rw[z1m h0 h hh h3 h4,hb]
theorem jb:∀(f:Nat) {l:List UInt8} {st:List Nat} {d:Int} {k:Nat},l.length<f->wgr f l st d=.ok k->k<=l.length/\(st≠[]->1<=k)
 | 0,_,_,_,_,h,_=>by omega
 | f + 1,l,st,d,k,hf,h=>by
  rw[wgr]at h
  split at h
  ·rename_i h0
   simp only[Except.ok.injEq]at h
   subst h;exact⟨by omega,fun h1=>absurd h0 h1⟩
  ·split at h
   ·cases h
   ·cases hh:whd l with
    | error c=>rw[hh]at h;cases h
    | ok x =>
     obtain⟨num,ty,j⟩:=x;rw[hh]at h;have hb:=yo hh;dsimp only at h
     split at h
     ·obtain⟨i,hi,rfl⟩:=jp h
      have:=(jb f (by simp;omega) hi).1
      simp at this
      exact⟨by omega,fun _=>by omega⟩
     ·split at h
      ·split at h
       ·obtain⟨i,hi,rfl⟩:=jp h
        have:=(jb f (by simp;omega) hi).1
        simp at this
        exact⟨by omega,fun _=>by omega⟩
       ·cases h
      ·cases hbd:wbd (l.drop j) ty with
       | error c=>rw[hbd]at h;cases h
       | ok y =>
        obtain⟨n,s,m⟩:=y;rw[hbd]at h;have hb2:=j1 hbd
        simp at hb2
        obtain⟨i,hi,rfl⟩:=jp h;have:=(jb f (by simp;omega) hi).1
        simp at this
        exact⟨by omega,fun _=>by omega⟩
theorem Xo:∀(f:Nat) {l:List UInt8} {st:List Nat} {d:Int} {k:Nat} (t:List UInt8),l.length<f->wgr f l st d=.ok k->∀g,(l++t).length<g->wgr g (l++t) st d=.ok k
 | 0,_,_,_,_,_,h,_=>by omega
 | f + 1,l,st,d,k,t,hf,h=>fun g hg=>by
  obtain⟨g,rfl⟩:∃g',g=g'+1:=⟨g-1,by omega⟩
  rw[wgr]at h ⊢
  split at h
  ·rename_i h0
   rw[if_pos h0];exact h
  ·rename_i h0
   rw[if_neg h0]
   split at h
   ·cases h
   ·rename_i h1
    rw[if_neg h1]
    cases hh:whd l with
    | error c=>rw[hh]at h;cases h
    | ok x =>
     obtain⟨num,ty,j⟩:=x;rw[hh]at h;rw[z2z t hh];have hb:=yo hh;have hd:(l++t).drop j=l.drop j++t:=List.drop_append_of_le_length (by omega)
     simp at hg
     dsimp only at h ⊢
     split at h
     ·rename_i h3
      rw[if_pos h3,hd];obtain⟨i,hi,rfl⟩:=jp h;rw[Xo f t (by simp;omega) hi g (by simp;omega)];rfl
     ·rename_i h3
      rw[if_neg h3]
      split at h
      ·rename_i h4
       rw[if_pos h4]
       split at h
       ·rename_i h5
        rw[if_pos h5,hd];obtain⟨i,hi,rfl⟩:=jp h;rw[Xo f t (by simp;omega) hi g (by simp;omega)];rfl
       ·cases h
      ·rename_i h4
       rw[if_neg h4,hd]
       cases hbd:wbd (l.drop j) ty with
       | error c=>rw[hbd]at h;cases h
       | ok y =>
        obtain⟨n,s,m⟩:=y;rw[hbd]at h;rw[z33 t hbd];have hb2:=j1 hbd
        simp at hb2
        have hd2:(l++t).drop (j+m)=l.drop (j+m)++t:=List.drop_append_of_le_length (by omega);dsimp only;rw[hd2];obtain⟨i,hi,rfl⟩:=jp h;rw[Xo f t (by simp;omega) hi g (by simp;omega)];rfl
theorem k7 {l:List UInt8}{d:Int}{r:Rec}{q:Nat}(h:wnx l d=.ok (r,q)):2<=q/\q<=l.length/\r.raw=l.take q/\1<=r.num/\r.num<=536870911/\r.ty<=5:=by
 unfold wnx at h
 cases hh:whd l with
 | error c=>rw[hh]at h;cases h
 | ok x =>
  obtain⟨num,ty,j⟩:=x;rw[hh]at h;have hb:=yo hh;dsimp only at h
  split at h
  ·cases h
  ·split at h
   ·cases hg:zk (l.drop j) [num] d with
    | error c=>rw[hg]at h;cases h
    | ok k =>
     rw[hg]at h
     simp only[Except.ok.injEq,Prod.mk.injEq]at h
     obtain⟨rfl,rfl⟩:=h;have:=jb _ (Nat.lt_succ_self _) hg;have h1:=this.2 (by simp);have h2:=this.1
     simp at h2
     exact⟨by omega,by omega,rfl,hb.2.2.1,hb.2.2.2.1,by show 3<=5;decide⟩
   ·cases hbd:wbd (l.drop j) ty with
    | error c=>rw[hbd]at h;cases h
    | ok y =>
     obtain⟨n,s,m⟩:=y;rw[hbd]at h
     simp only[Except.ok.injEq,Prod.mk.injEq]at h
     obtain⟨rfl,rfl⟩:=h;have hb2:=j1 hbd
     simp at hb2
     exact⟨by omega,by omega,rfl,hb.2.2.1,hb.2.2.2.1,hb.2.2.2.2.1⟩
theorem z2o {l:List UInt8}{d:Int}{r:Rec}{q:Nat}(t:List UInt8)(h:wnx l d=.ok (r,q)):wnx (l++t) d=.ok (r,q):=by
 unfold wnx at h ⊢
 cases hh:whd l with
 | error c=>rw[hh]at h;cases h
 | ok x =>
  obtain⟨num,ty,j⟩:=x;rw[hh]at h;rw[z2z t hh];have hb:=yo hh;have hd:(l++t).drop j=l.drop j++t:=List.drop_append_of_le_length (by omega);dsimp only at h ⊢;rw[hd]
  split at h
  ·cases h
  ·rename_i h4
   rw[if_neg h4]
   split at h
   ·rename_i h3
    rw[if_pos h3]
    cases hg:zk (l.drop j) [num] d with
    | error c=>rw[hg]at h;cases h
    | ok k =>
     rw[hg]at h;have h2:=(jb _ (Nat.lt_succ_self _) hg).1
     simp at h2
     have e:zk (l.drop j++t) [num] d=.ok k:=Xo _ t (Nat.lt_succ_self _) hg _ (Nat.lt_succ_self _);rw[e];dsimp only at h ⊢;rw[List.take_append_of_le_length (by omega)];exact h
   ·rename_i h3
    rw[if_neg h3]
    cases hbd:wbd (l.drop j) ty with
    | error c=>rw[hbd]at h;cases h
    | ok y =>
     obtain⟨n,s,m⟩:=y;rw[hbd]at h;rw[z33 t hbd];have hb2:=j1 hbd
     simp at hb2
     dsimp only at h ⊢;rw[List.take_append_of_le_length (by omega)];exact h
theorem z7y:∀(f g:Nat) (l:List UInt8) (d:Int),l.length<=f->l.length<=g->wal f l d=wal g l d
 | 0,0,_,_,_,_=>rfl
 | 0,g+1,l,d,hf,_=>by
  have:l=[]:=List.length_eq_zero_iff.1 (by omega);rw[wal,wal,if_pos this]
 | f+1,0,l,d,_,hg=>by
  have:l=[]:=List.length_eq_zero_iff.1 (by omega);rw[wal,wal,if_pos this]
 | f+1,g+1,l,d,hf,hg=>by
  rw[wal,wal]
  split
  ·rfl
  ·cases h:wnx l d with
   | error c=>rfl
   | ok x =>
    obtain⟨r,j⟩:=x;have:=k7 h;dsimp only;rw[z7y f g _ _ (by simp;omega) (by simp;omega)]
theorem K5 (d:Int):wall [] d=.ok []:=rfl
theorem z9l {l:List UInt8}{d:Int}{c:Nat}(h0:l≠[])(h:wnx l d=.error c):wall l d=.error c:=by
 unfold wall
 cases hl:l.length with
 | zero=>exact absurd (List.length_eq_zero_iff.1 hl) h0
 | succ f=>rw[wal,if_neg h0,h]
theorem X9 {l:List UInt8}{d:Int}{r:Rec}{q:Nat}(h:wnx l d=.ok (r,q)):wall l d=match wall (l.drop q) d with
  | .error c => .error c
  | .ok rs => .ok (r::rs):=by
 have hb:=k7 h
 conv=>lhs;unfold wall
 cases hl:l.length with
 | zero=>omega
 | succ f =>
  rw[wal,if_neg (by intro e;subst e;simp at hl),h];dsimp only;have e:wal f (l.drop q) d=wall (l.drop q) d:=z7y _ _ _ _ (by simp;omega) (by simp);rw[e]
theorem K8 {l:List UInt8}{d:Int}{rs:List Rec}(h:wall l d=.ok rs):(l=[]/\rs=[])∨∃r q ks,wnx l d=.ok (r,q)/\wall (l.drop q) d=.ok ks/\rs=r::ks/\2<=q/\q<=l.length/\r.raw=l.take q:=by
 by_cases h0:l=[]
 ·subst h0
  rw[K5]at h
  simp only[Except.ok.injEq]at h
  exact .inl ⟨rfl,h.symm⟩
 ·cases hn:wnx l d with
  | error c=>rw[z9l h0 hn]at h;cases h
  | ok x =>
   obtain⟨r,q⟩:=x;rw[X9 hn]at h;have hb:=k7 hn
   cases hk:wall (l.drop q) d with
   | error c=>rw[hk]at h;cases h
   | ok ks =>
    rw[hk]at h
    simp only[Except.ok.injEq]at h
    exact .inr ⟨r,q,ks,rfl,hk,h.symm,hb.1,hb.2.1,hb.2.2.1⟩
theorem xh:∀(n:Nat) {l:List UInt8} {d:Int} {rs:List Rec},l.length<=n->wall l d=.ok rs->rs.flatMap Rec.raw=l/\∀r∈rs,2<=r.raw.length
 | n,l,d,rs,hn,h=>by
  rcases K8 h with ⟨rfl,rfl⟩|⟨r,q,ks,h1,h2,rfl,h3,h4,h5⟩
  ·simp
  ·match n,hn with
   | 0,hn=>omega
   | n+1,hn =>
    have ih:=xh n (by simp;omega) h2;refine⟨?_,fun x hx=>?_⟩
    ·rw[List.flatMap_cons,ih.1,h5,List.take_append_drop]
    ·rcases List.mem_cons.1 hx with rfl|hx
     ·rw[h5];simp;omega
     ·exact ih.2 x hx
theorem J3:∀(n:Nat) {l:List UInt8} {d:Int} {rs:List Rec} (t:List UInt8),l.length<=n->wall l d=.ok rs->wall (l++t) d=match wall t d with
  | .error c => .error c
  | .ok ks => .ok (rs++ks)
 | n,l,d,rs,t,hn,h=>by
  rcases K8 h with ⟨rfl,rfl⟩|⟨r,q,ks,h1,h2,rfl,h3,h4,h5⟩
  ·rw[List.nil_append]
   cases wall t d<;>rfl
  ·match n,hn with
   | 0,hn=>omega
   | n+1,hn =>
    have ih:=J3 n t (by simp;omega) h2;rw[X9 (z2o t h1),List.drop_append_of_le_length h4,ih]
    cases wall t d<;>rfl
theorem jr {rs:List Rec}{l:List UInt8}(h:rs.flatMap Rec.raw=l)(i:Nat):((rs.take i).flatMap Rec.raw).length<=l.length:=by
 have e:rs.flatMap Rec.raw=(rs.take i).flatMap Rec.raw++(rs.drop i).flatMap Rec.raw:=by rw[<-List.flatMap_append,List.take_append_drop]
 rw[<-h,e,List.length_append];omega
theorem raw_le {rs:List Rec}{l:List UInt8}(h:rs.flatMap Rec.raw=l){r:Rec}(hr:r∈rs):r.raw.length<=l.length:=by
 obtain⟨a,b,rfl⟩:=List.append_of_mem hr;rw[<-h]
 simp
 omega
def rnx (G:List UInt8->Nat->Int->Option Nat)(l:List UInt8)(d:Int):Option (Rec × Nat):=match whd l with
 | .error _=>none
 | .ok (num,ty,j) =>
  if ty=4 then none
  else if ty=3 then(G (l.drop j) num d).map fun k=>(⟨num,3,0,[],l.take (j+k)⟩,j+k)
  else match wbd (l.drop j) ty with
   | .error _=>none
   | .ok (n,s,k)=>some (⟨num,ty,n,s,l.take (j+k)⟩,j+k)
def rgr:Nat->List UInt8->Nat->Int->Option Nat
 | 0,_,_,_=>none
 | f+1,l,num,d=>if d<1 then none else match wv l with
  | .error _=>none
  | .ok (t,j) =>
   if t%8=4 then(if t/8=num then some j else none)
   else match rnx (rgr f) l (d-1)with
    | none=>none
    | some (_,k)=>(rgr f (l.drop k) num d).map (k+·)
def opt {α:Type}:Except Nat α->Option α
 | .error _=>none
 | .ok x=>some x
theorem z25 (j:Nat)(x:Except Nat Nat):opt (wadd j x)=(opt x).map (j+·):=by cases x<;>rfl
theorem z15:∀(f:Nat) (l:List UInt8) (st:List Nat) (d:Int) (num:Nat),l.length<f->1<=num->num<=536870911 ->
  opt (zk l (num::st) d)=(rgr f l num (d-st.length)).bind fun k=>(opt (zk (l.drop k) st d)).map (k+·)
 | 0,_,_,_,_,h,_,_=>by omega
 | f + 1,l,st,d,num,hf,hn1,hn2=>by
  rw[rgr]
  by_cases hd:d-st.length<1
  ·rw[if_pos hd,z1o (by simp) (by simp;omega)];rfl
  ·rw [if_neg hd]
   have hd':((num::st).length:Int)<=d:=by simp;omega
   cases hv:wv l with
   | error c=>rw[Qt (by simp) hd' (z7a hv)];rfl
   | ok x =>
    obtain⟨t,j⟩:=x;have hvb:=yi hv;dsimp only
    by_cases h4:t%8=4
    ·rw[if_pos h4]
     by_cases hnum:t/8=num
     ·have hh:=Q5 hv (by omega) (by omega) (by omega)
      rw[hnum,h4]at hh;rw[if_pos hnum,z3u hd' hh,z25];rfl
     ·rw[if_neg hnum]
      by_cases hr:t/8<1∨536870911<t/8
      ·rw[Qt (by simp) hd' (z1x hv (by omega))];rfl
      ·have hh:=Q5 hv (by omega) (by omega) (by omega)
       rw[h4]at hh;rw[z0b hd' hh hnum];rfl
    ·rw [if_neg h4]
     unfold rnx
     cases hh:whd l with
     | error c=>rw[Qt (by simp) hd' hh];rfl
     | ok y =>
      obtain⟨m,ty,i⟩:=y;have hb:=yo hh
      have hty:ty≠4:=by
       intro e;have:=hb.2.2.2.2.2;rw[hv]at this
       simp only[Except.ok.injEq,Prod.mk.injEq]at this
       omega
      dsimp only;rw[if_neg hty]
      by_cases h3:ty=3
      ·subst h3
       rw[if_pos rfl,z0e (by simp) hd' hh,z25,z15 f (l.drop i) (num::st) d m (by simp;omega) hb.2.2.1 hb.2.2.2.1];have e:d-((num::st).length:Int)=d-st.length-1:=by simp;omega
       rw[e]
       cases hg:rgr f (l.drop i) m (d-st.length-1)with
       | none=>rfl
       | some k =>
        dsimp only[Option.bind,Option.map];rw[List.drop_drop];have:=z15 f (l.drop (i+k)) st d num (by simp;omega) hn1 hn2;rw[this]
        cases hg2:rgr f (l.drop (i+k)) num (d-st.length)with
        | none=>rfl
        | some k2 =>
         dsimp only[Option.bind,Option.map];rw[List.drop_drop]
         cases opt (zk (l.drop (i+k+k2)) st d)with
         | none=>rfl
         | some z=>simp[Nat.add_assoc]
      ·rw[if_neg h3]
       cases hbd:wbd (l.drop i) ty with
       | error c=>rw[Kx (by simp) hd' hh h3 hty hbd];rfl
       | ok z =>
        obtain⟨n,s,k⟩:=z;rw[Kv (by simp) hd' hh h3 hty hbd,z25];dsimp only;rw[z15 f (l.drop (i+k)) st d num (by simp;omega) hn1 hn2]
        cases hg2:rgr f (l.drop (i+k)) num (d-st.length)with
        | none=>rfl
        | some k2 =>
         dsimp only[Option.bind,Option.map];rw[List.drop_drop]
         cases opt (zk (l.drop (i+k+k2)) st d)with
         | none=>rfl
         | some z=>simp[Nat.add_assoc]
theorem z6v {f:Nat}{l:List UInt8}{num:Nat}{d:Int}(hf:l.length<f)(h1:1<=num)(h2:num<=536870911):rgr f l num d=opt (zk l [num] d):=by
 have:=z15 f l [] d num hf h1 h2
 simp only[List.length_nil,Int.natCast_zero,Int.sub_zero]at this
 rw[this]
 cases rgr f l num d with
 | none=>rfl
 | some k =>
  dsimp only[Option.bind];rw[z34];rfl
theorem rnx_eq {f:Nat}{l:List UInt8}{d:Int}(hf:l.length<f):rnx (rgr f) l d=opt (wnx l d):=by
 unfold rnx wnx
 cases hh:whd l with
 | error c=>rfl
 | ok y =>
  obtain⟨m,ty,i⟩:=y;have hb:=yo hh;dsimp only
  split
  ·rfl
  ·split
   ·rw[z6v (by simp;omega) hb.2.2.1 hb.2.2.2.1]
    cases zk (l.drop i) [m] d with
    | error c=>rfl
    | ok k=>rfl
   ·cases wbd (l.drop i) ty with
    | error c=>rfl
    | ok z=>rfl
end Go.Proofs.YtmlghmjjlpioeaaGreatDoor
