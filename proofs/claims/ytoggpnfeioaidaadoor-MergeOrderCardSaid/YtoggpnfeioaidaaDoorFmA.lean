/-
  To nearest, ties to even, in whole numbers: the code's three bits more.
-/
namespace Go.Proofs.YtoggpnfeioaidaaDoor.Fm
def stk (x j:Nat):Nat:=if x % 2^j=0 then x / 2^j else x / 2^j / 2 * 2+1
def Stk (x j f:Nat):Prop:=∀ t,(2*t<f↔2*t*2^j<x)∧(2*t=f↔2*t*2^j=x)
theorem Stk.uniq {x j f g:Nat} (h:Stk x j f) (h':Stk x j g):f=g:=by
 have a:=h (f/2);have b:=h' (f/2);have c:=h (f/2+1);have d:=h' (f/2+1)
 omega
theorem Stk.gt {x j f:Nat} (h:Stk x j f) (t:Nat):f<2*t↔x<2*t*2^j:=by
 have:=h t;omega
theorem stk_spec (x j:Nat):Stk x j (stk x j):=by
 intro t
 have hp:0<2^j:=Nat.two_pow_pos j
 have hx:=Nat.div_add_mod x (2^j)
 have hr:=Nat.mod_lt x hp
 unfold stk
 generalize 2^j=P at *
 generalize x / P=q at *
 generalize x % P=r at *
 subst hx
 have lt:∀ s,s≤q→P * s≤P * q:=fun s h=>Nat.mul_le_mul_left P h
 have gt:∀ s,q+1≤s→P * (q+1)≤P * s:=fun s h=>Nat.mul_le_mul_left P h
 have e:2*t*P=P*(2*t):=Nat.mul_comm _ _
 rw[e]
 have m:P * (q+1)=P*q+P:=Nat.mul_succ P q
 have l1:=lt (2*t);have g1:=gt (2*t)
 split
 ·rename_i h0
  subst h0
  constructor
  ·constructor
   ·intro h
    have:P * (2*t+1)≤P*q:=lt _ (by omega)
    have:P * (2*t+1)=P*(2*t)+P:=Nat.mul_succ _ _
    omega
   ·intro h
    rcases Nat.lt_or_ge (2*t) q with h1|h1
    ·exact h1
    ·have:P*q≤P*(2*t):=Nat.mul_le_mul_left P h1
     omega
  ·constructor
   ·intro h;rw[h];omega
   ·intro h
    exact Nat.eq_of_mul_eq_mul_left hp (by omega)
 ·rename_i h0
  have h0':0<r:=Nat.pos_of_ne_zero h0
  constructor
  ·constructor
   ·intro h
    have:=l1 (by omega)
    omega
   ·intro h
    rcases Nat.lt_or_ge q (2*t) with h1|h1
    ·have:=g1 (by omega);omega
    ·omega
  ·constructor
   ·intro h;omega
   ·intro h
    rcases Nat.lt_or_ge q (2*t) with h1|h1
    ·have:=g1 (by omega);omega
    ·have:=l1 h1
     have h2:P*(2*t)=P*q+r:=h
     rcases Nat.lt_or_ge (2*t) q with h3|h3
     ·have:P*(2*t+1)≤P*q:=lt _ (by omega)
      have:P * (2*t+1)=P*(2*t)+P:=Nat.mul_succ _ _
      omega
     ·have:2*t=q:=by omega
      rw[this] at h2;omega
theorem stk_eq {x j f:Nat} (h:Stk x j f):stk x j=f:=(stk_spec x j).uniq h
theorem stk_zero (x:Nat):stk x 0=x:=by
 refine stk_eq fun t=>?_
 simp
theorem stk_stk (x i j:Nat):stk (stk x i) j=stk x (i+j):=by
 refine (stk_eq fun t=>?_)
 have h:=stk_spec x (i+j) t
 have h2:=stk_spec x i (t*2^j)
 have e1:2*t*2^(i+j)=2*(t*2^j)*2^i:=by
  rw[Nat.pow_add,Nat.mul_comm (2^i),←Nat.mul_assoc,Nat.mul_assoc 2 t]
 have e2:2*t*2^j=2*(t*2^j):=Nat.mul_assoc _ _ _
 rw[e1] at h
 rw[e2]
 exact ⟨h.1.trans h2.1.symm,h.2.trans h2.2.symm⟩
theorem stk_mul (x i j:Nat):stk (x*2^i) (j+i)=stk x j:=by
 refine (stk_eq fun t=>?_)
 have h:=stk_spec x j t
 have hp:0<2^i:=Nat.two_pow_pos i
 have e:2*t*2^(j+i)=(2*t*2^j)*2^i:=by rw[Nat.pow_add,←Nat.mul_assoc]
 rw[e]
 constructor
 ·rw[h.1]
  exact ⟨fun h=>Nat.mul_lt_mul_of_pos_right h hp,fun h=>Nat.lt_of_mul_lt_mul_right h⟩
 ·rw[h.2]
  exact ⟨fun h=>by rw[h],fun h=>Nat.eq_of_mul_eq_mul_right hp h⟩
theorem stk_exact {x j c:Nat} (h:x=c*2^j):stk x j=c:=by
 have:=stk_mul c j 0
 rw[Nat.zero_add] at this
 rw[h,this,stk_zero]
theorem stk_add {x y j c:Nat} (h:x=2*c*2^j):stk (x+y) j=2*c+stk y j:=by
 refine (stk_eq fun t=>?_)
 rcases Nat.lt_or_ge t c with ht|ht
 ·have h1:2*t*2^j<x:=by
   rw[h];exact Nat.mul_lt_mul_of_pos_right (by omega) (Nat.two_pow_pos j)
  omega
 ·have hs:=stk_spec y j (t - c)
  have e:2*(t-c)*2^j=2*t*2^j - 2*c*2^j:=by
   rw[←Nat.sub_mul,Nat.mul_sub]
  have le:2*c*2^j≤2*t*2^j:=Nat.mul_le_mul_right _ (by omega)
  rw[e] at hs
  omega
theorem stk_sub {x y j c:Nat} (h:x=2*c*2^j) (hy:y≤x):stk (x - y) j=2*c - stk y j:=by
 have hle:stk y j≤2*c:=by
  have:=(stk_spec y j).gt c
  have:=stk_spec y j c
  omega
 refine (stk_eq fun t=>?_)
 rcases Nat.lt_or_ge c t with ht|ht
 ·have h1:x<2*t*2^j:=by
   rw[h];exact Nat.mul_lt_mul_of_pos_right (by omega) (Nat.two_pow_pos j)
  omega
 ·have hs:=stk_spec y j (c - t)
  have hg:=(stk_spec y j).gt (c-t)
  have e:2*(c-t)*2^j=2*c*2^j - 2*t*2^j:=by
   rw[←Nat.sub_mul,Nat.mul_sub]
  have le:2*t*2^j≤2*c*2^j:=Nat.mul_le_mul_right _ (by omega)
  rw[e] at hs hg
  omega
theorem stk_mono {x y:Nat} (j:Nat) (h:x≤y):stk x j≤stk y j:=by
 have a:=stk_spec x j (stk y j / 2);have b:=stk_spec y j (stk y j / 2)
 have c:=stk_spec x j (stk y j / 2+1);have d:=(stk_spec y j).gt (stk y j / 2+1)
 have e:=(stk_spec x j).gt (stk y j / 2+1)
 generalize stk x j=f at *
 generalize stk y j=g at *
 omega
def g (f:Nat):Nat:=f/4+(if f%4=3∨(f%4=2∧f/4%2=1) then 1 else 0)
theorem g_mono {a b:Nat} (h:a≤b):g a≤g b:=by
 unfold g
 split<;>split<;>omega
theorem g_four (a:Nat):g (4*a)=a:=by
 unfold g
 have:4*a%4=0:=by omega
 simp[this]
def rne (S k:Nat):Nat:=g (stk (4*S) k)
theorem rne_mono {S T:Nat} (k:Nat) (h:S≤T):rne S k≤rne T k:=g_mono (stk_mono k (by omega))
theorem rne_exact {S k c:Nat} (h:S=c*2^k):rne S k=c:=by
 unfold rne
 rw[stk_exact (c:=4*c) (by rw[h];rw[Nat.mul_assoc]),g_four]
def inf:Nat:=2047 * 2^52
def rk (S:Nat):Nat:=S.log2 - 52
def rnd (S:Nat):Nat:=min (rk S * 2^52+rne S (rk S)) inf
theorem rk_eq {S k:Nat} (h:k=0∨2^(52+k)≤S) (h':S<2^(53+k)):rk S=k:=by
 unfold rk
 rcases Nat.eq_zero_or_pos S with h0|h0
 ·subst h0
  rcases h with h|h
  ·subst h;rfl
  ·have:=Nat.two_pow_pos (52+k);omega
 ·have a:S.log2<53+k:=(Nat.log2_lt (by omega)).2 h'
  rcases h with h|h
  ·omega
  ·have:=(Nat.le_log2 (by omega)).2 h
   omega
theorem rk_spec (S:Nat):(rk S=0∨2^(52+rk S)≤S)∧S<2^(53+rk S):=by
 unfold rk
 have h2:S<2^(S.log2+1):=Nat.lt_log2_self
 constructor
 ·rcases Nat.lt_or_ge 52 S.log2 with h|h
  ·right
   have:52+(S.log2 - 52)=S.log2:=by omega
   rw[this]
   exact Nat.log2_self_le (by intro h;subst h;revert h;decide)
  ·left;omega
 ·exact Nat.lt_of_lt_of_le h2 (Nat.pow_le_pow_right (by decide) (by omega))
theorem rnd_eq {S k:Nat} (h:k=0∨2^(52+k)≤S) (h':S<2^(53+k)):rnd S=min (k * 2^52+rne S k) inf:=by
 unfold rnd
 rw[rk_eq h h']
theorem rne_le {S k:Nat} (h:S<2^(53+k)):rne S k≤2^53:=by
 have:=rne_mono k (Nat.le_of_lt h)
 rwa [rne_exact (c:=2^53) (Nat.pow_add _ _ _)] at this
theorem rne_ge {S k:Nat} (h:2^(52+k)≤S):2^52≤rne S k:=by
 have:=rne_mono k h
 rwa [rne_exact (c:=2^52) (Nat.pow_add _ _ _)] at this
theorem rnd_mono {S T:Nat} (h:S≤T):rnd S≤rnd T:=by
 have hs:=rk_spec S;have ht:=rk_spec T
 unfold rnd
 rcases Nat.lt_trichotomy (rk S) (rk T) with hk|hk|hk
 ·have a:=rne_le hs.2
  have b:=rne_ge (S:=T) (k:=rk T) (by omega)
  have:rk S * 2^52+rne S (rk S)≤rk T * 2^52+rne T (rk T):=by omega
  omega
 ·rw[hk]
  have:=rne_mono (rk T) h
  omega
 ·exfalso
  have:2^(53+rk T)≤2^(52+rk S):=Nat.pow_le_pow_right (by decide) (by omega)
  omega
def dec (x:Nat):Nat:=if x<2^52 then x else (x % 2^52+2^52) * 2^(x/2^52 - 1)
theorem rnd_dec {x:Nat} (h:x≤inf):rnd (dec x)=x:=by
 unfold dec
 split
 ·rename_i h0
  rw[rnd_eq (k:=0) (Or.inl rfl) (by omega),rne_exact (c:=x) (by simp)]
  unfold inf at *
  omega
 ·rename_i h0
  have hm:=Nat.mod_lt x (Nat.two_pow_pos 52)
  have hd:=Nat.div_add_mod x (2^52)
  rw[rnd_eq (k:=x/2^52 - 1) (Or.inr ?_) ?_,rne_exact rfl]
  ·unfold inf at *
   omega
  ·rw[Nat.pow_add]
   exact Nat.mul_le_mul_right _ (by omega)
  ·rw[Nat.pow_add]
   exact Nat.mul_lt_mul_of_pos_right (by omega) (Nat.two_pow_pos _)
theorem dec_lt {x y:Nat} (hx:x≤inf) (hy:y≤inf):dec x<dec y↔x<y:=by
 constructor
 ·intro h
  have:=rnd_mono (Nat.le_of_lt h)
  rw[rnd_dec hx,rnd_dec hy] at this
  rcases Nat.lt_or_ge x y with h1|h1
  ·exact h1
  ·have:x=y:=by omega
   subst this;omega
 ·intro h
  rcases Nat.lt_or_ge (dec x) (dec y) with h1|h1
  ·exact h1
  ·have:=rnd_mono h1
   rw[rnd_dec hx,rnd_dec hy] at this
   omega
def J (S e M:Nat):Prop :=
 1≤e∧M<2^56∧((M=stk (8*S) (e-1)∧(2^54≤M∨M*2^(e-1)=8*S))∨(M=2 * stk (8*S) e∧2^55≤M))
theorem J.step {S e M:Nat} (h:J S e M) (hM:M<2^55) (he:1<e):J S (e-1) (M*2):=by
 obtain ⟨h1,h2,h3⟩:=h
 refine ⟨by omega,by omega,?_⟩
 rcases h3 with ⟨a,b⟩|⟨a,b⟩
 ·rcases b with b|b
  ·right
   exact ⟨by rw[a,Nat.mul_comm],by omega⟩
  ·left
   have e1:M * 2 * 2^(e-1-1)=8*S:=by
    rw[Nat.mul_assoc,Nat.mul_comm 2,←Nat.pow_succ,Nat.succ_eq_add_one,show e-1-1+1=e-1 by omega,b]
   exact ⟨(stk_exact e1.symm).symm,Or.inr e1⟩
 ·omega
theorem stk_ge {x j t:Nat}:2*t≤stk x j↔2*t*2^j≤x:=by
 have:=stk_spec x j t
 omega
theorem J.done {S e M:Nat} (h:J S e M) (hs:2^55≤M∨e=1):min ((e-1)*2^52+g (stk M 1)) inf=rnd S:=by
 obtain ⟨h1,h2,h3⟩:=h
 have key:g (stk M 1)=rne S (e-1)∧(e - 1=0∨2^(52+(e-1))≤S)∧S<2^(53+(e-1)):=by
  rcases h3 with ⟨a,b⟩|⟨a,b⟩
  ·refine ⟨?_,?_,?_⟩
   ·unfold rne
    rw[a,stk_stk,←stk_mul (4*S) 1 (e-1)]
    congr 2;omega
   ·rcases hs with hs|hs
    ·right
     have:=(stk_ge (x:=8*S) (j:=e-1) (t:=2^54)).1 (by omega)
     rw[Nat.pow_add]
     generalize 2^(e-1)=P at *
     omega
    ·left;omega
   ·have:=(stk_spec (8*S) (e-1)).gt (2^55)
    rw[Nat.pow_add]
    generalize 2^(e-1)=P at *
    omega
  ·have e2:2^e=2^(e-1)*2:=by rw[←Nat.pow_succ];congr 1;omega
   refine ⟨?_,?_,?_⟩
   ·unfold rne
    have e1:stk M 1=stk (8*S) e:=stk_exact (by omega)
    rw[e1,←stk_mul (4*S) 1 (e-1)]
    congr 2<;>omega
   ·right
    have:=(stk_ge (x:=8*S) (j:=e) (t:=2^53)).1 (by omega)
    rw[e2] at this
    rw[Nat.pow_add]
    generalize 2^(e-1)=P at *
    omega
   ·have:=(stk_spec (8*S) e).gt (2^54)
    rw[e2] at this
    rw[Nat.pow_add]
    generalize 2^(e-1)=P at *
    omega
 rw[key.1,←rnd_eq key.2.1 key.2.2]
def J0 (S e M:Nat):Prop:=1≤e∧M<2^57∧M=stk (8*S) (e-1)∧(2^54≤M∨M*2^(e-1)=8*S)
theorem J0.low {S e M:Nat} (h:J0 S e M) (hM:M<2^56):J S e M:=⟨h.1,hM,Or.inl h.2.2⟩
theorem J0.high {S e M:Nat} (h:J0 S e M) (hM:2^56≤M):J S (e+1) (stk M 1):=by
 obtain ⟨h1,h2,h3,h4⟩:=h
 have a:=(stk_ge (x:=M) (j:=1) (t:=2^54)).2 (by omega)
 have b:=(stk_spec M 1).gt (2^55)
 refine ⟨by omega,by omega,Or.inl ⟨?_,Or.inl (by omega)⟩⟩
 rw[h3,stk_stk]
 congr 1;omega
def pe (x:Nat):Nat:=if x<2^52 then 1 else x / 2^52
def pm (x:Nat):Nat:=if x<2^52 then x else x % 2^52+2^52
theorem dec_parts (x:Nat):dec x=pm x * 2^(pe x - 1):=by
 unfold dec pm pe
 split
 ·simp
 ·rfl
theorem pe_pos (x:Nat):1≤pe x:=by unfold pe;split<;>omega
theorem pm_lt (x:Nat):pm x<2^53:=by unfold pm;split<;>omega
theorem pm_ge {x:Nat} (h:pe x≠1∨2^52≤x):2^52≤pm x:=by unfold pe at h;unfold pm;split<;>simp_all<;>omega
theorem pe_mono {x y:Nat} (h:x≤y):pe x≤pe y:=by unfold pe;split<;>split<;>omega
theorem low_stk {x y:Nat} (h:y≤x) (c:Nat):stk (c * dec y) (pe x - 1)=stk (pm y * c) (pe x - pe y):=by
 have h1:=pe_pos y;have h2:=pe_mono h
 rw[dec_parts,show pe x - 1=(pe x - pe y)+(pe y - 1) by omega,←Nat.mul_assoc,stk_mul,Nat.mul_comm]
theorem top_even (x c:Nat):(2*c) * dec x=2*(pm x * c)*2^(pe x - 1):=by
 rw[dec_parts,←Nat.mul_assoc]
 congr 1
 rw[Nat.mul_assoc,Nat.mul_comm c]
theorem sum_stk {x y:Nat} (h:y≤x) (c:Nat):stk (2*c*(dec x+dec y)) (pe x - 1)=pm x * (2*c)+stk (pm y * (2*c)) (pe x - pe y):=by
 rw[Nat.mul_add,stk_add (top_even x c),low_stk h]
 congr 1
 rw[←Nat.mul_assoc,←Nat.mul_assoc,Nat.mul_comm 2]
theorem diff_stk {x y:Nat} (h:y≤x) (hd:dec y≤dec x) (c:Nat):stk (2*c*(dec x - dec y)) (pe x - 1)=pm x * (2*c) - stk (pm y * (2*c)) (pe x - pe y):=by
 rw[Nat.mul_sub,stk_sub (top_even x c) (Nat.mul_le_mul_left _ hd),low_stk h]
 congr 1
 rw[←Nat.mul_assoc,←Nat.mul_assoc,Nat.mul_comm 2]
theorem near_or {x y c q:Nat} (h:y≤x) (hc:2*c=2^q) (hq:1≤q) :
  (2^(q+51)≤pm x * (2*c) - stk (pm y * (2*c)) (pe x - pe y))∨stk (pm y * (2*c)) (pe x - pe y) * 2^(pe x - 1)=2*c*dec y:=by
 have h1:=pe_pos y;have h2:=pe_mono h
 rcases Nat.lt_or_ge 1 (pe x - pe y) with hd|hd
 ·left
  have a:=pm_ge (x:=x) (Or.inl (by omega))
  have b:=pm_lt y
  have hle:stk (pm y * (2*c)) (pe x - pe y)≤2 * 2^(q+50):=by
   have hg:=(stk_spec (pm y * (2*c)) (pe x - pe y)).gt (2^(q+50))
   have hs:=stk_spec (pm y * (2*c)) (pe x - pe y) (2^(q+50))
   have:pm y * (2*c)<2*2^(q+50)*2^(pe x - pe y):=by
    have e1:pm y * (2*c)<2^53 * 2^q:=by rw[hc];exact Nat.mul_lt_mul_of_pos_right b (Nat.two_pow_pos _)
    have e2:2^53*2^q≤2*2^(q+50)*2^(pe x - pe y):=by
     rw[←Nat.pow_add,Nat.mul_comm 2,←Nat.pow_succ,←Nat.pow_add]
     exact Nat.pow_le_pow_right (by decide) (by omega)
    omega
   omega
  have e3:2^52 * 2^q≤pm x * (2*c):=by rw[hc];exact Nat.mul_le_mul_right _ a
  have e4:(2:Nat)^52 * 2^q=2*2^(q+51):=by rw[←Nat.pow_add,Nat.mul_comm 2,←Nat.pow_succ];congr 1;omega
  have e5:(2:Nat)^(q+51)=2*2^(q+50):=by rw[Nat.mul_comm 2,←Nat.pow_succ]
  omega
 ·right
  have hx:pm y * (2*c)=pm y * 2^(q-(pe x - pe y)) * 2^(pe x - pe y):=by
   rw[hc,Nat.mul_assoc,←Nat.pow_add];congr 2;omega
  rw[stk_exact hx,dec_parts]
  rw[show pe x - 1=(pe x - pe y)+(pe y - 1) by omega,Nat.pow_add,←Nat.mul_assoc,←hx,Nat.mul_comm (pm y),Nat.mul_assoc]
theorem dec_le {x y:Nat} (hx:x≤inf) (hy:y≤inf) (h:y≤x):dec y≤dec x:=by
 have:=dec_lt hx hy
 omega
theorem J0_sum {x y:Nat} (h:y≤x):J0 (dec x+dec y) (pe x) (pm x * 8+stk (pm y * 8) (pe x - pe y)):=by
 have e:=sum_stk h 4
 have a:=pm_lt x;have b:=pm_lt y
 have hle:stk (pm y * 8) (pe x - pe y)≤stk (2^53*8) 0:=by
  have h1:stk (pm y * 8) (pe x - pe y)≤stk (2^53*8) (pe x - pe y):=stk_mono _ (by omega)
  have hg:=(stk_spec (2^53*8) (pe x - pe y)).gt (2^53*4)
  have hs:=stk_spec (2^53*8) (pe x - pe y) (2^53*4)
  have:=Nat.two_pow_pos (pe x - pe y)
  rw[stk_zero]
  have:2*(2^53*4)*1≤2*(2^53*4)*2^(pe x - pe y):=Nat.mul_le_mul_left _ this
  omega
 rw[stk_zero] at hle
 refine ⟨pe_pos x,by omega,e.symm,?_⟩
 rcases Nat.lt_or_ge (pm x) (2^52) with h1|h1
 ·right
  have h2:pe x=1:=by
   unfold pm at h1;unfold pe
   split<;>simp_all<;>omega
  have:=pe_mono h;have:=pe_pos y
  rw[h2,show pe y=1 by omega]
  simp[stk_zero,dec_parts,h2,show pe y=1 by omega]
  omega
 ·left;omega
theorem J0_diff {x y:Nat} (hx:x≤inf) (h:y≤x):J0 (dec x - dec y) (pe x) (pm x * 8 - stk (pm y * 8) (pe x - pe y)):=by
 have hd:=dec_le hx (by omega) h
 have e:=diff_stk h hd 4
 have a:=pm_lt x;have b:=pm_lt y
 refine ⟨pe_pos x,by omega,e.symm,?_⟩
 rcases near_or (c:=4) (q:=3) h (by decide) (by decide) with h1|h1
 ·left;exact h1
 ·right
  rw[Nat.sub_mul,show (8:Nat)=2*4 from rfl,h1,Nat.mul_sub]
  congr 1
  rw[dec_parts,Nat.mul_comm (pm x),Nat.mul_assoc]
end Go.Proofs.YtoggpnfeioaidaaDoor.Fm
