/-
  To nearest, ties to even, in whole numbers: the code's three bits more.
-/
namespace Go.Proofs.Ytmlghmjjlpioeaa.Fm
def stk (x j:Nat):Nat:=if x % 2^j=0 then x / 2^j else x / 2^j / 2 * 2+1
def Stk (x j f:Nat):Prop:=∀ t,(2*t<f↔2*t*2^j<x)∧(2*t=f↔2*t*2^j=x)
theorem Stk.uniq {x j f g:Nat}(h:Stk x j f)(h':Stk x j g):f=g:=by
 have a:=h (f/2);have b:=h' (f/2);have c:=h (f/2+1);have d:=h' (f/2+1)
 omega
theorem Stk.gt {x j f:Nat}(h:Stk x j f)(t:Nat):f<2*t↔x<2*t*2^j:=by
 have:=h t;omega
theorem stk_spec (x j:Nat):Stk x j (stk x j):=by
 intro t
 have hp:0<2^j:=Nat.two_pow_pos j
 have hx:=Nat.div_add_mod x (2^j)
 have hr:=Nat.mod_lt x hp
 unfold stk
 generalize 2^j=P at *
 generalize x / P=q at *
 generalize x % P=r at *
 subst hx
 have lt:∀ s,s≤q→P * s≤P * q:=fun s h=>Nat.mul_le_mul_left P h
 have gt:∀ s,q+1≤s→P * (q+1)≤P * s:=fun s h=>Nat.mul_le_mul_left P h
 have e:2*t*P=P*(2*t):=Nat.mul_comm _ _
 rw[e]
 have m:P * (q+1)=P*q+P:=Nat.mul_succ P q
 have l1:=lt (2*t);have g1:=gt (2*t)
 split
 ·rename_i h0
  subst h0
  constructor
  ·constructor
   ·intro h
    have:P * (2*t+1)≤P*q:=lt _ (by omega)
    have:P * (2*t+1)=P*(2*t)+P:=Nat.mul_succ _ _
    omega
   ·intro h
    rcases Nat.lt_or_ge (2*t) q with h1|h1
    ·exact h1
    ·have:P*q≤P*(2*t):=Nat.mul_le_mul_left P h1
     omega
  ·constructor
   ·intro h;rw[h];omega
   ·intro h
    exact Nat.eq_of_mul_eq_mul_left hp (by omega)
 ·rename_i h0
  have h0':0<r:=Nat.pos_of_ne_zero h0
  constructor
  ·constructor
   ·intro h
    have:=l1 (by omega)
    omega
   ·intro h
    rcases Nat.lt_or_ge q (2*t) with h1|h1
    ·have:=g1 (by omega);omega
    ·omega
  ·constructor
   ·intro h;omega
   ·intro h
    rcases Nat.lt_or_ge q (2*t) with h1|h1
    ·have:=g1 (by omega);omega
    ·have:=l1 h1
     have h2:P*(2*t)=P*q+r:=h
     rcases Nat.lt_or_ge (2*t) q with h3|h3
     ·have:P*(2*t+1)≤P*q:=lt _ (by omega)
      have:P * (2*t+1)=P*(2*t)+P:=Nat.mul_succ _ _
      omega
     ·have:2*t=q:=by omega
      rw[this] at h2;omega
theorem stk_eq {x j f:Nat}(h:Stk x j f):stk x j=f:=(stk_spec x j).uniq h
theorem stk_zero (x:Nat):stk x 0=x:=by
 refine stk_eq fun t=>?_
 simp
theorem stk_stk (x i j:Nat):stk (stk x i) j=stk x (i+j):=by
 refine (stk_eq fun t=>?_)
 have h:=stk_spec x (i+j) t
 have h2:=stk_spec x i (t*2^j)
 have e1:2*t*2^(i+j)=2*(t*2^j)*2^i:=by
  rw[Nat.pow_add,Nat.mul_comm (2^i),←Nat.mul_assoc,Nat.mul_assoc 2 t]
 have e2:2*t*2^j=2*(t*2^j):=Nat.mul_assoc _ _ _
 rw[e1] at h
 rw[e2]
 exact ⟨h.1.trans h2.1.symm,h.2.trans h2.2.symm⟩
theorem stk_mul (x i j:Nat):stk (x*2^i) (j+i)=stk x j:=by
 refine (stk_eq fun t=>?_)
 have h:=stk_spec x j t
 have hp:0<2^i:=Nat.two_pow_pos i
 have e:2*t*2^(j+i)=(2*t*2^j)*2^i:=by rw[Nat.pow_add,←Nat.mul_assoc]
 rw[e]
 constructor
 ·rw[h.1]
  exact ⟨fun h=>Nat.mul_lt_mul_of_pos_right h hp,fun h=>Nat.lt_of_mul_lt_mul_right h⟩
 ·rw[h.2]
  exact ⟨fun h=>by rw[h],fun h=>Nat.eq_of_mul_eq_mul_right hp h⟩
theorem stk_exact {x j c:Nat}(h:x=c*2^j):stk x j=c:=by
 have:=stk_mul c j 0
 rw[Nat.zero_add] at this
 rw[h,this,stk_zero]
theorem stk_add {x y j c:Nat}(h:x=2*c*2^j):stk (x+y) j=2*c+stk y j:=by
 refine (stk_eq fun t=>?_)
 rcases Nat.lt_or_ge t c with ht|ht
 ·have h1:2*t*2^j<x:=by
   rw[h];exact Nat.mul_lt_mul_of_pos_right (by omega) (Nat.two_pow_pos j)
  omega
 ·have hs:=stk_spec y j (t - c)
  have e:2*(t-c)*2^j=2*t*2^j - 2*c*2^j:=by
   rw[←Nat.sub_mul,Nat.mul_sub]
  have le:2*c*2^j≤2*t*2^j:=Nat.mul_le_mul_right _ (by omega)
  rw[e] at hs
  omega
theorem stk_mono {x y:Nat}(j:Nat)(h:x≤y):stk x j≤stk y j:=by
 have a:=stk_spec x j (stk y j / 2);have b:=stk_spec y j (stk y j / 2)
 have c:=stk_spec x j (stk y j / 2+1);have d:=(stk_spec y j).gt (stk y j / 2+1)
 have e:=(stk_spec x j).gt (stk y j / 2+1)
 generalize stk x j=f at *
 generalize stk y j=g at *
 omega
def g (f:Nat):Nat:=f/4+(if f%4=3∨(f%4=2∧f/4%2=1) then 1 else 0)
theorem g_mono {a b:Nat}(h:a≤b):g a≤g b:=by
 unfold g
 split<;>split<;>omega
theorem g_four (a:Nat):g (4*a)=a:=by
 unfold g
 have:4*a%4=0:=by omega
 simp[this]
def rne (S k:Nat):Nat:=g (stk (4*S) k)
theorem rne_mono {S T:Nat}(k:Nat)(h:S≤T):rne S k≤rne T k:=g_mono (stk_mono k (by omega))
theorem rne_exact {S k c:Nat}(h:S=c*2^k):rne S k=c:=by
 unfold rne
 rw[stk_exact (c:=4*c) (by rw[h];rw[Nat.mul_assoc]),g_four]
def inf:Nat:=2047 * 2^52
def rk (S:Nat):Nat:=S.log2 - 52
def rnd (S:Nat):Nat:=min (rk S * 2^52+rne S (rk S)) inf
theorem rk_eq {S k:Nat}(h:k=0∨2^(52+k)≤S)(h':S<2^(53+k)):rk S=k:=by
 unfold rk
 rcases Nat.eq_zero_or_pos S with h0|h0
 ·subst h0
  rcases h with h|h
  ·subst h;rfl
  ·have:=Nat.two_pow_pos (52+k);omega
 ·have a:S.log2<53+k:=(Nat.log2_lt (by omega)).2 h'
  rcases h with h|h
  ·omega
  ·have:=(Nat.le_log2 (by omega)).2 h
   omega
theorem rk_spec (S:Nat):(rk S=0∨2^(52+rk S)≤S)∧S<2^(53+rk S):=by
 unfold rk
 have h2:S<2^(S.log2+1):=Nat.lt_log2_self
 constructor
 ·rcases Nat.lt_or_ge 52 S.log2 with h|h
  ·right
   have:52+(S.log2 - 52)=S.log2:=by omega
   rw[this]
   exact Nat.log2_self_le (by intro h;subst h;revert h;decide)
  ·left;omega
 ·exact Nat.lt_of_lt_of_le h2 (Nat.pow_le_pow_right (by decide) (by omega))
theorem rne_le {S k:Nat}(h:S<2^(53+k)):rne S k≤2^53:=by
 have:=rne_mono k (Nat.le_of_lt h)
 rwa [rne_exact (c:=2^53) (Nat.pow_add _ _ _)] at this
theorem rne_ge {S k:Nat}(h:2^(52+k)≤S):2^52≤rne S k:=by
 have:=rne_mono k h
 rwa [rne_exact (c:=2^52) (Nat.pow_add _ _ _)] at this
def dec (x:Nat):Nat:=if x<2^52 then x else (x % 2^52+2^52) * 2^(x/2^52 - 1)
theorem stk_ge {x j t:Nat}:2*t≤stk x j↔2*t*2^j≤x:=by
 have:=stk_spec x j t
 omega
end Go.Proofs.Ytmlghmjjlpioeaa.Fm
