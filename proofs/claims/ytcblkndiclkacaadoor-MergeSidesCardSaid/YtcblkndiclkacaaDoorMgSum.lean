/-
  what add answers of one part is what the reference answers.
-/
import Derived.Test.YtcblkndiclkacaaDoorMgDense
namespace Go.Proofs.YtcblkndiclkacaaDoor
open Go.RowKit
theorem dfold_getD (f:Int) (i:Nat) (L:List (Int × Nat)) (h:∀ r∈L,(r.1 - f).toNat≠i):∀ C:List Nat,(dfold f C L).getD i 0=C.getD i 0:=by
 induction L with
 | nil=>intro C;rfl
 | cons p L ih =>
  intro C
  have h1:=ih (fun r hr=>h r (List.mem_cons_of_mem _ hr)) (C.set (p.1 - f).toNat p.2)
  have h2:=h p (List.mem_cons_self ..)
  show (dfold f (C.set (p.1 - f).toNat p.2) L).getD i 0=_
  rw[h1]
  simp[List.getD_eq_getElem?_getD,List.getElem?_set_ne h2]
theorem dfold_one (f:Int) (L:List (Int × Nat)) (q:Int × Nat) (C:List Nat):dfold f C (L++[q])=(dfold f C L).set (q.1 - f).toNat q.2:=by rw[dfold_app];rfl
structure RInv (x:Pt) (f:Int) (N k:Nat) (L:List (Int × Nat)):Prop where
 fold:afold f (List.replicate N 0,false) (x.pls k)=(dfold f (List.replicate N 0) L,false)
 inn:∀ q∈L,∃ i,i<k∧x.ct i≠0∧q.1=x.pl i
 lt:∀ L' q,L=L'++[q]→∀ r∈L',r.1<q.1
 nil:L=[]→x.pls k=[]
 ends:∀ p q,L.head? = some p→L.getLast? = some q→efold (0,0) (x.pls k)=(p.1,q.1+1)∧p.1≤q.1
theorem head_app {L:List (Int × Nat)} {q p:Int × Nat} (h:(L++[q]).head? = some p):(L=[]∧p=q)∨L.head? = some p:=by
 cases L with
 | nil=>simp at h;exact .inl ⟨rfl,h.symm⟩
 | cons a L=>simp at h;exact .inr (by simp[h])
theorem mgest_up {h l p:Int} (h1:h≤l) (h2:l≤p):mgest (h,l+1) p=(h,p+1):=by
 show (min (if h=l+1 then p else h) p,max (if h=l+1 then p+1 else l+1) (p+1))=_
 rw[if_neg (by omega),if_neg (by omega)]
 simp only[Prod.mk.injEq]
 omega
theorem rinv {x:Pt} (hok:x.Ok) (f:Int) (N:Nat) (hF:∀ i,i<x.cs.length→x.ct i≠0→f≤x.pl i∧x.pl i<f+(N:Int)):∀ k,k≤x.cs.length→(∀ L,rp (x.pls k)=some L→RInv x f N k L)∧(rp (x.pls k)=none→(afold f (List.replicate N 0,false) (x.pls k)).2=true):=by
 intro k
 induction k with
 | zero =>
  intro _
  refine ⟨fun L hL=>?_,fun h=>by cases h⟩
  obtain rfl:([]:List (Int × Nat))=L:=Option.some.inj hL
  exact ⟨rfl,(fun q hq=>by cases hq),(fun L' q h=>by simp at h),(fun _=>rfl),(fun p q h=>by cases h)⟩
 | succ k ih =>
  intro hk
  obtain ⟨ih1,ih2⟩:=ih (by omega)
  by_cases h0:x.ct k=0
  ·rw[pls_no h0]
   refine ⟨fun L hL=>?_,ih2⟩
   have h:=ih1 L hL
   exact ⟨by rw[pls_no h0];exact h.fold,(fun q hq=>by obtain ⟨i,h1,h2⟩:=h.inn q hq;exact ⟨i,by omega,h2⟩),h.lt,(fun hn=>by rw[pls_no h0];exact h.nil hn),by rw[pls_no h0];exact h.ends⟩
  ·have hk2:=hF k (by omega) h0
   have hn9:=getD_lt9 hok.each k
   have hn9':x.ct k<18446744073709551616:=hn9
   obtain ⟨n,hn⟩:∃ n,x.ct k=n:=⟨_,rfl⟩
   have hpls:=pls_yes h0
   rw[hn] at hpls hn9'
   rw[hpls,rp_app]
   cases hr:rp (x.pls k) with
   | none =>
    refine ⟨fun L hL=>by (cases hL),fun _=>?_⟩
    rw[afold_app]
    show ((afold f (List.replicate N 0,false) (x.pls k)).2||_)=true
    rw[ih2 hr];rfl
   | some L0 =>
    have I:=ih1 L0 hr
    have hlen:(dfold f (List.replicate N 0) L0).length=N:=(dfold_len _ _ _).trans List.length_replicate
    have hup:∀ q∈L0,f≤q.1∧q.1≤x.pl k:=fun q hq=>by
     obtain ⟨i,h1,h2,h3⟩:=I.inn q hq
     have h4:=hF i (by omega) h2
     have h5:=pl_mono (x:=x) (show i≤k by omega)
     omega
    have hin2:∀ q∈L0,∃ i,i<k+1∧x.ct i≠0∧q.1=x.pl i:=fun q hq=>by obtain ⟨i,h1,h2⟩:=I.inn q hq;exact ⟨i,by omega,h2⟩
    rcases last_split L0 with rfl|⟨L',q,rfl⟩
    ·refine ⟨fun L hL=>?_,fun h=>by cases h⟩
     obtain rfl:[(x.pl k,n)]=L:=Option.some.inj hL
     have hz:=dfold_getD f (x.pl k - f).toNat [] (fun r hr=>by cases hr) (List.replicate N 0)
     refine ⟨?_,?_,?_,(fun h=>by cases h),?_⟩
     ·rw[hpls,afold_app,I.fold]
      show ((dfold f (List.replicate N 0) []).set (x.pl k - f).toNat (usum ((dfold f (List.replicate N 0) []).getD (x.pl k - f).toNat 0) n),(false||decide (18446744073709551616≤(dfold f (List.replicate N 0) []).getD (x.pl k - f).toNat 0+n)))=_
      rw[hz,show (List.replicate N 0).getD (x.pl k - f).toNat 0=0 by simp[List.getD_eq_getElem?_getD,List.getElem?_replicate];split<;>rfl,show usum 0 n=n by unfold usum;omega,decide_eq_false (by omega)]
      rfl
     ·intro q hq
      rw[List.mem_singleton.1 hq]
      exact ⟨k,by omega,h0,rfl⟩
     ·intro L' q h r hr
      have h8:L'=[]:=by simpa using congrArg List.length h
      rw[h8] at hr;cases hr
     ·intro p q hp hq
      cases hp;cases hq
      rw[hpls,efold_app,I.nil rfl]
      refine ⟨?_,Int.le_refl _⟩
      show mgest (0,0) (x.pl k)=_
      show (min (if (0:Int)=0 then x.pl k else 0) (x.pl k),max (if (0:Int)=0 then x.pl k+1 else 0) (x.pl k+1))=_
      rw[if_pos rfl,if_pos rfl]
      simp
    ·have hq1:=hup q (List.mem_append_right _ (List.mem_singleton.2 rfl))
     have hends:∀ p,(L'++[q]).head? = some p→efold (0,0) (x.pls k)=(p.1,q.1+1)∧p.1≤q.1:=fun p hp=>I.ends p q hp (by simp)
     by_cases ha:q.1=x.pl k
     ·have hidx:(x.pl k - f).toNat<N:=by omega
      have hgd:(dfold f (List.replicate N 0) (L'++[q])).getD (x.pl k - f).toNat 0=q.2:=by
       rw[dfold_one,ha]
       have hl2:(dfold f (List.replicate N 0) L').length=N:=(dfold_len _ _ _).trans List.length_replicate
       simp[List.getD_eq_getElem?_getD,hl2,hidx]
      have hst:afold f (List.replicate N 0,false) (x.pls k++[(x.pl k,n)])=((dfold f (List.replicate N 0) (L'++[q])).set (x.pl k - f).toNat (usum q.2 n),decide (18446744073709551616≤q.2+n)):=by
       rw[afold_app,I.fold]
       show ((dfold f (List.replicate N 0) (L'++[q])).set (x.pl k - f).toNat (usum ((dfold f (List.replicate N 0) (L'++[q])).getD (x.pl k - f).toNat 0) n),(false||decide (18446744073709551616≤(dfold f (List.replicate N 0) (L'++[q])).getD (x.pl k - f).toNat 0+n)))=_
       rw[hgd];simp
      by_cases hs:q.2+n<18446744073709551616
      ·rw[plstep_sum L' q (x.pl k,n) ha hs]
       refine ⟨fun L hL=>?_,fun h=>by cases h⟩
       obtain rfl:L'++[(q.1,q.2+n)]=L:=Option.some.inj hL
       refine ⟨?_,?_,?_,(fun h=>by simp at h),?_⟩
       ·rw[hpls,hst,decide_eq_false (by omega),show usum q.2 n=q.2+n by unfold usum;omega,dfold_one,dfold_one,ha,List.set_set]
       ·intro r hr
        rcases List.mem_append.1 hr with hr|hr
        ·exact hin2 r (List.mem_append_left _ hr)
        ·rw[List.mem_singleton.1 hr];exact ⟨k,by omega,h0,ha⟩
       ·intro L2 q2 h r hr
        obtain ⟨h1,h2⟩:=List.append_inj' h rfl
        subst h1
        obtain rfl:=(List.cons.inj h2).1
        exact I.lt L' q rfl r hr
       ·intro p r hp hr
        obtain rfl:(q.1,q.2+n)=r:=by simpa using hr
        have hp2:∃ p',(L'++[q]).head? = some p'∧p'.1=p.1:=by
         rcases head_app hp with ⟨rfl,rfl⟩|hp
         ·exact ⟨q,rfl,rfl⟩
         ·exact ⟨p,by cases L' with|nil=>cases hp|cons a L'=>exact hp,rfl⟩
        obtain ⟨p',h1,h2⟩:=hp2
        have h3:=hends p' h1
        rw[hpls,efold_app,h3.1,←h2]
        exact ⟨(mgest_up h3.2 (by omega)).trans (by rw[ha]),h3.2⟩
      ·rw[plstep_over L' q (x.pl k,n) ha hs]
       refine ⟨fun L hL=>by (cases hL),fun _=>?_⟩
       rw[hst]
       exact decide_eq_true (by omega)
     ·rw[plstep_far L' q (x.pl k,n) ha]
      refine ⟨fun L hL=>?_,fun h=>by cases h⟩
      obtain rfl:L'++[q]++[(x.pl k,n)]=L:=Option.some.inj hL
      have hlt:∀ r∈L'++[q],r.1<x.pl k:=fun r hr=>by
       rcases List.mem_append.1 hr with hr|hr
       ·have:=I.lt L' q rfl r hr;omega
       ·rw[List.mem_singleton.1 hr];omega
      have hz:=dfold_getD f (x.pl k - f).toNat (L'++[q]) (fun r hr=>by have:=hlt r hr;have:=hup r hr;omega) (List.replicate N 0)
      refine ⟨?_,?_,?_,(fun h=>by simp at h),?_⟩
      ·rw[hpls,afold_app,I.fold]
       show ((dfold f (List.replicate N 0) (L'++[q])).set (x.pl k - f).toNat (usum ((dfold f (List.replicate N 0) (L'++[q])).getD (x.pl k - f).toNat 0) n),(false||decide (18446744073709551616≤(dfold f (List.replicate N 0) (L'++[q])).getD (x.pl k - f).toNat 0+n)))=_
       rw[hz,show (List.replicate N 0).getD (x.pl k - f).toNat 0=0 by simp[List.getD_eq_getElem?_getD,List.getElem?_replicate];split<;>rfl,show usum 0 n=n by unfold usum;omega,decide_eq_false (by omega),dfold_one f (L'++[q])]
       rfl
      ·intro r hr
       rcases List.mem_append.1 hr with hr|hr
       ·exact hin2 r hr
       ·rw[List.mem_singleton.1 hr];exact ⟨k,by omega,h0,rfl⟩
      ·intro L2 q2 h r hr
       obtain ⟨h1,h2⟩:=List.append_inj' h rfl
       subst h1
       obtain rfl:=(List.cons.inj h2).1
       exact hlt r hr
      ·intro p r hp hr
       obtain rfl:(x.pl k,n)=r:=by simpa using hr
       have hp2:(L'++[q]).head? = some p:=by
        rcases head_app hp with ⟨h,_⟩|hp
        ·simp at h
        ·exact hp
       have h3:=hends p hp2
       rw[hpls,efold_app,h3.1]
       exact ⟨mgest_up h3.2 (by omega),by have:p.1≤q.1:=h3.2;show p.1≤x.pl k;omega⟩
theorem aans_rans {x:Pt} (hok:x.Ok):aans [x]=(match rp (x.pls x.cs.length) with|none=>none|some L=>dans L):=by
 have ha:allP [x]=x.pls x.cs.length:=by unfold allP;simp
 obtain ⟨f,t,hft⟩:∃ f t,efold (0,0) (allP [x])=(f,t):=⟨_,_,rfl⟩
 have hb:=one_ends hok hft
 have hin:=(efold_in (allP [x]) (0,0) (Int.le_refl _)).2.2
 rw[hft] at hin
 have hN:((t - f).toNat:Int)=t - f:=by omega
 have hR:=rinv hok f (t - f).toNat (fun i hi h0=>by
  have h:f≤x.pl i∧x.pl i<t:=hin _ (allP_mem (List.mem_singleton.2 rfl) hi h0)
  omega) x.cs.length (Nat.le_refl _)
 unfold aans
 rw[hft,ha]
 rw[ha] at hft
 simp only
 cases hr:rp (x.pls x.cs.length) with
 | none =>
  simp only
  by_cases h1:f=t
  ·exfalso
   have hn:x.pls x.cs.length=[]:=List.eq_nil_iff_forall_not_mem.2 fun p hp=>by
    have h:f≤p.1∧p.1<t:=hin p (by rw[ha];exact hp)
    omega
   rw[hn] at hr;cases hr
  ·rw[if_neg h1]
   split
   ·rfl
   ·rw[if_pos (hR.2 hr)]
 | some L =>
  have I:=hR.1 L hr
  simp only
  rcases last_split L with rfl|⟨L',q,rfl⟩
  ·have hn:=I.nil rfl
   rw[hn] at hft
   obtain ⟨rfl,rfl⟩:=Prod.mk.inj (hft:((0:Int),(0:Int))=(f,t))
   rw[if_pos rfl];rfl
  ·obtain ⟨p,hp⟩:∃ p,(L'++[q]).head? = some p:=⟨_,List.head?_eq_some_head (by simp)⟩
   have hq:(L'++[q]).getLast? = some q:=by simp
   have h3:=I.ends p q hp hq
   rw[hft] at h3
   obtain ⟨h4,h5⟩:=h3
   obtain ⟨rfl,rfl⟩:=Prod.mk.inj h4
   rw[if_neg (by omega),I.fold]
   unfold dans
   rw[hp,hq]
   simp only
   split
   ·rfl
   ·rw[show q.1+1 - p.1=q.1 - p.1+1 by omega];rfl
end Go.Proofs.YtcblkndiclkacaaDoor
