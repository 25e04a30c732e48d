/-
  Shifted by some and by some more: shifted by both.
-/
import Derived.Test.YtcblkndiclkacaaDoorMgSat
import Derived.Test.YtcblkndiclkacaaDoorMgUni
namespace Go.Proofs.YtcblkndiclkacaaDoor
open Go.RowKit
def sumN (F:Nat→Nat):Nat→Nat
 | 0=>0
 | n+1=>sumN F n+F n
theorem sumN_add (F G:Nat→Nat) (n:Nat):sumN (fun j=>F j+G j) n=sumN F n+sumN G n:=by
 induction n with
 | zero=>rfl
 | succ n ih=>simp only[sumN,ih];omega
theorem sumN_congr {F G:Nat→Nat} {n:Nat} (h:∀ j,j<n→F j=G j):sumN F n=sumN G n:=by
 induction n with
 | zero=>rfl
 | succ n ih=>simp only[sumN];rw[ih fun j hj=>h j (by omega),h n (by omega)]
theorem sumN_zero (n:Nat):sumN (fun _=>0) n=0:=by
 induction n with
 | zero=>rfl
 | succ n ih=>simp only[sumN,ih]
theorem sumN_one (k v n:Nat):sumN (fun j=>if j=k then v else 0) n=if k<n then v else 0:=by
 induction n with
 | zero=>rfl
 | succ n ih =>
  simp only[sumN,ih]
  by_cases h:k<n
  ·rw[if_pos h,if_neg (show ¬n=k by omega),if_pos (show k<n+1 by omega)];rfl
  ·by_cases h2:n=k
   ·rw[if_neg h,if_pos h2,if_pos (show k<n+1 by omega)];omega
   ·rw[if_neg h,if_neg h2,if_neg (show ¬k<n+1 by omega)]
theorem allP_one (x:Pt):allP [x]=x.pls x.cs.length:=by unfold allP;simp
theorem sat_pls (x:Pt) (k:Nat) (p:Int):sat (x.pls k) p=sumN (fun i=>if x.pl i=p then x.ct i else 0) k:=by
 induction k with
 | zero=>rw[pls_zero];rfl
 | succ k ih =>
  simp only[sumN]
  by_cases h:x.ct k=0
  ·rw[pls_no h,ih,h];split<;>rfl
  ·rw[pls_yes h,sat_app,ih];simp only[sat];omega
theorem sat_group (g:Int→Int) (o:Int) (N:Nat) (p:Int) (l:List (Int × Nat)):(∀ q∈l,o≤q.1∧q.1<o+(N:Int)) →
  sumN (fun j=>if g (o+(j:Int))=p then sat l (o+(j:Int)) else 0) N=sat (l.map fun q=>(g q.1,q.2)) p:=by
 induction l with
 | nil =>
  intro _
  simp only[sat,List.map_nil]
  rw[sumN_congr (G:=fun _=>0) (fun j _=>by split<;>rfl),sumN_zero]
 | cons x l ih =>
  intro h
  have hx:=h x (by simp)
  obtain ⟨k,hk⟩:∃ k,(x.1 - o).toNat=k:=⟨_,rfl⟩
  simp only[sat,List.map_cons]
  rw[←ih fun q hq=>h q (by simp[hq])]
  have hp:∀ j:Nat,(if g (o+(j:Int))=p then (if x.1=o+(j:Int) then x.2 else 0)+sat l (o+(j:Int)) else 0)=(if j=k then (if g x.1=p then x.2 else 0) else 0)+(if g (o+(j:Int))=p then sat l (o+(j:Int)) else 0):=fun j=>by
   by_cases hj:j=k
   ·have:o+(j:Int)=x.1:=by omega
    rw[this,if_pos rfl,if_pos hj]
    split<;>omega
   ·rw[if_neg (show ¬x.1=o+(j:Int) by omega),if_neg hj]
    split<;>omega
  rw[sumN_congr fun j _=>hp j,sumN_add,sumN_one,if_pos (by omega)]
theorem pls_more (o:Int) (cs:List Nat) (m n k:Nat):(⟨o,cs,m+n⟩:Pt).pls k=((⟨o,cs,m⟩:Pt).pls k).map fun q=>(q.1 / 2 ^ n,q.2):=by
 unfold Pt.pls
 rw[List.map_map]
 refine List.map_congr_left fun i _=>?_
 show ((o+(i:Int)) / 2 ^ (m+n),cs.getD i 0)=((o+(i:Int)) / 2 ^ m / 2 ^ n,cs.getD i 0)
 rw[Int.ediv_ediv_of_nonneg (Int.le_of_lt (Int.pow_pos (by omega))),Int.pow_add]
theorem sat_mem {l:List (Int × Nat)} {p:Int} (h:sat l p≠0):∃ q∈l,q.1=p:=by
 apply Classical.byContradiction
 intro hc
 exact h (sat_zero fun q hq he=>hc ⟨q,hq,he⟩)
theorem pls_at {x:Pt} {k:Nat} {q:Int × Nat} (h:q∈x.pls k):∃ i,i<k∧q=(x.pl i,x.ct i):=by
 obtain ⟨i,hi,rfl⟩:=List.mem_map.1 h
 exact ⟨i,List.mem_range.1 (List.mem_filter.1 hi).1,rfl⟩
theorem aans_ok {x:Pt} (hok:x.Ok) {o:Int} {C:List Nat} (h:aans [x]=some (o,C)) : -2147483648≤o∧o≤2147483647∧C.length≤x.cs.length∧∀ n∈C,n<18446744073709551616:=by
 obtain ⟨hI,ho,hp⟩:=(aans_sum [x]).1 o C h
 have he:∀ n∈C,n<18446744073709551616:=fun n hn=>by
  obtain ⟨i,hi,rfl⟩:=List.mem_iff_getElem.1 hn
  have hg:=hI.at' i hi
  rw[List.getD_eq_getElem?_getD,List.getElem?_eq_getElem hi] at hg
  simp at hg
  rw[hg]
  exact hp _
 by_cases hn:C=[]
 ·have:=hI.nil hn
  subst hn
  exact ⟨by omega,ho,by simp,he⟩
 ·have hl:=List.length_pos_iff.2 hn
  have e1:=hI.at' 0 hl
  have e2:=hI.at' (C.length - 1) (by omega)
  rw[Int.ofNat_zero,Int.add_zero] at e1
  obtain ⟨q1,h1,g1⟩:=sat_mem (by rw[←e1];exact hI.fst hn)
  obtain ⟨q2,h2,g2⟩:=sat_mem (by rw[←e2];exact hI.lst hn)
  rw[allP_one] at h1 h2
  obtain ⟨i,hi,rfl⟩:=pls_at h1
  obtain ⟨k,hk,rfl⟩:=pls_at h2
  simp only[] at g1 g2
  have hlen:=hok.len
  have b1:=pl_bound hok (i:=i) (by omega)
  have b2:=pl_mono (x:=x) (Nat.zero_le i)
  have b3:=pl_far x k
  exact ⟨by omega,ho,by omega,he⟩
theorem aans_steps {o o':Int} {cs C:List Nat} {m n:Nat} (h:aans [⟨o,cs,m⟩]=some (o',C)):aans [⟨o',C,n⟩]=aans [⟨o,cs,m+n⟩]:=by
 obtain ⟨hI,ho,hp⟩:=(aans_sum _).1 o' C h
 refine aans_same fun p=>?_
 rw[allP_one,allP_one,sat_pls]
 show sumN (fun i=>if (o'+(i:Int)) / 2 ^ n=p then C.getD i 0 else 0) C.length=sat ((⟨o,cs,m+n⟩:Pt).pls cs.length) p
 rw[pls_more,←sat_group (fun y=>y / 2 ^ n) o' C.length p]
 ·refine sumN_congr fun j hj=>?_
  rw[hI.at' j hj,allP_one]
 ·intro q hq
  have hz:sat (allP [⟨o,cs,m⟩]) q.1≠0:=sat_pos (by rw[allP_one];exact hq) (allP_nz (ps:=[⟨o,cs,m⟩]) (by rw[allP_one];exact hq))
  have hi:¬(q.1<o'∨o'+(C.length:Int)≤q.1):=fun hh=>hz (hI.out _ hh)
  omega
end Go.Proofs.YtcblkndiclkacaaDoor
