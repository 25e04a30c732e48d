/-
  Trimmed: what add answers of one part that is not shifted.
-/
import Derived.Test.YtcblkndiclkacaaDoorMgTrim
namespace Go.Proofs.YtcblkndiclkacaaDoor
open Go.RowKit
theorem pl_flat {x:Pt} (h:x.sh=0) (i:Nat):x.pl i=x.off+(i:Int):=by
 unfold Pt.pl;rw[h];simp
theorem set_getD (C:List Nat) (i j n:Nat) (hj:j<C.length):(C.set j n).getD i 0=if i=j then n else C.getD i 0:=by
 by_cases h:i=j
 ·subst h;rw[if_pos rfl];simp[List.getD_eq_getElem?_getD,hj]
 ·rw[if_neg h];simp[List.getD_eq_getElem?_getD,List.getElem?_set_ne (show j≠i from fun e=>h e.symm)]
theorem afold_flat {x:Pt} (hok:x.Ok) (hsh:x.sh=0) (f0 t0:Nat) (h1:∀ i,i<f0→x.ct i=0) (h2:∀ i,t0≤i→x.ct i=0):∀ k,(afold (x.off+(f0:Int)) (List.replicate (t0 - f0) 0,false) (x.pls k)).2=false∧∀ i,i<t0 - f0→(afold (x.off+(f0:Int)) (List.replicate (t0 - f0) 0,false) (x.pls k)).1.getD i 0=if f0+i<k then x.ct (f0+i) else 0:=by
 intro k
 induction k with
 | zero =>
  refine ⟨rfl,fun i hi=>?_⟩
  rw[if_neg (by omega)]
  show (List.replicate (t0 - f0) 0).getD i 0=0
  simp[List.getD_eq_getElem?_getD,List.getElem?_replicate];split<;>rfl
 | succ k ih =>
  by_cases h0:x.ct k=0
  ·rw[pls_no h0]
   refine ⟨ih.1,fun i hi=>?_⟩
   rw[ih.2 i hi]
   by_cases he:f0+i=k
   ·rw[he,h0];simp
   ·by_cases hlt:f0+i<k
    ·rw[if_pos hlt,if_pos (by omega)]
    ·rw[if_neg hlt,if_neg (by omega)]
  ·have hk1:f0≤k:=Nat.le_of_not_lt fun h=>h0 (h1 k h)
   have hk2:k<t0:=Nat.lt_of_not_le fun h=>h0 (h2 k h)
   have hn9:x.ct k<18446744073709551616:=getD_lt9 hok.each k
   have hidx:(x.pl k - (x.off+(f0:Int))).toNat=k - f0:=by rw[pl_flat hsh];omega
   obtain ⟨s,hs⟩:∃ s,afold (x.off+(f0:Int)) (List.replicate (t0 - f0) 0,false) (x.pls k)=s:=⟨_,rfl⟩
   have hl:s.1.length=t0 - f0:=by rw[←hs];exact (afold_len _ _ _).trans List.length_replicate
   rw[hs] at ih
   have hg:=ih.2 (k - f0) (by omega)
   rw[show f0+(k - f0)=k by omega,if_neg (Nat.lt_irrefl k)] at hg
   have hst:afold (x.off+(f0:Int)) (List.replicate (t0 - f0) 0,false) (x.pls (k+1))=(s.1.set (k - f0) (x.ct k),false):=by
    rw[pls_yes h0,afold_app,hs]
    show (s.1.set (x.pl k - (x.off+(f0:Int))).toNat (usum (s.1.getD (x.pl k - (x.off+(f0:Int))).toNat 0) (x.ct k)),s.2||decide (18446744073709551616≤s.1.getD (x.pl k - (x.off+(f0:Int))).toNat 0+x.ct k))=_
    rw[hidx,hg,ih.1,show usum 0 (x.ct k)=x.ct k by unfold usum;omega,decide_eq_false (by omega)]
    rfl
   rw[hst]
   refine ⟨rfl,fun i hi=>?_⟩
   show (s.1.set (k - f0) (x.ct k)).getD i 0=_
   rw[set_getD _ _ _ _ (by omega)]
   by_cases he:i=k - f0
   ·rw[if_pos he,if_pos (by omega),he,show f0+(k - f0)=k by omega]
   ·rw[if_neg he,ih.2 i hi]
    by_cases hlt:f0+i<k
    ·rw[if_pos hlt,if_pos (by omega)]
    ·rw[if_neg hlt,if_neg (by omega)]
theorem aans_trim {x:Pt} (hok:x.Ok) (hsh:x.sh=0) (f0 t0:Nat) (hft:f0≤t0) (htl:t0≤x.cs.length) (h1:∀ i,i<f0→x.ct i=0) (h2:∀ i,t0≤i→x.ct i=0) (h3:f0<t0→x.ct f0≠0) (h4:f0<t0→x.ct (t0 - 1)≠0) :
  aans [x]=if f0=t0 then some (0,[]) else if 2147483647<x.off+(f0:Int) then none else some (x.off+(f0:Int),(x.cs.drop f0).take (t0 - f0)):=by
 have ha:allP [x]=x.pls x.cs.length:=by unfold allP;simp
 by_cases he:f0=t0
 ·rw[if_pos he]
  have hn:x.pls x.cs.length=[]:=List.eq_nil_iff_forall_not_mem.2 fun p hp=>by
   obtain ⟨i,hi,rfl⟩:=List.mem_map.1 hp
   have h5:x.ct i≠0:=by simpa using (List.mem_filter.1 hi).2
   rcases Nat.lt_or_ge i f0 with h|h
   ·exact h5 (h1 i h)
   ·exact h5 (h2 i (by omega))
  unfold aans
  rw[ha,hn];rfl
 ·have hlt:f0<t0:=by omega
  obtain ⟨f,t,hf⟩:∃ f t,efold (0,0) (allP [x])=(f,t):=⟨_,_,rfl⟩
  have hin:=(efold_in (allP [x]) (0,0) (Int.le_refl _)).2.2
  have hbd:=efold_bound (x.off+(f0:Int)) (x.off+(t0:Int)) (allP [x]) (0,0) (Int.le_refl _) (fun h=>absurd h (Int.lt_irrefl 0)) (fun p hp=>by
   rw[ha] at hp
   obtain ⟨i,hi,rfl⟩:=List.mem_map.1 hp
   have h5:x.ct i≠0:=by simpa using (List.mem_filter.1 hi).2
   have h6:f0≤i:=Nat.le_of_not_lt fun h=>h5 (h1 i h)
   have h7:i<t0:=Nat.lt_of_not_le fun h=>h5 (h2 i h)
   show x.off+(f0:Int)≤x.pl i∧x.pl i<x.off+(t0:Int)
   rw[pl_flat hsh];omega)
  rw[hf] at hin hbd
  have m1:f≤x.pl f0∧x.pl f0<t:=hin _ (allP_mem (List.mem_singleton.2 rfl) (by omega) (h3 hlt))
  have m2:f≤x.pl (t0 - 1)∧x.pl (t0 - 1)<t:=hin _ (allP_mem (List.mem_singleton.2 rfl) (by omega) (h4 hlt))
  rw[pl_flat hsh] at m1 m2
  have m3:x.off+(f0:Int)≤f∧t≤x.off+(t0:Int):=hbd (by show f<t;omega)
  obtain rfl:f=x.off+(f0:Int):=by omega
  obtain rfl:t=x.off+(t0:Int):=by omega
  have hA:=afold_flat hok hsh f0 t0 h1 h2 x.cs.length
  unfold aans
  rw[hf,ha]
  simp only
  rw[if_neg (by omega),if_neg he,show (x.off+(t0:Int) - (x.off+(f0:Int))).toNat=t0 - f0 by omega,hA.1]
  split
  ·rfl
  ·simp only[Bool.false_eq_true,if_false,Option.some.injEq,Prod.mk.injEq,true_and]
   have hl:(afold (x.off+(f0:Int)) (List.replicate (t0 - f0) 0,false) (x.pls x.cs.length)).1.length=t0 - f0:=(afold_len _ _ _).trans List.length_replicate
   refine List.ext_getElem ?_ fun i hi1 hi2=>?_
   ·rw[hl,List.length_take,List.length_drop];omega
   ·have h5:=hA.2 i (by omega)
    rw[if_pos (by omega),List.getD_eq_getElem?_getD,List.getElem?_eq_getElem hi1] at h5
    rw[List.getElem_take,List.getElem_drop]
    have h6:x.ct (f0+i)=x.cs[f0+i]'(by omega):=by unfold Pt.ct;rw[List.getD_eq_getElem?_getD,List.getElem?_eq_getElem (by omega)];rfl
    rw[h6] at h5
    exact h5
end Go.Proofs.YtcblkndiclkacaaDoor
