/-
  FrN, MgSat
-/
import Derived.Test.YtoggpnfeioaidaaDoorMgPlaces
import Derived.Test.YtoggpnfeioaidaaDoorFrV
import Derived.Test.YtoggpnfeioaidaaDoorErrNew
import Derived.Test.YtoggpnfeioaidaaDoorMgEach
import Derived.Test.YtoggpnfeioaidaaDoorMgAdd1
set_option maxRecDepth 1000000
set_option maxHeartbeats 16000000
namespace Go.Proofs.YtoggpnfeioaidaaDoor
open Go.RowKit
theorem set_getD (C:List Nat) (i j n:Nat) (hj:j<C.length):(C.set j n).getD i 0=if i=j then n else C.getD i 0:=by
 by_cases h:i=j
 ·subst h;rw[if_pos rfl];simp[List.getD_eq_getElem?_getD,hj]
 ·rw[if_neg h];simp[List.getD_eq_getElem?_getD,List.getElem?_set_ne (show j≠i from fun e=>h e.symm)]
open Go.RowKit
def NcPost (l:List Nat) (w:World) (e:Ending) (w':World):Prop:=Below w.heap.size w w'∧∃ lo cap,e = .returned (.slice lo l.length cap)∧w'.ownsRow w.heap.size 23 1 (.slice lo l.length cap) l.length (nvals l)
theorem frnum_any (n:Nat) (w:World):Calls Tryd.prog 71 #[.int .u64 (n:Int)] w fun e w'=>e = .returned (.int .u64 (n:Int))∧w=w':=by
 go_enter Tryd.func71,Tryd.ntmps71
 go_wp2_with fail
 go_ret
 exact ⟨rfl,rfl⟩
theorem frlistn_any (l:List Nat) (lo:Option Addr) (cap:Nat) (w:World) (hl:l.length≤1000000) (hN:Hid (Nats .u64 w lo l)) :
  Calls Tryd.prog 70 #[.slice lo l.length cap,.func (.func 71) #[] #[]] w (NcPost l w):=by
 by_cases h0:l.length=0
 ·obtain rfl:l=[]:=List.length_eq_zero_iff.1 h0
  have d1:(((([]:List Nat).length:Nat):Int) == 0)=true:=rfl
  go_enter Tryd.func70,Tryd.ntmps70
  go_wp2_with fail
  go_ret
  exact ⟨Below.refl _ _,none,0,rfl,World.ownsRow_nil _ _ _ _⟩
 ·have d1:((l.length:Int) == 0)=false:=by rw[beq_eq_false_iff_ne];omega
  have hpos:0<l.length:=by omega
  clear h0
  obtain ⟨i0,hi,hz0,hz1,hz2⟩:=info_parts Tryd.elU64n.2.1
  go_enter Tryd.func70,Tryd.ntmps70
  go_wp2_with (at_make;refine wpList_make_full _ rfl _ _ 26 rfl w.heap.size 23 i0 (.int .u64 0) 1 Tryd.underlying26 hi hz0 hz1 _ _ _ _ l.length rfl rfl rfl rfl (by rw[hz2];omega) (by unfold maxLen;omega) (Nat.le_refl _) ?_;intro w1 hown hgrow)
  have hrows:(madeCells (Value.int .u64 0).cells (l.length * 1)).toList=nvals (List.replicate l.length 0):=by
   rw[Nat.mul_one];exact (toList_madeCells_one _ _).trans (by simp[nvals])
  rw[hrows] at hown
  have HB1:Hid (Below w.heap.size w w1):=Lib.hid ((Upd.of_grown hgrow).below (Nat.le_refl _) (fun k _ hk=>by cases hk))
  obtain ⟨g,HG⟩:∃ g,Hid (w.heap.size=g):=⟨_,Lib.hid rfl⟩
  rw[HG.out] at hown ⊢
  have HO1:=Lib.hid hown
  clear hown hgrow hrows
  go_loopg [16] l.length (fun k i wr=>∃ (j:Nat) (C:List Nat),i = .int .i64 (j:Int)∧j+k=l.length∧C.length=l.length∧Hid (Below g w wr)∧Hid (wr.ownsRow g 23 1 (.slice (some ⟨g,0,none⟩) l.length l.length) l.length (nvals C))∧Hid (∀ i,i<j→C.getD i 0=l.getD i 0))
  case atStart=>exact ⟨0,List.replicate l.length 0,rfl,by omega,by simp,Lib.hid (by rw[←HG.out];exact HB1.out),HO1,Lib.hid (fun i h=>absurd h (by omega))⟩
  case round =>
   obtain ⟨j,C,rfl,hj,hcl,HB,HO,HE⟩:=hrel
   have HJ:=Lib.hid hj
   have HCL:=Lib.hid hcl
   clear hj hcl
   by_cases hlt:j<l.length
   ·have hblw:Below w.heap.size w wr:=by rw[HG.out];exact HB.out
    obtain ⟨ga,oa,n,HNN,rfl,hga,hca⟩:=(hN.out.below hblw).at hlt
    have i1:(j:Int)<(l.length:Int):=by omega
    have i0:(0:Int)≤(j:Int):=by omega
    clear hblw
    go_wp2_with fail
    refine (frnum_any n wr).mono ?_
    rintro E w2 ⟨rfl,rfl⟩
    have hfz:wr.frozen? ⟨g,j,none⟩=false:=HO.out.frozenAt j
    have hce:wr.cell? ⟨g,j,none⟩=some (.int .u64 ((C.getD j 0:Nat):Int)):=(HO.out.cellAt j (by omega)).trans (nvals_at C j (by have:=HCL.out;omega))
    have HST:=Lib.hid (HO.out.stored j (.int .u64 (n:Int))).1
    rw[nvals_set] at HST
    have HB2:Hid (Below g w (wr.setCell ⟨g,j,none⟩ (.int .u64 (n:Int)))):=Lib.hid (HB.out.trans ((Upd.set wr ⟨g,j,none⟩ (.int .u64 (n:Int))).below (by have h1:=HG.out;have h2:=HB.out.size;omega) (fun k _ hk=>by have hk:k=g:=hk;omega)))
    have HE2:Hid (∀ i,i<j+1→(C.set j n).getD i 0=l.getD i 0):=Lib.hid (fun i hi=>by
     rw[set_getD C i j n (by have:=HCL.out;omega)]
     by_cases he:i=j
     ·rw[if_pos he,he,HNN.out,List.getD_eq_getElem?_getD,List.getElem?_eq_getElem hlt];rfl
     ·rw[if_neg he];exact HE.out i (by omega))
    go_wp2_with fail
    have hj:=HJ.out
    go_roundg (gk - 1)
    case measure=>omega
    case rel=>exact ⟨j+1,C.set j n,by simp,by omega,by rw[List.length_set];exact HCL.out,HB2,HST,HE2⟩
   ·have hje:j=l.length:=by have:=HJ.out;omega
    subst hje
    have hCl:C=l:=List.ext_getElem HCL.out fun i h1 h2=>by
     have h:=HE.out i h2
     rw[List.getD_eq_getElem?_getD,List.getElem?_eq_getElem h1,List.getD_eq_getElem?_getD,List.getElem?_eq_getElem h2] at h
     simpa using h
    rw[hCl] at HO
    clear hCl
    go_wp2_with fail
    go_ret
    refine ⟨by rw[HG.out];exact HB.out,_,_,rfl,?_⟩
    rw[HG.out]
    exact HO.out
theorem frnums_any (l:List Nat) (lo:Option Addr) (cap:Nat) (w:World) (hl:l.length≤1000000) (hN:Hid (Nats .u64 w lo l)) :
  Calls Tryd.prog 54 #[.slice lo l.length cap] w (NcPost l w):=by
 go_enter Tryd.func54,Tryd.ntmps54
 go_wp2_with fail
 refine (frlistn_any l lo cap w hl hN).mono ?_
 rintro E w1 ⟨hb,lo1,cap1,rfl,hr⟩
 have HB:=Lib.hid hb
 have HR:=Lib.hid hr
 clear hb hr
 go_wp2_with fail
 go_ret
 exact ⟨HB.out,lo1,cap1,rfl,HR.out⟩
open Go.RowKit
def sat:List (Int × Nat)→Int→Nat
 | [],_=>0
 | x::l,p=>(if x.1=p then x.2 else 0)+sat l p
theorem sat_app (a b:List (Int × Nat)) (p:Int):sat (a++b) p=sat a p+sat b p:=by
 induction a with
 | nil=>simp[sat]
 | cons x a ih=>simp only[List.cons_append,sat,ih];omega
theorem sat_zero {l:List (Int × Nat)} {p:Int} (h:∀ q∈l,q.1≠p):sat l p=0:=by
 induction l with
 | nil=>rfl
 | cons x l ih=>simp only[sat];rw[if_neg (h x (by simp)),ih fun q hq=>h q (by simp[hq])]
theorem sat_pos {l:List (Int × Nat)} {q:Int × Nat} (h:q∈l) (hq:q.2≠0):sat l q.1≠0:=by
 induction l with
 | nil=>simp at h
 | cons x l ih =>
  simp only[sat]
  rcases List.mem_cons.1 h with rfl|h
  ·rw[if_pos rfl];omega
  ·have:=ih h;omega
theorem afold_sat (f:Int) (N:Nat) (l:List (Int × Nat)):∀ (C:List Nat) (e:Bool),C.length=N→(∀ j,C.getD j 0<18446744073709551616)→(∀ q∈l,f≤q.1∧q.1<f+(N:Int)) →
  ((afold f (C,e) l).2=false↔e=false∧∀ j,j<N→C.getD j 0+sat l (f+(j:Int))<18446744073709551616) ∧
  ((afold f (C,e) l).2=false→∀ j,j<N→(afold f (C,e) l).1.getD j 0=C.getD j 0+sat l (f+(j:Int))):=by
 induction l with
 | nil =>
  intro C e _ hC _
  exact ⟨⟨fun h=>⟨h,fun j _=>by simpa [sat] using hC j⟩,fun h=>h.1⟩,fun _ j _=>by simp[sat,afold]⟩
 | cons x l ih =>
  intro C e hl hC hq
  have hx:=hq x (by simp)
  obtain ⟨k,hk⟩:∃ k,(x.1 - f).toNat=k:=⟨_,rfl⟩
  have hkN:k<N:=by omega
  have hxk:x.1=f+(k:Int):=by omega
  have hs:∀ j,(x.1=f+((j:Nat):Int))↔j=k:=fun j=>by omega
  have hstep:afold f (C,e) (x::l)=afold f (C.set k (usum (C.getD k 0) x.2),e||decide (18446744073709551616≤C.getD k 0+x.2)) l:=by
   show afold f (astep f (C,e) x) l=_
   unfold astep
   rw[hk]
  rw[hstep]
  have hg:∀ j,(C.set k (usum (C.getD k 0) x.2)).getD j 0=if j=k then usum (C.getD k 0) x.2 else C.getD j 0:=fun j=>set_getD C j k _ (by omega)
  have hl':(C.set k (usum (C.getD k 0) x.2)).length=N:=by simpa using hl
  have hC':∀ j,(C.set k (usum (C.getD k 0) x.2)).getD j 0<18446744073709551616:=fun j=>by
   rw[hg]
   split
   ·exact usum_lt _ _
   ·exact hC j
  by_cases ho:18446744073709551616≤C.getD k 0+x.2
  ·rw[decide_eq_true ho,Bool.or_true]
   have hi:=(ih _ true hl' hC' (fun q h=>hq q (by simp[h]))).1
   have hf:¬(afold f (C.set k (usum (C.getD k 0) x.2),true) l).2=false:=fun h=>by simpa using (hi.1 h).1
   refine ⟨⟨fun h=>absurd h hf,fun h=>?_⟩,fun h=>absurd h hf⟩
   have:=h.2 k hkN
   simp only[sat] at this
   rw[if_pos hxk] at this
   omega
  ·rw[decide_eq_false ho,Bool.or_false]
   have hu:usum (C.getD k 0) x.2=C.getD k 0+x.2:=by unfold usum;omega
   have hsum:∀ j,(C.set k (usum (C.getD k 0) x.2)).getD j 0+sat l (f+(j:Int))=C.getD j 0+sat (x::l) (f+(j:Int)):=fun j=>by
    rw[hg,hu]
    simp only[sat]
    by_cases hj:j=k
    ·rw[if_pos hj,if_pos ((hs j).2 hj),hj];omega
    ·rw[if_neg hj,if_neg (fun h=>hj ((hs j).1 h))];omega
   have hi:=ih _ e hl' hC' (fun q h=>hq q (by simp[h]))
   simp only[hsum] at hi
   exact hi
theorem efold_hit (l:List (Int × Nat)):∀ s:Int × Int,s.1<s.2→((efold s l).1=s.1∨∃ q∈l,q.1=(efold s l).1)∧((efold s l).2=s.2∨∃ q∈l,q.1+1=(efold s l).2):=by
 induction l with
 | nil=>intro s _;exact ⟨.inl rfl,.inl rfl⟩
 | cons x l ih =>
  intro s hs
  have he:efold s (x::l)=efold (mgest s x.1) l:=rfl
  have h1:(mgest s x.1).1=min s.1 x.1:=by show min (if s.1=s.2 then x.1 else s.1) x.1=_;rw[if_neg (by omega)]
  have h2:(mgest s x.1).2=max s.2 (x.1+1):=by show max (if s.1=s.2 then x.1+1 else s.2) (x.1+1)=_;rw[if_neg (by omega)]
  obtain ⟨h3,h4⟩:=ih (mgest s x.1) (by omega)
  rw[he]
  refine ⟨?_,?_⟩
  ·clear h4
   rcases h3 with h3|⟨q,hq,h3⟩
   ·rcases Int.le_total s.1 x.1 with h|h
    ·exact .inl (by omega)
    ·exact .inr ⟨x,by simp,by omega⟩
   ·exact .inr ⟨q,by simp[hq],h3⟩
  ·clear h3
   rcases h4 with h4|⟨q,hq,h4⟩
   ·rcases Int.le_total (x.1+1) s.2 with h|h
    ·exact .inl (by omega)
    ·exact .inr ⟨x,by simp,by omega⟩
   ·exact .inr ⟨q,by simp[hq],h4⟩
theorem efold_some {l:List (Int × Nat)} (h:l≠[]):(efold (0,0) l).1<(efold (0,0) l).2∧(∃ q∈l,q.1=(efold (0,0) l).1)∧∃ q∈l,q.1+1=(efold (0,0) l).2:=by
 cases l with
 | nil=>exact absurd rfl h
 | cons x l =>
  have hin:=(efold_in (x::l) (0,0) (Int.le_refl _)).2.2 x (by simp)
  have h1:mgest (0,0) x.1=(x.1,x.1+1):=by
   show (min (if (0:Int)=0 then x.1 else 0) x.1,max (if (0:Int)=0 then x.1+1 else 0) (x.1+1))=_
   rw[if_pos rfl,if_pos rfl,Int.min_self,Int.max_self]
  have he:efold (0,0) (x::l)=efold (x.1,x.1+1) l:=by
   show efold (mgest (0,0) x.1) l=_
   rw[h1]
  have hh:=efold_hit l (x.1,x.1+1) (by show x.1<x.1+1;omega)
  rw[←he] at hh
  refine ⟨by omega,?_,?_⟩
  ·rcases hh.1 with h|⟨q,hq,h⟩
   ·exact ⟨x,by simp,h.symm⟩
   ·exact ⟨q,by simp[hq],h⟩
  ·rcases hh.2 with h|⟨q,hq,h⟩
   ·exact ⟨x,by simp,h.symm⟩
   ·exact ⟨q,by simp[hq],h⟩
structure IsSum (S:Int→Nat) (o:Int) (C:List Nat):Prop where
 at':∀ j,j<C.length→C.getD j 0=S (o+(j:Int))
 out:∀ p,p<o∨o+(C.length:Int)≤p→S p=0
 nil:C=[]→o=0
 fst:C≠[]→C.getD 0 0≠0
 lst:C≠[]→C.getD (C.length - 1) 0≠0
theorem IsSum.uniq {S:Int→Nat} {o o':Int} {C C':List Nat} (h:IsSum S o C) (h':IsSum S o' C'):o=o'∧C=C':=by
 have hp:∀ {o o':Int} {C C':List Nat},IsSum S o C→IsSum S o' C'→C≠[]→C'≠[]∧o'≤o∧o+(C.length:Int)≤o'+(C'.length:Int):=fun {o o' C C'} h h' hn=>by
  have hl:0<C.length:=List.length_pos_iff.2 hn
  have e1:S o≠0:=by have:=h.at' 0 hl;rw[Int.ofNat_zero,Int.add_zero] at this;rw[←this];exact h.fst hn
  have e2:S (o+((C.length - 1:Nat):Int))≠0:=by rw[←h.at' (C.length - 1) (by omega)];exact h.lst hn
  have i1:¬(o<o'∨o'+(C'.length:Int)≤o):=fun hh=>e1 (h'.out o hh)
  have i2:¬(o+((C.length - 1:Nat):Int)<o'∨o'+(C'.length:Int)≤o+((C.length - 1:Nat):Int)):=fun hh=>e2 (h'.out _ hh)
  refine ⟨fun hc=>?_,by omega,by omega⟩
  rw[hc] at i1
  simp at i1
  omega
 by_cases hn:C=[]
 ·by_cases hn':C'=[]
  ·exact ⟨by rw[h.nil hn,h'.nil hn'],by rw[hn,hn']⟩
  ·exact absurd hn (hp h' h hn').1
 ·obtain ⟨hn',a1,a2⟩:=hp h h' hn
  obtain ⟨_,b1,b2⟩:=hp h' h hn'
  have ho:o=o':=by omega
  have hl:C.length=C'.length:=by omega
  refine ⟨ho,List.ext_getElem hl fun i h1 h2=>?_⟩
  have g1:=h.at' i h1
  have g2:=h'.at' i h2
  rw[List.getD_eq_getElem?_getD,List.getElem?_eq_getElem h1] at g1
  rw[List.getD_eq_getElem?_getD,List.getElem?_eq_getElem h2] at g2
  simp at g1 g2
  rw[g1,g2,ho]
theorem allP_nz {ps:List Pt} {q:Int × Nat} (h:q∈allP ps):q.2≠0:=by
 obtain ⟨x,_,h⟩:=List.mem_flatMap.1 h
 obtain ⟨i,hi,rfl⟩:=List.mem_map.1 h
 simpa using (List.mem_filter.1 hi).2
theorem rep_getD (N j:Nat):(List.replicate N 0).getD j 0=0:=by
 rw[List.getD_eq_getElem?_getD]
 cases h:(List.replicate N 0)[j]? with
 | none=>rfl
 | some v=>exact (List.mem_replicate.1 (List.mem_of_getElem? h)).2
theorem aans_sum (ps:List Pt):(∀ o C,aans ps=some (o,C)→IsSum (sat (allP ps)) o C∧o≤2147483647∧∀ p,sat (allP ps) p<18446744073709551616) ∧
  (aans ps=none→(∃ p,18446744073709551616≤sat (allP ps) p)∨(∃ p,sat (allP ps) p≠0∧2147483647<p)∧∀ p,p≤2147483647→sat (allP ps) p=0):=by
 obtain ⟨l,hl⟩:∃ l,allP ps=l:=⟨_,rfl⟩
 have hz:∀ q∈l,q.2≠0:=fun q h=>allP_nz (ps:=ps) (by rw[hl];exact h)
 unfold aans
 rw[hl]
 by_cases hn:l=[]
 ·subst hn
  have he:efold (0,0) ([]:List (Int × Nat))=(0,0):=rfl
  simp only[he,if_true]
  refine ⟨fun o C h=>?_,fun h=>by simp at h⟩
  simp at h
  obtain ⟨rfl,rfl⟩:=h
  exact ⟨⟨fun j hj=>by simp at hj,fun p _=>rfl,fun _=>rfl,fun h=>absurd rfl h,fun h=>absurd rfl h⟩,by omega,fun p=>by simp[sat]⟩
 ·obtain ⟨hlt,⟨q1,hq1,e1⟩,⟨q2,hq2,e2⟩⟩:=efold_some hn
  have hin:=(efold_in l (0,0) (Int.le_refl _)).2.2
  obtain ⟨⟨f,t⟩,hft⟩:∃ s,efold (0,0) l=s:=⟨_,rfl⟩
  rw[hft] at hlt e1 e2 hin
  simp only[] at hlt e1 e2 hin
  simp only[hft]
  rw[if_neg (by omega)]
  by_cases hb:2147483647<f
  ·rw[if_pos hb]
   refine ⟨fun o C h=>by simp at h,fun _ => .inr ⟨⟨q1.1,sat_pos hq1 (hz _ hq1),by omega⟩,fun p hp=>sat_zero fun q hq=>by have:=hin q hq;omega⟩⟩
  ·rw [if_neg hb]
   obtain ⟨N,hN⟩:∃ N,(t - f).toNat=N:=⟨_,rfl⟩
   rw[hN]
   have hs:=afold_sat f N l (List.replicate N 0) false (by simp) (fun j=>by rw[rep_getD];omega) (fun q hq=>by have:=hin q hq;omega)
   have ha:=afold_len f l (List.replicate N 0,false)
   simp only[rep_getD,Nat.zero_add,true_and,List.length_replicate] at hs ha
   obtain ⟨⟨C,e⟩,hC⟩:∃ c,afold f (List.replicate N 0,false) l=c:=⟨_,rfl⟩
   rw[hC] at hs ha
   simp only[hC]
   simp only[] at hs ha
   have hout:∀ p,p<f∨f+(N:Int)≤p→sat l p=0:=fun p hp=>sat_zero fun q hq=>by have:=hin q hq;omega
   cases e with
   | true =>
    rw[if_pos rfl]
    refine ⟨fun o C h=>by simp at h,fun _ => .inl ?_⟩
    apply Classical.byContradiction
    intro hc
    have:true=false:=hs.1.2 fun j _=>by
     apply Classical.byContradiction
     intro h
     exact hc ⟨_,Nat.le_of_not_lt h⟩
    simp at this
   | false =>
    rw[if_neg (by decide)]
    refine ⟨fun o C' h=>?_,fun h=>by simp at h⟩
    simp at h
    obtain ⟨rfl,rfl⟩:=h
    have h0:=hs.1.1 rfl
    have hg:=hs.2 rfl
    refine ⟨⟨fun j hj=>hg j (by omega),fun p hp=>hout p (by omega),fun h=>?_,fun _=>?_,fun _=>?_⟩,by omega,fun p=>?_⟩
    ·rw[h] at ha;simp at ha;omega
    ·rw[hg 0 (by omega),Int.ofNat_zero,Int.add_zero,←e1]
     exact sat_pos hq1 (hz _ hq1)
    ·rw[hg _ (by omega),show f+((C.length - 1:Nat):Int)=q2.1 by omega]
     exact sat_pos hq2 (hz _ hq2)
    ·by_cases hp:p<f∨f+(N:Int)≤p
     ·rw[hout p hp];omega
     ·have:=h0 (p - f).toNat (by omega)
      rw[show f+(((p - f).toNat:Nat):Int)=p by omega] at this
      exact this
theorem aans_same {ps qs:List Pt} (h:∀ p,sat (allP ps) p=sat (allP qs) p):aans ps=aans qs:=by
 have he:sat (allP ps)=sat (allP qs):=funext h
 have a:=aans_sum ps
 have b:=aans_sum qs
 rw[he] at a
 cases ha:aans ps with
 | none =>
  cases hb:aans qs with
  | none=>rfl
  | some v =>
   obtain ⟨o,C⟩:=v
   obtain ⟨hI,ho,hp⟩:=b.1 o C hb
   rcases a.2 ha with ⟨p,h⟩|⟨⟨p,h1,h2⟩,h3⟩
   ·have:=hp p;omega
   ·exfalso
    by_cases hn:C=[]
    ·have:=hI.out p (by subst hn;simp;omega)
     exact h1 this
    ·have hl:=List.length_pos_iff.2 hn
     have:=hI.at' 0 hl
     rw[Int.ofNat_zero,Int.add_zero,h3 o ho] at this
     exact hI.fst hn this
 | some v =>
  obtain ⟨o,C⟩:=v
  obtain ⟨hI,ho,hp⟩:=a.1 o C ha
  cases hb:aans qs with
  | none =>
   rcases b.2 hb with ⟨p,h⟩|⟨⟨p,h1,h2⟩,h3⟩
   ·have:=hp p;omega
   ·exfalso
    by_cases hn:C=[]
    ·have:=hI.out p (by subst hn;simp;omega)
     exact h1 this
    ·have hl:=List.length_pos_iff.2 hn
     have:=hI.at' 0 hl
     rw[Int.ofNat_zero,Int.add_zero,h3 o ho] at this
     exact hI.fst hn this
  | some v' =>
   obtain ⟨o',C'⟩:=v'
   obtain ⟨hI',_,_⟩:=b.1 o' C' hb
   obtain ⟨rfl,rfl⟩:=hI.uniq hI'
   rfl
end Go.Proofs.YtoggpnfeioaidaaDoor
