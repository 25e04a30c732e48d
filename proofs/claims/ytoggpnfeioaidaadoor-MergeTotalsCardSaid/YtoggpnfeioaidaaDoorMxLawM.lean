/-
  MxTotal, MxLawM
-/
import Derived.Test.YtoggpnfeioaidaaDoorMgSat
import Derived.Test.YtoggpnfeioaidaaDoorMgTrim
import Derived.Test.YtoggpnfeioaidaaDoorMxFit
set_option maxRecDepth 1000000
set_option maxHeartbeats 16000000
namespace Go.Proofs.YtoggpnfeioaidaaDoor
open Go.RowKit
def CodeV (w:World) (v:Value) (c:Nat):Prop:=(c=0∧v = .nilIface)∨EC w v c
def ans1 (x:Pt):Int × List Nat × Nat:=match aans [x] with
 | none=>(0,[],9)
 | some (o,C)=>(o,C,0)
def MP (r:Int × List Nat × Nat) (w:World) (E:Ending) (w':World):Prop :=
 Below w.heap.size w w'∧∃ bo cap v,E = .returned (.tuple #[.agg #[.int .i32 r.1,.slice bo r.2.1.length cap,.string ⟨#[]⟩],v])∧Nats .u64 w' bo r.2.1∧CodeV w' v r.2.2
theorem mp_of {x:Pt} {w:World} {E:Ending} {w':World} (h:MAddPost [x] w E w'):MP (ans1 x) w E w':=by
 obtain ⟨hb,hm⟩:=h
 refine ⟨hb,?_⟩
 unfold ans1
 cases hr:aans [x] with
 | none =>
  rw[hr] at hm
  obtain ⟨v,rfl,hv⟩:=hm
  exact ⟨none,0,v,rfl,fun h=>absurd rfl h,.inr hv⟩
 | some oc =>
  rw[hr] at hm
  obtain ⟨o,C⟩:=oc
  obtain ⟨bo,cap,rfl,_,_,_,hn⟩:=hm
  exact ⟨bo,cap,_,rfl,hn,.inl ⟨rfl,rfl⟩⟩
def rdn (o:Int) (cs:List Nat) (k:Int):Int × List Nat × Nat:=if 0≤k∧k≤31 then ans1 ⟨o,cs,k.toNat⟩ else (0,[],9)
theorem down_u (o:Int) (cs:List Nat) (k:Int) (bo:Option Addr) (cap:Nat) (U:ByteArray) (w:World) (ho : -2147483648≤o∧o≤2147483647) (hl:cs.length≤1000000) (he:∀ n∈cs,n<18446744073709551616) (hN:Hid (Nats .u64 w bo cs)) :
  Calls Tryd.prog 8 #[.agg #[.int .i32 o,.slice bo cs.length cap,.string U],.int .i64 k] w (MP (rdn o cs k) w):=by
 unfold rdn
 by_cases h:0≤k∧k≤31
 ·rw[if_pos h]
  have hok:Pt.Ok ⟨o,cs,k.toNat⟩:=⟨ho.1,ho.2,hl,(by show k.toNat≤31;omega),he⟩
  have hd:=down_any ⟨o,cs,k.toNat⟩ (Lib.hid hok) bo cap U w hN
  rw[show (((⟨o,cs,k.toNat⟩:Pt).sh:Nat):Int)=k by show ((k.toNat:Nat):Int)=k;omega] at hd
  exact hd.mono fun _ _ h=>mp_of h
 ·rw[if_neg h]
  refine (down_out o bo cs.length cap U k (by omega) w).mono ?_
  rintro E w' ⟨hb,v,rfl,hv⟩
  exact ⟨hb,none,0,v,rfl,fun h=>absurd rfl h,.inr hv⟩
theorem trim_u (o:Int) (cs:List Nat) (bo:Option Addr) (cap:Nat) (U:ByteArray) (w:World) (ho : -2147483648≤o∧o≤2147483647) (hl:cs.length≤1000000) (he:∀ n∈cs,n<18446744073709551616) (hN:Hid (Nats .u64 w bo cs)) :
  Calls Tryd.prog 9 #[.agg #[.int .i32 o,.slice bo cs.length cap,.string U]] w (MP (ans1 ⟨o,cs,0⟩) w) :=
 (trim_any ⟨o,cs,0⟩ rfl (Lib.hid ⟨ho.1,ho.2,hl,Nat.zero_le _,he⟩) bo cap U w hN).mono fun _ _ h=>mp_of h
open Go.RowKit
def sumN (F:Nat→Nat):Nat→Nat
 | 0=>0
 | n+1=>sumN F n+F n
theorem sumN_add (F G:Nat→Nat) (n:Nat):sumN (fun j=>F j+G j) n=sumN F n+sumN G n:=by
 induction n with
 | zero=>rfl
 | succ n ih=>simp only[sumN,ih];omega
theorem sumN_congr {F G:Nat→Nat} {n:Nat} (h:∀ j,j<n→F j=G j):sumN F n=sumN G n:=by
 induction n with
 | zero=>rfl
 | succ n ih=>simp only[sumN];rw[ih fun j hj=>h j (by omega),h n (by omega)]
theorem sumN_zero (n:Nat):sumN (fun _=>0) n=0:=by
 induction n with
 | zero=>rfl
 | succ n ih=>simp only[sumN,ih]
theorem sumN_one (k v n:Nat):sumN (fun j=>if j=k then v else 0) n=if k<n then v else 0:=by
 induction n with
 | zero=>rfl
 | succ n ih =>
  simp only[sumN,ih]
  by_cases h:k<n
  ·rw[if_pos h,if_neg (show ¬n=k by omega),if_pos (show k<n+1 by omega)];rfl
  ·by_cases h2:n=k
   ·rw[if_neg h,if_pos h2,if_pos (show k<n+1 by omega)];omega
   ·rw[if_neg h,if_neg h2,if_neg (show ¬k<n+1 by omega)]
theorem allP_one (x:Pt):allP [x]=x.pls x.cs.length:=by unfold allP;simp
theorem sat_mem {l:List (Int × Nat)} {p:Int} (h:sat l p≠0):∃ q∈l,q.1=p:=by
 apply Classical.byContradiction
 intro hc
 exact h (sat_zero fun q hq he=>hc ⟨q,hq,he⟩)
theorem pls_at {x:Pt} {k:Nat} {q:Int × Nat} (h:q∈x.pls k):∃ i,i<k∧q=(x.pl i,x.ct i):=by
 obtain ⟨i,hi,rfl⟩:=List.mem_map.1 h
 exact ⟨i,List.mem_range.1 (List.mem_filter.1 hi).1,rfl⟩
theorem aans_ok {x:Pt} (hok:x.Ok) {o:Int} {C:List Nat} (h:aans [x]=some (o,C)) : -2147483648≤o∧o≤2147483647∧C.length≤x.cs.length∧∀ n∈C,n<18446744073709551616:=by
 obtain ⟨hI,ho,hp⟩:=(aans_sum [x]).1 o C h
 have he:∀ n∈C,n<18446744073709551616:=fun n hn=>by
  obtain ⟨i,hi,rfl⟩:=List.mem_iff_getElem.1 hn
  have hg:=hI.at' i hi
  rw[List.getD_eq_getElem?_getD,List.getElem?_eq_getElem hi] at hg
  simp at hg
  rw[hg]
  exact hp _
 by_cases hn:C=[]
 ·have:=hI.nil hn
  subst hn
  exact ⟨by omega,ho,by simp,he⟩
 ·have hl:=List.length_pos_iff.2 hn
  have e1:=hI.at' 0 hl
  have e2:=hI.at' (C.length - 1) (by omega)
  rw[Int.ofNat_zero,Int.add_zero] at e1
  obtain ⟨q1,h1,g1⟩:=sat_mem (by rw[←e1];exact hI.fst hn)
  obtain ⟨q2,h2,g2⟩:=sat_mem (by rw[←e2];exact hI.lst hn)
  rw[allP_one] at h1 h2
  obtain ⟨i,hi,rfl⟩:=pls_at h1
  obtain ⟨k,hk,rfl⟩:=pls_at h2
  simp only[] at g1 g2
  have hlen:=hok.len
  have b1:=pl_bound hok (i:=i) (by omega)
  have b2:=pl_mono (x:=x) (Nat.zero_le i)
  have b3:=pl_far x k
  exact ⟨by omega,ho,by omega,he⟩
open Go.RowKit
theorem sumt_step {l:List Nat} {j:Nat} (h:j<l.length):(l.take (j+1)).sum=(l.take j).sum+l[j]:=by
 rw[List.take_succ_eq_append_getElem h,List.sum_append]
 simp
theorem sumt_le (l:List Nat) (j:Nat):(l.take j).sum≤l.sum:=by
 have h:=congrArg List.sum (List.take_append_drop j l)
 rw[List.sum_append] at h
 omega
theorem sat_total (o:Int):∀ (l:List (Int × Nat)) (N:Nat),(∀ q∈l,o≤q.1∧q.1<o+(N:Int))→sumN (fun j=>sat l (o+(j:Int))) N=(l.map (·.2)).sum
 | [],N,_=>by
  show sumN (fun _=>0) N=0
  exact sumN_zero N
 | x::l,N,h=>by
  have hx:=h x (by simp)
  obtain ⟨k,hk⟩:∃ k:Nat,x.1=o+(k:Int):=⟨(x.1 - o).toNat,by omega⟩
  rw[List.map_cons,List.sum_cons,←sat_total o l N (fun q hq=>h q (List.mem_cons_of_mem _ hq))]
  rw[sumN_congr (G:=fun j=>(if j=k then x.2 else 0)+sat l (o+(j:Int))) (fun j _=>by
   show (if x.1=o+(j:Int) then x.2 else 0)+sat l (o+(j:Int))=_
   by_cases he:j=k
   ·rw[if_pos (by omega),if_pos he]
   ·rw[if_neg (by omega),if_neg he])]
  rw[sumN_add,sumN_one,if_pos (by omega)]
theorem sum_list (C:List Nat):sumN (fun j=>C.getD j 0) C.length=C.sum:=by
 have h:∀ k,k≤C.length→sumN (fun j=>C.getD j 0) k=(C.take k).sum:=by
  intro k
  induction k with
  | zero=>intro _;simp[sumN]
  | succ k ih =>
   intro hk
   rw[sumN,ih (by omega),sumt_step (show k<C.length by omega),List.getD_eq_getElem?_getD,List.getElem?_eq_getElem (show k<C.length by omega)]
   rfl
 rw[h C.length (Nat.le_refl _),List.take_length]
theorem tot_all {ps:List Pt} {o:Int} {C:List Nat} (h:aans ps=some (o,C)):C.sum=((allP ps).map (·.2)).sum:=by
 have hs:=((aans_sum ps).1 o C h).1
 rw[←sum_list,sumN_congr hs.at']
 exact sat_total o (allP ps) C.length (fun q hq=>by
  refine Classical.byContradiction fun hn=>?_
  exact sat_pos hq (allP_nz hq) (hs.out q.1 (by omega)))
theorem pls_total (x:Pt):((x.pls x.cs.length).map (·.2)).sum=x.cs.sum:=by
 have h:∀ k,k≤x.cs.length→((x.pls k).map (·.2)).sum=(x.cs.take k).sum:=by
  intro k
  induction k with
  | zero=>intro _;rw[pls_zero];simp
  | succ k ih =>
   intro hk
   have e:x.ct k=x.cs[k]'(by omega):=by
    unfold Pt.ct
    rw[List.getD_eq_getElem?_getD,List.getElem?_eq_getElem (show k<x.cs.length by omega)]
    rfl
   rw[sumt_step (show k<x.cs.length by omega)]
   by_cases hct:x.ct k=0
   ·rw[pls_no hct,ih (by omega)];omega
   ·rw[pls_yes hct,List.map_append,List.sum_append,ih (by omega)]
    simp[e]
 rw[h _ (Nat.le_refl _),List.take_length]
theorem tot_one {x:Pt} {o:Int} {C:List Nat} (h:aans [x]=some (o,C)):C.sum=x.cs.sum:=by
 rw[tot_all h,allP_one,pls_total]
theorem tot_two {x y:Pt} {o:Int} {C:List Nat} (h:aans [x,y]=some (o,C)):C.sum=x.cs.sum+y.cs.sum:=by
 have e:allP [x,y]=x.pls x.cs.length++y.pls y.cs.length:=by unfold allP;simp
 rw[tot_all h,e,List.map_append,List.sum_append,pls_total,pls_total]
def TotP (l:List Nat) (w:World) (E:Ending) (w':World):Prop:=Below w.heap.size w w'∧∃ n b,E = .returned (.tuple #[.int .u64 ((n:Nat):Int),.bool b])∧(b=true→n=l.sum∧l.sum<18446744073709551616)∧(b=false→18446744073709551616≤l.sum)
theorem total_any (l:List Nat) (ao:Option Addr) (cap:Nat) (w:World) (hl:l.length≤1000000) (he:Hid (∀ n∈l,n<18446744073709551616)) (hN:Hid (Nats .u64 w ao l)) :
  Calls Tryd.prog 7 #[.slice ao l.length cap] w (TotP l w):=by
 go_enter Tryd.func7,Tryd.ntmps7
 go_wp2_with fail
 go_loopg [5,4] l.length (fun k i nv wr=>∃ (j s:Nat),i = .int .i64 (j:Int)∧nv = .int .u64 (s:Int)∧j+k=l.length∧s<18446744073709551616∧Hid (s=(l.take j).sum)∧wr=w)
 case atStart=>exact ⟨0,0,rfl,rfl,by omega,by omega,Lib.hid (by simp),rfl⟩
 case round =>
  obtain ⟨j,s,rfl,rfl,hj,hs,HS,rfl⟩:=hrel
  have HJ:=Lib.hid hj
  clear hj
  by_cases hlt:j<l.length
  ·obtain ⟨b,off,n,HNN,rfl,hg,hc⟩:=hN.out.at hlt
   have hn:n<18446744073709551616:=by rw[HNN.out];exact he.out _ (List.getElem_mem hlt)
   have HST:Hid ((l.take (j+1)).sum=s+n):=Lib.hid (by rw[sumt_step hlt,←HS.out,HNN.out])
   have i0:(0:Int)≤(j:Int):=by omega
   have i1:(j:Int)<(l.length:Int):=by omega
   by_cases hov:s+n<18446744073709551616
   ·have kk:IntKind.u64.wrap ((s:Int)+(n:Int))=((s+n:Nat):Int):=by rw[IntKind.wrap_u64];omega
    have dk:decide (((s+n:Nat):Int)<(s:Int))=false:=decide_eq_false (by omega)
    have HOV:=Lib.hid hov
    clear hov
    go_wp2_with fail
    have hj:=HJ.out
    go_roundg (gk - 1)
    case measure=>omega
    case rel=>exact ⟨j+1,s+n,by simp,by simp,by omega,HOV.out,Lib.hid HST.out.symm,rfl⟩
   ·obtain ⟨z,hz⟩:∃ z,s+n=z+18446744073709551616:=⟨s+n - 18446744073709551616,by omega⟩
    have kk:IntKind.u64.wrap ((s:Int)+(n:Int))=(z:Int):=by rw[IntKind.wrap_u64];omega
    have dk:decide ((z:Int)<(s:Int))=true:=decide_eq_true (by omega)
    have hzs:z<s:=by omega
    have HZ:=Lib.hid hz
    clear hov hz
    go_wp2_with fail
    go_ret2
    refine ⟨Below.refl _ _,0,false,rfl,(fun h=>by cases h),fun _=>?_⟩
    have h1:=HST.out
    have h2:=sumt_le l (j+1)
    have h3:=HZ.out
    omega
  ·have hje:j=l.length:=by have:=HJ.out;omega
   subst hje
   have HSE:Hid (s=l.sum):=Lib.hid (by have h:=HS.out;rwa [List.take_length] at h)
   have i2:¬(l.length:Int)<(l.length:Int):=by omega
   go_wp2_with fail
   go_ret2
   exact ⟨Below.refl _ _,s,true,rfl,fun _=>⟨HSE.out,by rw[←HSE.out];exact hs⟩,fun h=>by cases h⟩
open Go.RowKit
def Tight (o:Int) (C:List Nat):Prop:=(C=[]→o=0)∧(C≠[]→C.getD 0 0≠0∧C.getD (C.length - 1) 0≠0)
theorem tight_any (o:Int) (C:List Nat) (q:Option Addr) (d:Nat) (U:ByteArray) (w:World) (ht:Tight o C) (hl:C.length≤1000000) (hN:Hid (Nats .u64 w q C)) :
  Calls Tryd.prog 10 #[.agg #[.int .i32 o,.slice q C.length d,.string U]] w fun E w'=>E = .returned (.bool true)∧Below w.heap.size w w':=by
 by_cases hC:C=[]
 ·have ho:=ht.1 hC
  subst hC
  subst ho
  go_enter Tryd.func10,Tryd.ntmps10
  go_wp2_with fail
  go_ret
  exact ⟨rfl,below_new _ _⟩
 ·obtain ⟨h0,h1⟩:=ht.2 hC
  obtain ⟨m,hm⟩:∃ m,C.length=m+1:=⟨C.length - 1,by have:=List.length_pos_iff.2 hC;omega⟩
  obtain ⟨b,off,rfl,hlt,hc⟩:=hN.out hC
  have e0:=hc 0 (by omega)
  have e1:=hc m (by omega)
  obtain ⟨n0,hn0⟩:∃ n,C[0]'(by omega)=n:=⟨_,rfl⟩
  obtain ⟨n1,hn1⟩:∃ n,C[m]'(by omega)=n:=⟨_,rfl⟩
  rw[hn0] at e0
  rw[hn1] at e1
  have p0:0<n0:=by
   rw[List.getD_eq_getElem?_getD,List.getElem?_eq_getElem (by omega)] at h0
   have h0:C[0]'(by omega)≠0:=h0
   omega
  have p1:0<n1:=by
   rw[hm,List.getD_eq_getElem?_getD,List.getElem?_eq_getElem (by omega)] at h1
   have h1:C[m]'(by omega)≠0:=h1
   omega
  have d0:decide ((n0:Int)>0)=true:=decide_eq_true (by omega)
  have d1:decide ((n1:Int)>0)=true:=decide_eq_true (by omega)
  obtain ⟨W,HW⟩:∃ X,Hid (w.alloc (.cells #[.int .i32 o,.slice (some ⟨b,off,none⟩) (m+1:Nat) d,.string U] 28)=X):=⟨_,Lib.hid rfl⟩
  have hb:Below w.heap.size w W:=by rw[←HW.out];exact below_new _ _
  have k0:W.cell? ⟨b,off,none⟩=some (.int .u64 (n0:Int)):=(hb.cell (p:=⟨b,off,none⟩) hlt).trans (by simpa using e0)
  have k1:W.cell? ⟨b,off+m,none⟩=some (.int .u64 (n1:Int)):=(hb.cell (p:=⟨b,off+m,none⟩) hlt).trans e1
  have hr:W.heap[w.heap.size]? = some (.cells #[.int .i32 o,.slice (some ⟨b,off,none⟩) (m+1:Nat) d,.string U] 28 (0,0)):=by rw[←HW.out];exact heap_alloc_new w _
  have c0:W.cell? ⟨w.heap.size,0,none⟩=some (.int .i32 o):=row_cell hr (j:=0) rfl
  have c1:W.cell? ⟨w.heap.size,1,none⟩=some (.slice (some ⟨b,off,none⟩) (m+1:Nat) d):=row_cell hr (j:=1) rfl
  have kk:IntKind.i64.wrap (((m+1:Nat):Int) - 1)=(m:Int):=by rw[i64_wrap_id (by omega) (by omega)];omega
  have HB:=Lib.hid hb
  have hm6:m<1000000:=by omega
  have HP1:Hid (decide (0<n1)=true):=Lib.hid (decide_eq_true p1)
  rw[hm]
  clear hb hr e0 e1 hn0 hn1 h0 h1 hc p1 ht hN hC hl hm
  go_enter Tryd.func10,Tryd.ntmps10
  go_upto_region 1 with fail
  rw[HW.out]
  go_wp2_with fail
  go_ret
  exact ⟨by show Ending.returned (.bool (decide (0<n1)))=_;rw[HP1.out],HB.out⟩
open Go.RowKit
theorem aans_tight {ps:List Pt} {o:Int} {C:List Nat} (h:aans ps=some (o,C)):Tight o C:=by
 have hs:=((aans_sum ps).1 o C h).1
 exact ⟨hs.nil,fun hn=>⟨hs.fst hn,hs.lst hn⟩⟩
end Go.Proofs.YtoggpnfeioaidaaDoor
