/-
  MxLawM, MgSides
-/
import Derived.Test.YtcblkndiclkacaaDoorMgSat
import Derived.Test.YtcblkndiclkacaaDoorMgFirst
import Derived.Test.YtcblkndiclkacaaDoorMxFit
set_option maxRecDepth 1000000
set_option maxHeartbeats 16000000
namespace Go.Proofs.YtcblkndiclkacaaDoor
open Go.RowKit
def CodeV (w:World) (v:Value) (c:Nat):Prop:=(c=0∧v = .nilIface)∨EC w v c
open Go.RowKit
def sumN (F:Nat→Nat):Nat→Nat
 | 0=>0
 | n+1=>sumN F n+F n
theorem sumN_add (F G:Nat→Nat) (n:Nat):sumN (fun j=>F j+G j) n=sumN F n+sumN G n:=by
 induction n with
 | zero=>rfl
 | succ n ih=>simp only[sumN,ih];omega
theorem sumN_congr {F G:Nat→Nat} {n:Nat} (h:∀ j,j<n→F j=G j):sumN F n=sumN G n:=by
 induction n with
 | zero=>rfl
 | succ n ih=>simp only[sumN];rw[ih fun j hj=>h j (by omega),h n (by omega)]
theorem sumN_zero (n:Nat):sumN (fun _=>0) n=0:=by
 induction n with
 | zero=>rfl
 | succ n ih=>simp only[sumN,ih]
theorem sumN_one (k v n:Nat):sumN (fun j=>if j=k then v else 0) n=if k<n then v else 0:=by
 induction n with
 | zero=>rfl
 | succ n ih =>
  simp only[sumN,ih]
  by_cases h:k<n
  ·rw[if_pos h,if_neg (show ¬n=k by omega),if_pos (show k<n+1 by omega)];rfl
  ·by_cases h2:n=k
   ·rw[if_neg h,if_pos h2,if_pos (show k<n+1 by omega)];omega
   ·rw[if_neg h,if_neg h2,if_neg (show ¬k<n+1 by omega)]
theorem allP_one (x:Pt):allP [x]=x.pls x.cs.length:=by unfold allP;simp
theorem sat_pls (x:Pt) (k:Nat) (p:Int):sat (x.pls k) p=sumN (fun i=>if x.pl i=p then x.ct i else 0) k:=by
 induction k with
 | zero=>rw[pls_zero];rfl
 | succ k ih =>
  simp only[sumN]
  by_cases h:x.ct k=0
  ·rw[pls_no h,ih,h];split<;>rfl
  ·rw[pls_yes h,sat_app,ih];simp only[sat];omega
theorem sat_group (g:Int→Int) (o:Int) (N:Nat) (p:Int) (l:List (Int × Nat)):(∀ q∈l,o≤q.1∧q.1<o+(N:Int)) →
  sumN (fun j=>if g (o+(j:Int))=p then sat l (o+(j:Int)) else 0) N=sat (l.map fun q=>(g q.1,q.2)) p:=by
 induction l with
 | nil =>
  intro _
  simp only[sat,List.map_nil]
  rw[sumN_congr (G:=fun _=>0) (fun j _=>by split<;>rfl),sumN_zero]
 | cons x l ih =>
  intro h
  have hx:=h x (by simp)
  obtain ⟨k,hk⟩:∃ k,(x.1 - o).toNat=k:=⟨_,rfl⟩
  simp only[sat,List.map_cons]
  rw[←ih fun q hq=>h q (by simp[hq])]
  have hp:∀ j:Nat,(if g (o+(j:Int))=p then (if x.1=o+(j:Int) then x.2 else 0)+sat l (o+(j:Int)) else 0)=(if j=k then (if g x.1=p then x.2 else 0) else 0)+(if g (o+(j:Int))=p then sat l (o+(j:Int)) else 0):=fun j=>by
   by_cases hj:j=k
   ·have:o+(j:Int)=x.1:=by omega
    rw[this,if_pos rfl,if_pos hj]
    split<;>omega
   ·rw[if_neg (show ¬x.1=o+(j:Int) by omega),if_neg hj]
    split<;>omega
  rw[sumN_congr fun j _=>hp j,sumN_add,sumN_one,if_pos (by omega)]
theorem pls_more (o:Int) (cs:List Nat) (m n k:Nat):(⟨o,cs,m+n⟩:Pt).pls k=((⟨o,cs,m⟩:Pt).pls k).map fun q=>(q.1 / 2 ^ n,q.2):=by
 unfold Pt.pls
 rw[List.map_map]
 refine List.map_congr_left fun i _=>?_
 show ((o+(i:Int)) / 2 ^ (m+n),cs.getD i 0)=((o+(i:Int)) / 2 ^ m / 2 ^ n,cs.getD i 0)
 rw[Int.ediv_ediv_of_nonneg (Int.le_of_lt (Int.pow_pos (by omega))),Int.pow_add]
theorem sat_mem {l:List (Int × Nat)} {p:Int} (h:sat l p≠0):∃ q∈l,q.1=p:=by
 apply Classical.byContradiction
 intro hc
 exact h (sat_zero fun q hq he=>hc ⟨q,hq,he⟩)
theorem pls_at {x:Pt} {k:Nat} {q:Int × Nat} (h:q∈x.pls k):∃ i,i<k∧q=(x.pl i,x.ct i):=by
 obtain ⟨i,hi,rfl⟩:=List.mem_map.1 h
 exact ⟨i,List.mem_range.1 (List.mem_filter.1 hi).1,rfl⟩
theorem aans_ok {x:Pt} (hok:x.Ok) {o:Int} {C:List Nat} (h:aans [x]=some (o,C)) : -2147483648≤o∧o≤2147483647∧C.length≤x.cs.length∧∀ n∈C,n<18446744073709551616:=by
 obtain ⟨hI,ho,hp⟩:=(aans_sum [x]).1 o C h
 have he:∀ n∈C,n<18446744073709551616:=fun n hn=>by
  obtain ⟨i,hi,rfl⟩:=List.mem_iff_getElem.1 hn
  have hg:=hI.at' i hi
  rw[List.getD_eq_getElem?_getD,List.getElem?_eq_getElem hi] at hg
  simp at hg
  rw[hg]
  exact hp _
 by_cases hn:C=[]
 ·have:=hI.nil hn
  subst hn
  exact ⟨by omega,ho,by simp,he⟩
 ·have hl:=List.length_pos_iff.2 hn
  have e1:=hI.at' 0 hl
  have e2:=hI.at' (C.length - 1) (by omega)
  rw[Int.ofNat_zero,Int.add_zero] at e1
  obtain ⟨q1,h1,g1⟩:=sat_mem (by rw[←e1];exact hI.fst hn)
  obtain ⟨q2,h2,g2⟩:=sat_mem (by rw[←e2];exact hI.lst hn)
  rw[allP_one] at h1 h2
  obtain ⟨i,hi,rfl⟩:=pls_at h1
  obtain ⟨k,hk,rfl⟩:=pls_at h2
  simp only[] at g1 g2
  have hlen:=hok.len
  have b1:=pl_bound hok (i:=i) (by omega)
  have b2:=pl_mono (x:=x) (Nat.zero_le i)
  have b3:=pl_far x k
  exact ⟨by omega,ho,by omega,he⟩
theorem aans_steps {o o':Int} {cs C:List Nat} {m n:Nat} (h:aans [⟨o,cs,m⟩]=some (o',C)):aans [⟨o',C,n⟩]=aans [⟨o,cs,m+n⟩]:=by
 obtain ⟨hI,ho,hp⟩:=(aans_sum _).1 o' C h
 refine aans_same fun p=>?_
 rw[allP_one,allP_one,sat_pls]
 show sumN (fun i=>if (o'+(i:Int)) / 2 ^ n=p then C.getD i 0 else 0) C.length=sat ((⟨o,cs,m+n⟩:Pt).pls cs.length) p
 rw[pls_more,←sat_group (fun y=>y / 2 ^ n) o' C.length p]
 ·refine sumN_congr fun j hj=>?_
  rw[hI.at' j hj,allP_one]
 ·intro q hq
  have hz:sat (allP [⟨o,cs,m⟩]) q.1≠0:=sat_pos (by rw[allP_one];exact hq) (allP_nz (ps:=[⟨o,cs,m⟩]) (by rw[allP_one];exact hq))
  have hi:¬(q.1<o'∨o'+(C.length:Int)≤q.1):=fun hh=>hz (hI.out _ hh)
  omega
open Go.RowKit
def Tight (o:Int) (C:List Nat):Prop:=(C=[]→o=0)∧(C≠[]→C.getD 0 0≠0∧C.getD (C.length - 1) 0≠0)
theorem tight_any (o:Int) (C:List Nat) (q:Option Addr) (d:Nat) (U:ByteArray) (w:World) (ht:Tight o C) (hl:C.length≤1000000) (hN:Hid (Nats .u64 w q C)) :
  Calls Tryd.prog 19 #[.agg #[.int .i32 o,.slice q C.length d,.string U]] w fun E w'=>E = .returned (.bool true)∧Below w.heap.size w w':=by
 by_cases hC:C=[]
 ·have ho:=ht.1 hC
  subst hC
  subst ho
  go_enter Tryd.func19,Tryd.ntmps19
  go_wp2_with fail
  go_ret
  exact ⟨rfl,below_new _ _⟩
 ·obtain ⟨h0,h1⟩:=ht.2 hC
  obtain ⟨m,hm⟩:∃ m,C.length=m+1:=⟨C.length - 1,by have:=List.length_pos_iff.2 hC;omega⟩
  obtain ⟨b,off,rfl,hlt,hc⟩:=hN.out hC
  have e0:=hc 0 (by omega)
  have e1:=hc m (by omega)
  obtain ⟨n0,hn0⟩:∃ n,C[0]'(by omega)=n:=⟨_,rfl⟩
  obtain ⟨n1,hn1⟩:∃ n,C[m]'(by omega)=n:=⟨_,rfl⟩
  rw[hn0] at e0
  rw[hn1] at e1
  have p0:0<n0:=by
   rw[List.getD_eq_getElem?_getD,List.getElem?_eq_getElem (by omega)] at h0
   have h0:C[0]'(by omega)≠0:=h0
   omega
  have p1:0<n1:=by
   rw[hm,List.getD_eq_getElem?_getD,List.getElem?_eq_getElem (by omega)] at h1
   have h1:C[m]'(by omega)≠0:=h1
   omega
  have d0:decide ((n0:Int)>0)=true:=decide_eq_true (by omega)
  have d1:decide ((n1:Int)>0)=true:=decide_eq_true (by omega)
  obtain ⟨W,HW⟩:∃ X,Hid (w.alloc (.cells #[.int .i32 o,.slice (some ⟨b,off,none⟩) (m+1:Nat) d,.string U] 24)=X):=⟨_,Lib.hid rfl⟩
  have hb:Below w.heap.size w W:=by rw[←HW.out];exact below_new _ _
  have k0:W.cell? ⟨b,off,none⟩=some (.int .u64 (n0:Int)):=(hb.cell (p:=⟨b,off,none⟩) hlt).trans (by simpa using e0)
  have k1:W.cell? ⟨b,off+m,none⟩=some (.int .u64 (n1:Int)):=(hb.cell (p:=⟨b,off+m,none⟩) hlt).trans e1
  have hr:W.heap[w.heap.size]? = some (.cells #[.int .i32 o,.slice (some ⟨b,off,none⟩) (m+1:Nat) d,.string U] 24 (0,0)):=by rw[←HW.out];exact heap_alloc_new w _
  have c0:W.cell? ⟨w.heap.size,0,none⟩=some (.int .i32 o):=row_cell hr (j:=0) rfl
  have c1:W.cell? ⟨w.heap.size,1,none⟩=some (.slice (some ⟨b,off,none⟩) (m+1:Nat) d):=row_cell hr (j:=1) rfl
  have kk:IntKind.i64.wrap (((m+1:Nat):Int) - 1)=(m:Int):=by rw[i64_wrap_id (by omega) (by omega)];omega
  have HB:=Lib.hid hb
  have hm6:m<1000000:=by omega
  have HP1:Hid (decide (0<n1)=true):=Lib.hid (decide_eq_true p1)
  rw[hm]
  clear hb hr e0 e1 hn0 hn1 h0 h1 hc p1 ht hN hC hl hm
  go_enter Tryd.func19,Tryd.ntmps19
  go_upto_region 1 with fail
  rw[HW.out]
  go_wp2_with fail
  go_ret
  exact ⟨by show Ending.returned (.bool (decide (0<n1)))=_;rw[HP1.out],HB.out⟩
open Go.RowKit
theorem ft_uniq {x y:Sd} {most:Int} {j k:Nat} (h:FtAt x y most j) (h':FtAt x y most k):j=k:=by
 obtain ⟨_,b1,w1,p1⟩:=h
 obtain ⟨_,b2,w2,p2⟩:=h'
 rcases Nat.lt_trichotomy j k with h|h|h
 ·have:=(p2 j h).2;rw[w1] at this;cases this
 ·exact h
 ·have:=(p1 k h).2;rw[w2] at this;cases this
theorem ft_no {x y:Sd} {most:Int} {j:Nat} (h:FtAt x y most j) (h':FtNo x y most):False:=by
 obtain ⟨hm,b1,w1,p1⟩:=h
 rcases h' with h'|h'|⟨k,b2,p2⟩
 ·omega
 ·omega
 ·rcases Nat.lt_trichotomy j k with h|h|h
  ·have:=(p2 j h).2;rw[w1] at this;cases this
  ·subst h;rw[b1] at b2;cases b2
  ·have:=(p1 k h).1;rw[b2] at this;cases this
theorem aans_tight {ps:List Pt} {o:Int} {C:List Nat} (h:aans ps=some (o,C)):Tight o C:=by
 have hs:=((aans_sum ps).1 o C h).1
 exact ⟨hs.nil,fun hn=>⟨hs.fst hn,hs.lst hn⟩⟩
theorem width_le (o:Int) (C:List Nat):width [⟨o,C,0⟩]≤(C.length:Int):=by
 have hq:∀ q∈allP [⟨o,C,0⟩],o≤q.1∧q.1<o+(C.length:Int):=by
  intro q hq
  obtain ⟨x,hx,hq⟩:=List.mem_flatMap.1 hq
  obtain rfl:=List.mem_singleton.1 hx
  obtain ⟨i,hi,rfl⟩:=List.mem_map.1 hq
  have hi:i<C.length:=List.mem_range.1 (List.mem_filter.1 hi).1
  have e:Pt.pl ⟨o,C,0⟩ i=o+(i:Int):=by show (o+(i:Int)) / 2 ^ 0=_;simp
  show o≤Pt.pl ⟨o,C,0⟩ i∧Pt.pl ⟨o,C,0⟩ i<_
  rw[e]
  omega
 unfold width
 by_cases he:allP [⟨o,C,0⟩]=[]
 ·rw[he]
  simp[efold]
 ·obtain ⟨h1,⟨q1,m1,e1⟩,q2,m2,e2⟩:=efold_some he
  have b1:=hq q1 m1
  have b2:=hq q2 m2
  omega
theorem width_nil:width []=0:=rfl
theorem fit_again {x:Sd} {most:Int} {j:Nat} {o1 o2:Int} {C1 C2:List Nat} (h:FtAt x ⟨x.sc,false,0,[],false,0,[]⟩ most j) (h1:aans (x.pos j)=some (o1,C1)) (h2:aans (x.neg j)=some (o2,C2)) :
  FtAt ⟨x.sc - j,x.gp,o1,C1,x.gn,o2,C2⟩ ⟨x.sc - j,false,0,[],false,0,[]⟩ most 0∧aans (Sd.pos ⟨x.sc - j,x.gp,o1,C1,x.gn,o2,C2⟩ 0)=some (o1,C1)∧aans (Sd.neg ⟨x.sc - j,x.gp,o1,C1,x.gn,o2,C2⟩ 0)=some (o2,C2)∧(C1.length:Int)≤most∧(C2.length:Int)≤most:=by
 obtain ⟨hm,hb,hw,_⟩:=h
 have hw1:width (x.pos j)≤most∧width (x.neg j)≤most:=by
  unfold wAt wide at hw
  rw[(pAt_one x j).1,(pAt_one x j).2] at hw
  simp only[Bool.or_eq_false_iff,decide_eq_false_iff_not] at hw
  omega
 have l1:=aans_len h1
 have l2:=aans_len h2
 have hl:(C1.length:Int)≤most∧(C2.length:Int)≤most:=by omega
 refine ⟨⟨hm,?_,?_,fun i hi=>by omega⟩,?_,?_,hl⟩
 ·unfold bAt fBad dA dB
  simp
 ·unfold wAt wide
  rw[(pAt_one ⟨x.sc - j,x.gp,o1,C1,x.gn,o2,C2⟩ 0).1,(pAt_one ⟨x.sc - j,x.gp,o1,C1,x.gn,o2,C2⟩ 0).2]
  have a1:width (Sd.pos ⟨x.sc - j,x.gp,o1,C1,x.gn,o2,C2⟩ 0)≤most:=by
   unfold Sd.pos
   split
   ·have:=width_le o1 C1;show width [⟨o1,C1,0⟩]≤most;omega
   ·rw[width_nil];omega
  have a2:width (Sd.neg ⟨x.sc - j,x.gp,o1,C1,x.gn,o2,C2⟩ 0)≤most:=by
   unfold Sd.neg
   split
   ·have:=width_le o2 C2;show width [⟨o2,C2,0⟩]≤most;omega
   ·rw[width_nil];omega
  simp only[Bool.or_eq_false_iff,decide_eq_false_iff_not]
  omega
 ·unfold Sd.pos at h1 ⊢
  by_cases hg:x.gp=true
  ·simp only[hg,if_true] at h1 ⊢
   rw[aans_steps (n:=0) h1]
   exact h1
  ·simp only[hg,if_false,Bool.false_eq_true] at h1 ⊢
   exact h1
 ·unfold Sd.neg at h2 ⊢
  by_cases hg:x.gn=true
  ·simp only[hg,if_true] at h2 ⊢
   rw[aans_steps (n:=0) h2]
   exact h2
  ·simp only[hg,if_false,Bool.false_eq_true] at h2 ⊢
   exact h2
theorem fit_ok {x:Sd} {j:Nat} {o1 o2:Int} {C1 C2:List Nat} (hok:∀ sa,sa≤31→(⟨x.po,x.pc,sa⟩:Pt).Ok∧(⟨x.no,x.nc,sa⟩:Pt).Ok) (hj:j≤31) (h1:aans (x.pos j)=some (o1,C1)) (h2:aans (x.neg j)=some (o2,C2)) :
  ∀ sa,sa≤31→(⟨o1,C1,sa⟩:Pt).Ok∧(⟨o2,C2,sa⟩:Pt).Ok:=by
 have hz:aans []=some (0,[]):=rfl
 intro sa hsa
 constructor
 ·unfold Sd.pos at h1
  split at h1
  ·obtain ⟨a1,a2,a3,a4⟩:=aans_ok (hok j hj).1 h1
   have:=(hok j hj).1.len
   exact ⟨a1,a2,by show C1.length≤_;omega,hsa,a4⟩
  ·rw[hz] at h1
   obtain ⟨rfl,rfl⟩:(0:Int)=o1∧([]:List Nat)=C1:=by simpa using h1
   exact ⟨by show (-2147483648:Int)≤0;decide,by show (0:Int)≤2147483647;decide,by show 0≤1000000;decide,hsa,fun n hn=>by cases hn⟩
 ·unfold Sd.neg at h2
  split at h2
  ·obtain ⟨a1,a2,a3,a4⟩:=aans_ok (hok j hj).2 h2
   have:=(hok j hj).2.len
   exact ⟨a1,a2,by show C2.length≤_;omega,hsa,a4⟩
  ·rw[hz] at h2
   obtain ⟨rfl,rfl⟩:(0:Int)=o2∧([]:List Nat)=C2:=by simpa using h2
   exact ⟨by show (-2147483648:Int)≤0;decide,by show (0:Int)≤2147483647;decide,by show 0≤1000000;decide,hsa,fun n hn=>by cases hn⟩
open Go.RowKit
theorem codev_any {w:World} {v:Value} {c:Nat} (h:CodeV w v c) (hg:Glob w) :
  Calls Tryd.prog 16 #[v] w fun e w'=>e = .returned (.int .i64 (c:Int))∧Below w.heap.size w w':=by
 rcases h with ⟨rfl,rfl⟩|⟨ws,hws⟩
 ·exact (code_nil w).mono fun e w' h=>⟨h.1,h.2 ▸ Below.refl _ w⟩
 ·exact (code_any ws _ _ w hws (root_code c) hg).mono fun e w' h=>⟨h.1,h.2⟩
end Go.Proofs.YtcblkndiclkacaaDoor
