/-
  hygref25.sum, places: the places of a side, shifted.
-/
import Derived.Test.YtcblkndiclkacaaDoorMgTrim
set_option maxRecDepth 1000000
set_option maxHeartbeats 16000000
namespace Go.Proofs.YtcblkndiclkacaaDoor
open Go.RowKit
theorem rsum_any (x y:Nat) (hx:x<18446744073709551616) (hy:y<18446744073709551616) (w:World) :
  Calls Tryd.prog 62 #[.int .u64 (x:Int),.int .u64 (y:Int)] w fun E w'=>E = .returned (.tuple #[.int .u64 (usum x y:Int),.bool (decide (x+y<18446744073709551616))])∧w=w':=by
 have q1:=usum_wrap x y
 obtain ⟨z,HZ⟩:∃ z,Hid (usum x y=z):=⟨_,Lib.hid rfl⟩
 rw[HZ.out] at q1 ⊢
 have h:=HZ.out
 unfold usum at h
 by_cases ho:x+y<18446744073709551616
 ·have d1:decide ((z:Int) ≥ (x:Int))=true:=decide_eq_true (by omega)
  have d2:decide (z ≥ x)=true:=decide_eq_true (by omega)
  have d3:decide (x≤z)=true:=decide_eq_true (by omega)
  rw[decide_eq_true ho]
  clear h ho
  go_enter Tryd.func62,Tryd.ntmps62
  go_wp2_with fail
  go_ret2
  exact ⟨rfl,rfl⟩
 ·have d1:decide ((z:Int) ≥ (x:Int))=false:=decide_eq_false (by omega)
  have d2:decide (z ≥ x)=false:=decide_eq_false (by omega)
  have d3:decide (x≤z)=false:=decide_eq_false (by omega)
  rw[decide_eq_false ho]
  clear h ho
  go_enter Tryd.func62,Tryd.ntmps62
  go_wp2_with fail
  go_ret2
  exact ⟨rfl,rfl⟩
def plstep (s:Option (List (Int × Nat))) (p:Int × Nat):Option (List (Int × Nat)):=match s with
 | none=>none
 | some L=>match L.getLast? with
  | none=>some [p]
  | some q=>if q.1=p.1 then (if q.2+p.2<18446744073709551616 then some (L.dropLast++[(q.1,q.2+p.2)]) else none) else some (L++[p])
def rp (l:List (Int × Nat)):Option (List (Int × Nat)):=l.foldl plstep (some [])
theorem rp_app (l:List (Int × Nat)) (p:Int × Nat):rp (l++[p])=plstep (rp l) p:=by unfold rp;rw[List.foldl_append];rfl
theorem plstep_new (p:Int × Nat):plstep (some []) p=some [p]:=rfl
theorem plstep_far (L:List (Int × Nat)) (q p:Int × Nat) (h:¬q.1=p.1):plstep (some (L++[q])) p=some (L++[q]++[p]):=by
 simp[plstep,h]
theorem plstep_sum (L:List (Int × Nat)) (q p:Int × Nat) (h:q.1=p.1) (h2:q.2+p.2<18446744073709551616):plstep (some (L++[q])) p=some (L++[(q.1,q.2+p.2)]):=by
 simp[plstep,h,h2]
theorem plstep_over (L:List (Int × Nat)) (q p:Int × Nat) (h:q.1=p.1) (h2:¬q.2+p.2<18446744073709551616):plstep (some (L++[q])) p=none:=by
 simp[plstep,h,h2]
def pcell (p:Int × Nat):List Value:=[.int .i64 p.1,.int .u64 (p.2:Int)]
def pcells (L:List (Int × Nat)):List Value:=L.flatMap pcell
theorem pcells_len (L:List (Int × Nat)):(pcells L).length=L.length * 2:=by
 induction L with
 | nil=>rfl
 | cons p L ih=>unfold pcells at ih ⊢;rw[List.flatMap_cons,List.length_append,ih];simp[pcell];omega
theorem pcells_app (L M:List (Int × Nat)):pcells (L++M)=pcells L++pcells M:=by unfold pcells;rw[List.flatMap_append]
theorem pcells_at0 (L:List (Int × Nat)) (q:Int × Nat):(pcells (L++[q]))[L.length * 2]? = some (.int .i64 q.1):=by
 rw[pcells_app,List.getElem?_append_right (by rw[pcells_len];omega),pcells_len,Nat.sub_self];rfl
theorem pcells_at1 (L:List (Int × Nat)) (q:Int × Nat):(pcells (L++[q]))[L.length * 2+1]? = some (.int .u64 (q.2:Int)):=by
 rw[pcells_app,List.getElem?_append_right (by rw[pcells_len];omega),pcells_len,show L.length * 2+1 - L.length * 2=1 by omega];rfl
theorem pcells_set (L:List (Int × Nat)) (q:Int × Nat) (n:Nat):(pcells (L++[q])).set (L.length * 2+1) (.int .u64 (n:Int))=pcells (L++[(q.1,n)]):=by
 rw[pcells_app,pcells_app,List.set_append_right _ _ (by rw[pcells_len];omega),pcells_len,show L.length * 2+1 - L.length * 2=1 by omega];rfl
theorem Tryd.elPl:Elem Tryd.prog 80 123 (.agg #[.int .i64 0,.int .u64 0]) 2 16:=⟨Tryd.underlying80,by kernel_rfl,by decide⟩
theorem last_split (L:List (Int × Nat)):L=[]∨∃ L' q,L=L'++[q]:=by
 by_cases h:L=[]
 ·exact .inl h
 ·exact .inr ⟨L.dropLast,L.getLast h,(List.dropLast_concat_getLast h).symm⟩
theorem plstep_lt {s:Option (List (Int × Nat))} {p:Int × Nat} (h:∀ L,s=some L→∀ q∈L,q.2<18446744073709551616) (hp:p.2<18446744073709551616):∀ L,plstep s p=some L→∀ q∈L,q.2<18446744073709551616:=by
 intro L hL q hq
 cases s with
 | none=>cases hL
 | some L0 =>
  have h0:=h L0 rfl
  rcases last_split L0 with rfl|⟨L',r,rfl⟩
  ·rw[plstep_new] at hL
   cases hL
   rw[List.mem_singleton.1 hq];exact hp
  ·by_cases h1:r.1=p.1
   ·by_cases h2:r.2+p.2<18446744073709551616
    ·rw[plstep_sum L' r p h1 h2] at hL
     cases hL
     rcases List.mem_append.1 hq with hq|hq
     ·exact h0 q (List.mem_append_left _ hq)
     ·rw[List.mem_singleton.1 hq];exact h2
    ·rw[plstep_over L' r p h1 h2] at hL;cases hL
   ·rw[plstep_far L' r p h1] at hL
    cases hL
    rcases List.mem_append.1 hq with hq|hq
    ·exact h0 q hq
    ·rw[List.mem_singleton.1 hq];exact hp
theorem rp_lt {x:Pt} (hok:x.Ok) (j:Nat):∀ L,rp (x.pls j)=some L→∀ q∈L,q.2<18446744073709551616:=by
 induction j with
 | zero=>intro L hL q hq;cases hL;cases hq
 | succ j ih =>
  by_cases h0:x.ct j=0
  ·rw[pls_no h0];exact ih
  ·rw[pls_yes h0,rp_app];exact plstep_lt ih (getD_lt9 hok.each j)
theorem own_mono9 {w:World} {b b':Nat} {e:TypeId} {size:Nat} {v:Value} {n:Nat} {xs:List Value} (h:w.ownsRow b e size v n xs) (hb:b'≤b):w.ownsRow b' e size v n xs :=
 ⟨h.1,h.2.imp_right fun ⟨g,cap,cur,h1,h2,h3⟩=>⟨g,cap,cur,h1,Nat.le_trans hb h2,h3⟩⟩
def PlPost (x:Pt) (w:World) (E:Ending) (w':World):Prop :=
 Below w.heap.size w w'∧match rp (x.pls x.cs.length) with
  | none=>E = .returned (.tuple #[.slice none 0 0,.bool false])
  | some L=>∃ v,E = .returned (.tuple #[v,.bool true])∧w'.ownsRow w.heap.size 123 2 v L.length (pcells L)
theorem rp_stop (x:Pt) {j:Nat} (h:rp (x.pls j)=none):∀ k,rp (x.pls (j+k))=none:=by
 intro k
 induction k with
 | zero=>exact h
 | succ k ih =>
  by_cases h0:x.ct (j+k)=0
  ·rw[←Nat.add_assoc,pls_no h0];exact ih
  ·rw[←Nat.add_assoc,pls_yes h0,rp_app,ih];rfl
theorem places_any (x:Pt) (hok:Hid x.Ok) (bo:Option Addr) (cap:Nat) (U:ByteArray) (w:World) (hN:Hid (Nats .u64 w bo x.cs)) :
  Calls Tryd.prog 33 #[.agg #[.int .i32 x.off,.slice bo x.cs.length cap,.string U],.int .i64 (x.sh:Int)] w (PlPost x w):=by
 have hxl:=hok.out.len
 have hxo:=hok.out.lo
 have hxh:=hok.out.hi
 have hxs:=hok.out.sh
 obtain ⟨b0,HB0⟩:∃ b,Hid (w.heap.size=b):=⟨_,Lib.hid rfl⟩
 obtain ⟨W,HW⟩:∃ W,Hid (w.alloc (.cells #[.int .i32 x.off,.slice bo x.cs.length cap,.string U] 24)=W):=⟨_,Lib.hid rfl⟩
 have HBW:Hid (Below w.heap.size w W):=Lib.hid (by rw[←HW.out];exact below_new _ _)
 have HRW:Hid (W.heap[b0]? = some (.cells #[.int .i32 x.off,.slice bo x.cs.length cap,.string U] 24 (0,0))):=Lib.hid (by rw[←HW.out,←HB0.out];exact heap_alloc_new w _)
 go_enter Tryd.func33,Tryd.ntmps33
 go_upto_region 1 with fail
 rw[HW.out,HB0.out]
 have q0:IntKind.u64.wrap (x.sh:Int)=(x.sh:Int):=IntWalk.u64_in _ (by omega)
 have q3:min x.sh 64=x.sh:=by omega
 go_wp2_with fail
 go_loopg [6,7] x.cs.length (fun k vo i wr=>∃ (j:Nat) (L:List (Int × Nat)),i = .int .i64 (j:Int)∧j+k=x.cs.length∧Hid (Below W.heap.size W wr)∧Hid (wr.ownsRow W.heap.size 123 2 vo L.length (pcells L))∧Hid (rp (x.pls j)=some L)∧Hid (L.length≤j))
 case atStart=>exact ⟨0,[],rfl,by omega,Lib.hid (Below.refl _ _),Lib.hid ⟨rfl,.inl ⟨rfl,rfl⟩⟩,Lib.hid rfl,Lib.hid (Nat.le_refl _)⟩
 case round =>
  obtain ⟨j,L,rfl,hj,HB,HO,HRP,HLL⟩:=hrel
  have HJ:=Lib.hid hj
  clear hj
  have HR:=Lib.hid ((HB.out.block b0 (row_lt HRW.out)).trans HRW.out)
  have HBA:=Lib.hid (below_step HBW.out HB.out)
  have hb0:wr.cell? ⟨b0,0,none⟩=some (.int .i32 x.off):=row_cell HR.out (j:=0) rfl
  have hb1:wr.cell? ⟨b0,1,none⟩=some (.slice bo x.cs.length cap):=row_cell HR.out (j:=1) rfl
  by_cases hlt:j<x.cs.length
  ·obtain ⟨g,o,n,HNN,rfl,hg,hc⟩:=ct_at (hN.out.below HBA.out) hlt
   have hn9:n<18446744073709551616:=by rw[HNN.out];exact getD_lt9 hok.out.each j
   by_cases h0:n=0
   ·have e1:((n:Int) == 0)=true:=by rw[beq_iff_eq];omega
    have e2:(n == 0)=true:=by rw[beq_iff_eq];exact h0
    have HP2:Hid (rp (x.pls (j+1))=some L):=Lib.hid (by rw[pls_no (by rw[←HNN.out];exact h0)];exact HRP.out)
    clear h0
    go_wp2_with fail
    have hj:=HJ.out
    go_roundg (gk - 1)
    case measure=>omega
    case rel=>exact ⟨j+1,L,by simp,by omega,HB,HO,HP2,Lib.hid (by have:=HLL.out;omega)⟩
   ·have e1:((n:Int) == 0)=false:=by rw[beq_eq_false_iff_ne];omega
    have e2:(n == 0)=false:=by rw[beq_eq_false_iff_ne];exact h0
    have HP2:Hid (rp (x.pls (j+1))=plstep (some L) (x.pl j,n)):=Lib.hid (by rw[pls_yes (by rw[←HNN.out];exact h0),rp_app,HRP.out,←HNN.out])
    have q1:IntKind.i64.wrap x.off=x.off:=IntWalk.i64_in _ (by omega)
    have q2:IntKind.i64.wrap (x.off+(j:Int))=x.off+(j:Int):=IntWalk.i64_in _ (by omega)
    clear h0
    rcases last_split L with rfl|⟨L',q,rfl⟩
    ·obtain ⟨ao,acap,rfl⟩:=own_slice HO.out
     go_wp2_with (at_builtin;refine wpList_app1_at (c:=1) (cs:=[.int .i64 (x.pl j),.int .u64 (n:Int)]) rfl _ _ 80 rfl Tryd.elPl (by decide) HO.out rfl (by show Value.slice (some ⟨wr.heap.size,0,none⟩) 1 1=_;simp) rfl (by simp[Value.oneCell']) (by have:=HLL.out;unfold maxLen;omega) (by have:=HLL.out;omega) (HB.out.size) ?_;intro g' cap' w2 hown2 hgrow hng)
     have HU2:Hid (Below W.heap.size W w2):=Lib.hid (HB.out.grown hgrow (by have:=HB.out.size;omega) (fun k hk=>(HO.out.lt k hk).1))
     have HO2:=Lib.hid hown2
     clear hown2 hgrow hng
     go_wp2_with fail
     have hj:=HJ.out
     go_roundg (gk - 1)
     case measure=>omega
     case rel=>exact ⟨j+1,[(x.pl j,n)],by simp,by omega,HU2,Lib.hid HO2.out,Lib.hid (by rw[HP2.out];rfl),Lib.hid (by simp)⟩
    ·obtain ⟨a,m⟩:=q
     have HO1:Hid (wr.ownsRow W.heap.size 123 2 u6 (L'.length+1) (pcells (L'++[(a,m)]))):=Lib.hid (by have h:=HO.out;rw[List.length_append] at h;exact h)
     have hLL:L'.length+1≤j:=by have h:=HLL.out;rw[List.length_append] at h;exact h
     clear HO HLL
     obtain ⟨g2,acap,rfl,hbg,hg2,_,_⟩:=own_some HO1.out (by omega)
     have hq0:wr.cell? ⟨g2,L'.length * 2,none⟩=some (.int .i64 a):=(HO1.out.cellAt _ (by omega)).trans (pcells_at0 L' (a,m))
     have hq1:wr.cell? ⟨g2,L'.length * 2+1,none⟩=some (.int .u64 (m:Int)):=(HO1.out.cellAt _ (by omega)).trans (pcells_at1 L' (a,m))
     have hfz:wr.frozen? ⟨g2,L'.length * 2+1,none⟩=false:=HO1.out.frozenAt _
     have q5:IntKind.i64.wrap (((L'.length+1:Nat):Int) - 1)=(L'.length:Int):=by rw[IntWalk.i64_in _ (by omega)];omega
     have d0:decide ((L'.length:Int) ≥ 0)=true:=decide_eq_true (by omega)
     by_cases ha:a=x.pl j
     ·have e3:(a == (x.off+(j:Int)) / 2 ^ x.sh)=true:=beq_iff_eq.2 ha
      have HA:=Lib.hid ha
      clear ha
      go_upto_region 9 with fail
      have hgA:g<wr.heap.size:=hg
      obtain ⟨D,hD⟩:∃ D,wr.drew=D:=⟨_,rfl⟩
      have hud:Upd (fun _=>False) wr D:=by rw[←hD];exact Upd.drew _ _
      have HBD:Hid (Below W.heap.size W D):=Lib.hid (HB.out.trans (hud.below HB.out.size (fun _ _ h=>h.elim)))
      have HOD:=Lib.hid (hud.own HO1.out (fun _ _ h=>h))
      have hr1:D.cell? ⟨b0,1,none⟩=some (.slice (some ⟨g,o,none⟩) x.cs.length cap):=(hud.cell (a:=⟨b0,1,none⟩) (row_lt HR.out) (fun h=>h)).trans hb1
      have hr2:D.cell? ⟨g,o+j,none⟩=some (.int .u64 (n:Int)):=(hud.cell (a:=⟨g,o+j,none⟩) hg (fun h=>h)).trans hc
      have hr3:D.cell? ⟨g2,L'.length * 2+1,none⟩=some (.int .u64 (m:Int)):=(hud.cell (a:=⟨g2,L'.length * 2+1,none⟩) hg2 (fun h=>h)).trans hq1
      have HFZ:Hid (D.frozen? ⟨g2,L'.length * 2+1,none⟩=false):=Lib.hid (HOD.out.frozenAt _)
      have HR3:=Lib.hid hr3
      have hm9:m<18446744073709551616:=rp_lt hok.out j _ HRP.out (a,m) (List.mem_append_right _ (List.mem_singleton.2 rfl))
      have i1:(L'.length:Int)<(L'.length:Int)+1:=by omega
      have i2:(0:Int)≤(L'.length:Int):=by omega
      have i3:(j:Int)<(x.cs.length:Int):=by omega
      have i4:(0:Int)≤(j:Int):=by omega
      have hne:Nonempty {w':World // w'=D}:=⟨⟨_,rfl⟩⟩
      have hl1:∀ s:{w':World // w'=D},s.1.cell? ⟨b0,1,none⟩=some (.slice (some ⟨g,o,none⟩) x.cs.length cap):=fun s=>by rw[s.2];exact hr1
      have hl2:∀ s:{w':World // w'=D},s.1.cell? ⟨g,o+j,none⟩=some (.int .u64 (n:Int)):=fun s=>by rw[s.2];exact hr2
      have hl3:∀ s:{w':World // w'=D},s.1.cell? ⟨g2,L'.length * 2+1,none⟩=some (.int .u64 (m:Int)):=fun s=>by rw[s.2];exact hr3
      clear hud hb0 hb1 hq0 hq1 hfz hr1 hr2 hr3 hc
      refine wp_region_seq (S:=fun w':World=>w'=D) [(0,true),(1,true),(2,true),(3,true),(4,true),(5,true),(6,true),(7,true),(8,true),(9,true),(10,false),(11,true),(12,true),(13,true),(14,true),(15,true)] (by kernel_rfl) (by kernel_rfl) (by kernel_rfl) (by kernel_rfl) hD ?_
      rw[hD]
      clear hD
      iterate 10 (refine seq_take _ rfl (fun KC hK=>?_);go_simp;(first|refine hK _ ?_|refine ⟨_,fun _ _=>rfl,hK _ ?_⟩);clear hK KC)
      clear hl1 hl2 hl3 hne
      refine seq_come _ rfl (fun KC hK=>?_);go_simp
      refine (rsum_any m n hm9 hn9 D).mono ?_;rintro E w1 ⟨rfl,rfl⟩
      go_simp;refine hK.out _ _ rfl ?_;clear hK KC
      iterate 5 (refine seq_take _ rfl (fun KC hK=>?_);go_simp;(first|refine hK _ ?_|refine ⟨_,fun _ _=>rfl,hK _ ?_⟩);clear hK KC)
      refine seq_done ?_
      by_cases hs:m+n<18446744073709551616
      ·have d7:decide (m+n<18446744073709551616)=true:=decide_eq_true hs
       obtain ⟨z,HZ⟩:∃ z,Hid (usum m n=z):=⟨_,Lib.hid rfl⟩
       have HZ2:Hid (z=m+n):=Lib.hid (by rw[←HZ.out];unfold usum;omega)
       rw[HZ.out]
       have HO4:=(HOD.out.stored (L'.length * 2+1) (.int .u64 (z:Int))).1
       rw[pcells_set] at HO4
       have HO5:=Lib.hid HO4
       have HU4:Hid (Below W.heap.size W (D.setCell ⟨g2,L'.length * 2+1,none⟩ (.int .u64 (z:Int)))):=Lib.hid (HBD.out.trans ((Upd.set D ⟨g2,L'.length * 2+1,none⟩ (.int .u64 (z:Int))).below HBD.out.size (fun k _ hk=>by have hk:k=g2:=hk;omega)))
       have HP3:Hid (rp (x.pls (j+1))=some (L'++[(a,z)])):=Lib.hid (by rw[HP2.out,plstep_sum L' (a,m) (x.pl j,n) HA.out hs,HZ2.out])
       have hr3:=HR3.out
       have hfz:=HFZ.out
       clear HO4 hs
       go_wp2_with fail
       clear hr3 hfz
       have hj:=HJ.out
       go_roundg (gk - 1)
       case measure=>omega
       case rel=>exact ⟨j+1,L'++[(a,z)],by simp,by omega,HU4,Lib.hid (by rw[List.length_append];exact HO5.out),HP3,Lib.hid (by rw[List.length_append];exact Nat.le_succ_of_le hLL)⟩
      ·have d7:decide (m+n<18446744073709551616)=false:=decide_eq_false hs
       have HP3:Hid (rp (x.pls x.cs.length)=none):=Lib.hid (by
        have h:=rp_stop x (j:=j+1) (by rw[HP2.out];exact plstep_over L' (a,m) (x.pl j,n) HA.out hs) (x.cs.length - (j+1))
        rw[show j+1+(x.cs.length - (j+1))=x.cs.length by omega] at h
        exact h)
       clear hs
       go_wp2_with fail
       go_ret2
       refine ⟨below_step HBW.out HBD.out,?_⟩
       rw[HP3.out]
       rfl
     ·have e3:(a == (x.off+(j:Int)) / 2 ^ x.sh)=false:=beq_eq_false_iff_ne.2 ha
      have HA:=Lib.hid ha
      clear ha
      go_wp2_with (at_builtin;refine wpList_app1_at (c:=1) (cs:=[.int .i64 (x.pl j),.int .u64 (n:Int)]) rfl _ _ 80 rfl Tryd.elPl (by decide) HO1.out rfl (by show Value.slice (some ⟨wr.heap.size,0,none⟩) 1 1=_;simp) rfl (by simp[Value.oneCell']) (by unfold maxLen;omega) (by omega) (HB.out.size) ?_;intro g' cap' w2 hown2 hgrow hng)
      have HU2:Hid (Below W.heap.size W w2):=Lib.hid (HB.out.grown hgrow (by have:=HB.out.size;omega) (fun k hk=>(HO1.out.lt k hk).1))
      have HO2:=Lib.hid hown2
      clear hown2 hgrow hng hq0 hq1 hfz
      go_wp2_with fail
      have hj:=HJ.out
      go_roundg (gk - 1)
      case measure=>omega
      case rel=>exact ⟨j+1,L'++[(a,m)]++[(x.pl j,n)],by simp,by omega,HU2,Lib.hid (by rw[pcells_app,List.length_append,List.length_append];exact HO2.out),Lib.hid (by rw[HP2.out];exact plstep_far L' (a,m) _ HA.out),Lib.hid (by rw[List.length_append,List.length_append];exact Nat.succ_le_succ hLL)⟩
  ·have hje:j=x.cs.length:=by have:=HJ.out;omega
   subst hje
   go_wp2_with fail
   go_ret2
   refine ⟨HBA.out,?_⟩
   rw[HRP.out]
   exact ⟨_,rfl,own_mono9 HO.out HBW.out.size⟩
end Go.Proofs.YtcblkndiclkacaaDoor
