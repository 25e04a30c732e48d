/-
  hygref25.dense: places as a side.
-/
import Derived.Test.YtcblkndiclkacaaDoorMgPlaces
set_option maxRecDepth 1000000
set_option maxHeartbeats 16000000
namespace Go.Proofs.YtcblkndiclkacaaDoor
open Go.RowKit
theorem pcells_j0 (L:List (Int × Nat)) (j:Nat) (q:Int × Nat) (h:L[j]? = some q):(pcells L)[j * 2]? = some (.int .i64 q.1)∧(pcells L)[j * 2+1]? = some (.int .u64 (q.2:Int)):=by
 induction L generalizing j with
 | nil=>simp at h
 | cons p L ih =>
  cases j with
  | zero =>
   simp only[List.getElem?_cons_zero,Option.some.injEq] at h
   subst h
   exact ⟨rfl,rfl⟩
  | succ j =>
   have h1:=ih j (by simpa using h)
   have hp:pcells (p::L)=[.int .i64 p.1,.int .u64 (p.2:Int)]++pcells L:=rfl
   rw[hp,List.getElem?_append_right (by simp;omega),List.getElem?_append_right (by simp;omega)]
   simp only[List.length_cons,List.length_nil]
   rw[show (j+1) * 2 - (0+1+1)=j * 2 by omega,show (j+1) * 2+1 - (0+1+1)=j * 2+1 by omega]
   exact h1
def dfold (f:Int) (C:List Nat) (L:List (Int × Nat)):List Nat:=L.foldl (fun C p=>C.set (p.1 - f).toNat p.2) C
theorem dfold_app (f:Int) (C:List Nat) (A B:List (Int × Nat)):dfold f C (A++B)=dfold f (dfold f C A) B:=by unfold dfold;rw[List.foldl_append]
theorem dfold_len (f:Int) (L:List (Int × Nat)):∀ C,(dfold f C L).length=C.length:=by
 induction L with
 | nil=>intro C;rfl
 | cons p L ih=>intro C;exact (ih _).trans (by simp)
def dans (L:List (Int × Nat)):Option (Int × List Nat):=match L.head?,L.getLast? with
 | some p,some q=>if 2147483647<p.1 then none else some (p.1,dfold p.1 (List.replicate (q.1 - p.1+1).toNat 0) L)
 | _,_=>some (0,[])
def DensePost (L:List (Int × Nat)) (w:World) (E:Ending) (w':World):Prop :=
 Below w.heap.size w w'∧match dans L with
  | none=>E = .returned (.tuple #[.agg #[.int .i32 0,.slice none 0 0,.string ⟨#[]⟩],.bool false])
  | some (o,C)=>∃ bo cap,E = .returned (.tuple #[.agg #[.int .i32 o,.slice bo C.length cap,.string ⟨#[]⟩],.bool true])∧(∀ g,bo=some g→w.heap.size≤g.block)∧Nats .u64 w' bo C
theorem dense_any (L:List (Int × Nat)) (v:Value) (base:Nat) (w:World) (hLL:L.length≤1000000) (hO:Hid (w.ownsRow base 123 2 v L.length (pcells L)))
  (hin:Hid (∀ p q,L.head? = some p→L.getLast? = some q → -2147483648≤p.1∧q.1 - p.1≤100000000∧q.1≤2149483648∧∀ r∈L,p.1≤r.1∧r.1≤q.1∧r.2<18446744073709551616)) :
  Calls Tryd.prog 34 #[v] w (DensePost L w):=by
 obtain ⟨a2,HA⟩:∃ a,Hid (w.heap.size=a):=⟨_,Lib.hid rfl⟩
 obtain ⟨W,HW⟩:∃ W,Hid (w.alloc (.cells #[.int .i32 0,.slice none 0 0,.string ⟨#[]⟩] 24)=W):=⟨_,Lib.hid rfl⟩
 have HB:Hid (Below w.heap.size w W):=Lib.hid (by rw[←HW.out];exact below_new _ _)
 have HR:Hid (W.heap[a2]? = some (.cells #[.int .i32 0,.slice none 0 0,.string ⟨#[]⟩] 24 (0,0))):=Lib.hid (by rw[←HW.out,←HA.out];exact heap_alloc_new w _)
 have HO:Hid (W.ownsRow base 123 2 v L.length (pcells L)):=Lib.hid ((Upd.of_new (S:=fun _=>False) HB.out).own hO.out (fun _ _ h=>h))
 have hz20:W.frozen? ⟨a2,0,none⟩=false:=row_thaw HR.out 0
 have hz21:W.frozen? ⟨a2,1,none⟩=false:=row_thaw HR.out 1
 have hz22:W.frozen? ⟨a2,2,none⟩=false:=row_thaw HR.out 2
 have ha0:W.cell? ⟨a2,0,none⟩=some (.int .i32 0):=row_cell HR.out (j:=0) rfl
 have ha1:W.cell? ⟨a2,1,none⟩=some (.slice none 0 0):=row_cell HR.out (j:=1) rfl
 have ha3:W.cell? ⟨a2,2,none⟩=some (.string ⟨#[]⟩):=row_cell HR.out (j:=2) rfl
 by_cases hL:L=[]
 ·subst hL
  obtain ⟨ao,cap,rfl⟩:=own_slice hO.out
  go_enter Tryd.func34,Tryd.ntmps34
  go_upto_region 1 with fail
  rw[HW.out,HA.out]
  go_wp2_with fail
  (try simp only[Exit.inBlock,Exit.then])
  have HZ:=buk_end (u := .int .i32 0) (v := .slice none 0 0) (s := .string ⟨#[]⟩) HB.out (Nat.le_of_eq HA.out) HR.out
  refine body_cell2v rfl rfl (load_buk HZ.2.1 rfl) rfl ?_
  exact ⟨HZ.1,none,0,rfl,(fun g h=>by cases h),fun h=>absurd rfl h⟩
 ·obtain ⟨p,hp⟩:∃ p,L.head? = some p:=⟨_,List.head?_eq_some_head hL⟩
  obtain ⟨q,hq⟩:∃ q,L.getLast? = some q:=⟨_,List.getLast?_eq_some_getLast hL⟩
  have hin2:=hin.out p q hp hq
  have hlen:0<L.length:=List.length_pos_iff.2 hL
  obtain ⟨gl,cap,rfl,hbg,hgl,_,_⟩:=own_some hO.out hlen
  have hp0:L[0]? = some p:=by rw[←List.head?_eq_getElem?];exact hp
  have hql:L[L.length - 1]? = some q:=by rw[←List.getLast?_eq_getElem?];exact hq
  obtain ⟨M,hM⟩:∃ M,L.length=M+1:=⟨L.length - 1,by omega⟩
  have HM:=Lib.hid hM
  have k0:W.cell? ⟨gl,0,none⟩=some (.int .i64 p.1):=(HO.out.cellAt 0 (by omega)).trans (pcells_j0 L 0 p hp0).1
  have k1:W.cell? ⟨gl,M * 2,none⟩=some (.int .i64 q.1):=(HO.out.cellAt (M * 2) (by omega)).trans (pcells_j0 L M q (by rw[hM] at hql;exact hql)).1
  have HDA:Hid (dans L=if 2147483647<p.1 then none else some (p.1,dfold p.1 (List.replicate (q.1 - p.1+1).toNat 0) L)):=Lib.hid (by unfold dans;rw[hp,hq])
  have HIN:=Lib.hid hin2
  have HPQ:=Lib.hid (And.intro hp0 hql)
  obtain ⟨f,hf⟩:∃ f,p.1=f:=⟨_,rfl⟩
  obtain ⟨l,hl⟩:∃ l,q.1=l:=⟨_,rfl⟩
  rw[hf] at k0
  rw[hl] at k1
  rw[hf,hl] at HDA HIN
  clear hf hl hp hq hin hin2 hp0 hql hL
  have e0:((M:Int)+1 == 0)=false:=beq_eq_false_iff_ne.2 (by omega)
  rw[hM] at hLL HO ⊢
  by_cases hbig:2147483647<f
  ·have d1:decide (f>2147483647)=true:=decide_eq_true hbig
   have HAN:Hid (dans L=none):=Lib.hid (by rw[HDA.out,if_pos hbig])
   clear hbig
   go_enter Tryd.func34,Tryd.ntmps34
   go_upto_region 1 with fail
   rw[HW.out,HA.out]
   go_wp2_with fail
   (try simp only[Exit.inBlock,Exit.then])
   have HZ:=buk_end (u := .int .i32 0) (v := .slice none 0 0) (s := .string ⟨#[]⟩) HB.out (Nat.le_of_eq HA.out) HR.out
   refine body_cell2v rfl rfl (load_buk HZ.2.1 rfl) rfl ?_
   refine ⟨HZ.1,?_⟩
   rw[HAN.out]
   rfl
  ·have d1:decide (f>2147483647)=false:=decide_eq_false hbig
   have hI:=HIN.out
   obtain ⟨N,HN⟩:∃ N,Hid (l - f+1=((N:Nat):Int)):=⟨(l - f+1).toNat,Lib.hid (by
    have h0:=hI.2.2.2 p (List.mem_of_getElem? HPQ.out.1)
    have h1:=hI.2.2.2 q (List.mem_of_getElem? HPQ.out.2)
    omega)⟩
   have hNN:=HN.out
   have q1:IntKind.i64.wrap (l - f)=l - f:=IntWalk.i64_in _ (by omega)
   have q2:IntKind.i64.wrap (l - f+1)=(N:Int):=by rw[hNN];exact IntWalk.i64_in _ (by omega)
   have q3:IntKind.i32.wrap f=f:=by rw[wrap_i32_def];split<;>omega
   have q4:IntKind.i64.wrap (((M+1:Nat):Int) - 1)=(M:Int):=by rw[IntWalk.i64_in _ (by omega)];omega
   have hN8:N≤100000001:=by omega
   have HAN:Hid (dans L=some (f,dfold f (List.replicate N 0) L)):=Lib.hid (by rw[HDA.out,if_neg hbig,show (l - f+1).toNat=N by omega])
   have HBIG:=Lib.hid hbig
   clear hI hNN hbig
   obtain ⟨i0,hi,hz0,hz1,hz2⟩:=info_parts Tryd.elU64n.2.1
   go_enter Tryd.func34,Tryd.ntmps34
   go_upto_region 1 with fail
   rw[HW.out,HA.out]
   clear hz20 hz21 hz22 ha0 ha1 ha3
   go_upto_region 6 with fail
   go_wp2_with (at_make;refine wpList_make_full _ rfl _ _ 22 rfl w.heap.size 40 i0 (.int .u64 0) 1 Tryd.underlying22 hi hz0 hz1 _ _ _ _ N rfl rfl (by omega) (by omega) (by rw[hz2];omega) (by unfold maxLen;omega) (by have:=HB.out.size;omega) ?_;intro w3 hown hgrow)
   have hrows:(madeCells (Value.int .u64 0).cells (N * 1)).toList=nvals (List.replicate N 0):=by
    rw[Nat.mul_one];exact (toList_madeCells_one _ _).trans (by simp[nvals])
   rw[hrows] at hown
   have hg3:=Upd.of_grown hgrow
   obtain ⟨g,HG⟩:∃ g,Hid (W.heap.size=g):=⟨_,Lib.hid rfl⟩
   obtain ⟨b5,HB5⟩:∃ b,Hid (w3.heap.size=b):=⟨_,Lib.hid rfl⟩
   rw[HG.out] at hown
   obtain ⟨W4,HW4⟩:∃ W,Hid (w3.alloc (.cells #[.int .i32 f,.slice (some ⟨g,0,none⟩) N N,.string ⟨#[]⟩] 24)=W):=⟨_,Lib.hid rfl⟩
   have hn4:Below w3.heap.size w3 W4:=by rw[←HW4.out];exact below_new _ _
   have hn3:Below W.heap.size W w3:=hg3.below (Nat.le_refl _) (fun k _ hk=>by cases hk)
   have hn24:Below W.heap.size W W4:=below_step hn3 hn4
   have HB4':Hid (Below w.heap.size w W4):=Lib.hid (below_step HB.out hn24)
   have hlen:(List.replicate N 0).length=N:=List.length_replicate
   have HS4:Hid (CtRow w.heap.size g (List.replicate N 0) W4):=Lib.hid (by
    unfold CtRow
    rw[hlen]
    exact (Upd.of_new (S:=fun _=>False) hn4).own hown (fun _ _ h=>h))
   have HR5:Hid (W4.heap[b5]? = some (.cells #[.int .i32 f,.slice (some ⟨g,0,none⟩) N N,.string ⟨#[]⟩] 24 (0,0))):=Lib.hid (by rw[←HW4.out,←HB5.out];exact heap_alloc_new w3 _)
   have HO4:Hid (W4.ownsRow base 123 2 (.slice (some ⟨gl,0,none⟩) (M+1) cap) (M+1) (pcells L)):=Lib.hid ((Upd.of_new (S:=fun _=>False) hn24).own HO.out (fun _ _ h=>h))
   have HR4:=Lib.hid ((hn24.block _ (row_lt HR.out)).trans HR.out)
   have hg3l:g<w3.heap.size:=by
    obtain ⟨g',_,e,_,h2,_⟩:=own_some hown (by have:=HIN.out;have:=HN.out;have h0:=HIN.out.2.2.2 p (List.mem_of_getElem? HPQ.out.1);have h1:=HIN.out.2.2.2 q (List.mem_of_getElem? HPQ.out.2);omega)
    simp only[Value.slice.injEq,Option.some.injEq,Addr.mk.injEq] at e;omega
   have HADR:Hid (w.heap.size=a2∧a2<g∧g<b5∧b5<W4.heap.size∧gl<w.heap.size):=Lib.hid (by
    have h1:=HA.out
    have h2:=row_lt HR.out
    have h3:=HG.out
    have h4:=HB5.out
    have h6:=row_lt HR5.out
    omega)
   clear hg3 hgrow hown hn3 hn4 hn24 hg3l hrows hlen k0 k1
   rw[HG.out,HB5.out,HW4.out]
   go_wp2_with fail
   have HDL:∀ j,(dfold f (List.replicate N 0) (L.take j)).length=N:=fun j=>(dfold_len f _ _).trans List.length_replicate
   go_loopg [6] (M+1) (fun k i wr=>∃ (j:Nat),i = .int .i64 (j:Int)∧j+k=M+1∧Hid (Upd (fun k=>k=g) W4 wr)∧Hid (CtRow w.heap.size g (dfold f (List.replicate N 0) (L.take j)) wr))
   case atStart=>exact ⟨0,rfl,by omega,Lib.hid (Upd.refl _ _),HS4⟩
   case round =>
    obtain ⟨j,rfl,hj,HU,HS⟩:=hrel
    have HJ:=Lib.hid hj
    clear hj
    have HR5':=Lib.hid ((HU.out.block b5 (row_lt HR5.out) (fun h=>by have h:b5=g:=h;have:=HADR.out;omega)).trans HR5.out)
    have HO5:Hid (wr.ownsRow base 123 2 (.slice (some ⟨gl,0,none⟩) (M+1) cap) (M+1) (pcells L)):=Lib.hid (HU.out.own HO4.out (fun k hk hs=>by simp[Value.ownBlock] at hk;have hs:k=g:=hs;have:=HADR.out;omega))
    obtain ⟨C,HC⟩:∃ C,Hid (dfold f (List.replicate N 0) (L.take j)=C):=⟨_,Lib.hid rfl⟩
    have hCl:C.length=N:=by rw[←HC.out];exact HDL j
    rw[HC.out] at HS
    by_cases hlt:j<M+1
    ·obtain ⟨r,hr⟩:∃ r,L[j]? = some r:=⟨_,List.getElem?_eq_getElem (by rw[HM.out];exact hlt)⟩
     have HRM:=Lib.hid (HIN.out.2.2.2 r (List.mem_of_getElem? hr))
     have HC2:Hid (dfold f (List.replicate N 0) (L.take (j+1))=C.set (r.1 - f).toNat r.2):=Lib.hid (by
      rw[List.take_add_one,hr,dfold_app,HC.out];rfl)
     have HPC:=Lib.hid (pcells_j0 L j r hr)
     clear hr
     obtain ⟨a,m⟩:=r
     obtain ⟨x,HX⟩:∃ x:Nat,Hid (a - f=(x:Int)):=⟨(a - f).toNat,Lib.hid (by have h:f≤a∧a≤l∧m<18446744073709551616:=HRM.out;omega)⟩
     have hxN:x<N:=by have h:f≤a∧a≤l∧m<18446744073709551616:=HRM.out;have:=HX.out;have:=HN.out;omega
     have hxw:IntKind.i64.wrap (a - f)=(x:Int):=by rw[HX.out];exact IntWalk.i64_in _ (by omega)
     have HTN:Hid ((a - f).toNat=x):=Lib.hid (by have:=HX.out;omega)
     obtain ⟨D,hD⟩:∃ D,wr.drew=D:=⟨_,rfl⟩
     have hud:Upd (fun _=>False) wr D:=by rw[←hD];exact Upd.drew _ _
     have HUD:Hid (Upd (fun k=>k=g) W4 D):=Lib.hid (HU.out.trans (hud.mono fun _ _ h=>h.elim))
     have HSD:Hid (CtRow w.heap.size g C D):=Lib.hid (HS.out.upd hud (fun h=>h))
     have hS:D.heap[b5]? = some (.cells #[.int .i32 f,.slice (some ⟨g,0,none⟩) N N,.string ⟨#[]⟩] 24 (0,0))∧D.ownsRow base 123 2 (.slice (some ⟨gl,0,none⟩) (M+1) cap) (M+1) (pcells L):=⟨(hud.block _ (row_lt HR5'.out) (fun h=>h)).trans HR5'.out,hud.own HO5.out (fun _ _ h=>h)⟩
     have hne:Nonempty {w':World // w'.heap[b5]? = some (.cells #[.int .i32 f,.slice (some ⟨g,0,none⟩) N N,.string ⟨#[]⟩] 24 (0,0))∧w'.ownsRow base 123 2 (.slice (some ⟨gl,0,none⟩) (M+1) cap) (M+1) (pcells L)}:=⟨⟨_,hS⟩⟩
     have hl1:∀ s:{w':World // w'.heap[b5]? = some (.cells #[.int .i32 f,.slice (some ⟨g,0,none⟩) N N,.string ⟨#[]⟩] 24 (0,0))∧w'.ownsRow base 123 2 (.slice (some ⟨gl,0,none⟩) (M+1) cap) (M+1) (pcells L)},s.1.cell? ⟨b5,1,none⟩=some (.slice (some ⟨g,0,none⟩) N N):=fun s=>row_cell s.2.1 (j:=1) rfl
     have hl2:∀ s:{w':World // w'.heap[b5]? = some (.cells #[.int .i32 f,.slice (some ⟨g,0,none⟩) N N,.string ⟨#[]⟩] 24 (0,0))∧w'.ownsRow base 123 2 (.slice (some ⟨gl,0,none⟩) (M+1) cap) (M+1) (pcells L)},s.1.cell? ⟨gl,j * 2,none⟩=some (.int .i64 a):=fun s=>(s.2.2.cellAt _ (by omega)).trans HPC.out.1
     have hl3:∀ s:{w':World // w'.heap[b5]? = some (.cells #[.int .i32 f,.slice (some ⟨g,0,none⟩) N N,.string ⟨#[]⟩] 24 (0,0))∧w'.ownsRow base 123 2 (.slice (some ⟨gl,0,none⟩) (M+1) cap) (M+1) (pcells L)},s.1.cell? ⟨gl,j * 2+1,none⟩=some (.int .u64 (m:Int)):=fun s=>(s.2.2.cellAt _ (by omega)).trans HPC.out.2
     have i1:(j:Int)<(M:Int)+1:=by omega
     have i2:(0:Int)≤(j:Int):=by omega
     have i3:(x:Int)<(N:Int):=by omega
     have i4:(0:Int)≤(x:Int):=by omega
     clear hud
     go_upto_region 10 with fail
     refine wp_region_seq (S:=fun w':World=>w'.heap[b5]? = some (.cells #[.int .i32 f,.slice (some ⟨g,0,none⟩) N N,.string ⟨#[]⟩] 24 (0,0))∧w'.ownsRow base 123 2 (.slice (some ⟨gl,0,none⟩) (M+1) cap) (M+1) (pcells L)) [(0,true),(1,true),(2,true),(3,true),(4,true),(5,true),(6,true),(7,true),(8,true),(9,true),(10,true),(11,true),(12,true),(13,true),(14,true),(15,false)] (by kernel_rfl) (by kernel_rfl) (by kernel_rfl) (by kernel_rfl) (by rw[hD];exact hS) ?_
     rw[hD]
     clear hD
     iterate 15 (refine seq_take _ rfl (fun KC hK=>?_);go_simp;(first|refine hK _ ?_|refine ⟨_,fun _ _=>rfl,hK _ ?_⟩);clear hK KC)
     clear hl1 hl2 hl3 hne
     have hfz:D.frozen? ⟨g,x,none⟩=false:=HSD.out.frozenAt x
     have hce:D.cell? ⟨g,x,none⟩=some (.int .u64 ((C.getD x 0:Nat):Int)):=(HSD.out.cellAt x (by omega)).trans (nvals_at C x (by omega))
     have hu2:=Upd.set D ⟨g,x,none⟩ (.int .u64 (m:Int))
     have hS2:(D.setCell ⟨g,x,none⟩ (.int .u64 (m:Int))).heap[b5]? = some (.cells #[.int .i32 f,.slice (some ⟨g,0,none⟩) N N,.string ⟨#[]⟩] 24 (0,0))∧(D.setCell ⟨g,x,none⟩ (.int .u64 (m:Int))).ownsRow base 123 2 (.slice (some ⟨gl,0,none⟩) (M+1) cap) (M+1) (pcells L):=⟨(hu2.block _ (row_lt hS.1) (fun h=>by have h:b5=g:=h;have:=HADR.out;omega)).trans hS.1,hu2.own hS.2 (fun k hk hs=>by simp[Value.ownBlock] at hk;have hs:k=g:=hs;have:=HADR.out;omega)⟩
     refine seq_come _ rfl (fun KC hK=>?_);go_simp
     refine hK.out _ _ hS2 ?_;clear hK KC
     refine seq_done ?_
     have HU3:=Lib.hid (HUD.out.trans hu2)
     have HS3:Hid (CtRow w.heap.size g (C.set x m) (D.setCell ⟨g,x,none⟩ (.int .u64 (m:Int)))):=Lib.hid (by
      have h:=(HSD.out.stored x (.int .u64 (m:Int))).1
      rw[nvals_set] at h
      unfold CtRow
      rw[List.length_set]
      exact h)
     clear hu2 hS2 hS hfz hce i1 i2 i3 i4
     go_wp2_with fail
     have hj:=HJ.out
     go_roundg (gk - 1)
     case measure=>omega
     case rel=>exact ⟨j+1,by simp,by omega,HU3,Lib.hid (by rw[HC2.out,HTN.out];exact HS3.out)⟩
    ·have hje:j=M+1:=by have:=HJ.out;omega
     have HCA:Hid (dans L=some (f,C)):=Lib.hid (by rw[HAN.out,←HC.out,hje,←HM.out,List.take_length])
     have HBR:Hid (Below w.heap.size w wr):=Lib.hid (HB4'.out.trans (HU.out.below HB4'.out.size (fun k _ hk=>by have h9:=HADR.out;have hk:k=g:=hk;omega)))
     have HRR:=Lib.hid ((HU.out.block _ (row_lt HR4.out) (fun hk=>by have h9:=HADR.out;have hk:a2=g:=hk;omega)).trans HR4.out)
     clear hje
     have hz20:wr.frozen? ⟨a2,0,none⟩=false:=row_thaw HRR.out 0
     have hz21:wr.frozen? ⟨a2,1,none⟩=false:=row_thaw HRR.out 1
     have hz22:wr.frozen? ⟨a2,2,none⟩=false:=row_thaw HRR.out 2
     have ha0:wr.cell? ⟨a2,0,none⟩=some (.int .i32 0):=row_cell HRR.out (j:=0) rfl
     have ha1:wr.cell? ⟨a2,1,none⟩=some (.slice none 0 0):=row_cell HRR.out (j:=1) rfl
     have ha3:wr.cell? ⟨a2,2,none⟩=some (.string ⟨#[]⟩):=row_cell HRR.out (j:=2) rfl
     have hx0:wr.cell? ⟨b5,0,none⟩=some (.int .i32 f):=row_cell HR5'.out (j:=0) rfl
     have hx1:wr.cell? ⟨b5,1,none⟩=some (.slice (some ⟨g,0,none⟩) N N):=row_cell HR5'.out (j:=1) rfl
     have hx3:wr.cell? ⟨b5,2,none⟩=some (.string ⟨#[]⟩):=row_cell HR5'.out (j:=2) rfl
     go_wp2_with fail
     (try simp only[Exit.inBlock,Exit.then])
     have HZ:=buk_end (u := .int .i32 f) (v := .slice (some ⟨g,0,none⟩) N N) (s := .string ⟨#[]⟩) HBR.out (by have:=HADR.out;omega) HRR.out
     refine body_cell2v rfl rfl (load_buk HZ.2.1 rfl) rfl ?_
     refine ⟨HZ.1,?_⟩
     rw[HCA.out]
     exact ⟨some ⟨g,0,none⟩,N,(by show _=Ending.returned (.tuple #[.agg #[.int .i32 f,.slice (some ⟨g,0,none⟩) C.length N,.string ⟨#[]⟩],.bool true]);rw[hCl];rfl),(fun g' h=>by cases h;have h9:=HADR.out;show w.heap.size≤g;omega),nats_of_own ((Upd.own HZ.2.2 HS.out (fun k hk hs=>by simp[Value.ownBlock] at hk;have hs:k=a2:=hs;have h9:=HADR.out;omega)))⟩
end Go.Proofs.YtcblkndiclkacaaDoor
