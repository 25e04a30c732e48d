/-
  merge.add: the side that parts make together.
-/
import Derived.Test.YtoggpnfeioaidaaDoorMgAdd1
import Derived.Test.YtoggpnfeioaidaaDoorBukWrite
import Derived.Test.YtoggpnfeioaidaaDoorMgEach
set_option maxRecDepth 1000000
set_option maxHeartbeats 16000000
namespace Go.Proofs.YtoggpnfeioaidaaDoor
open Go.RowKit
theorem efold_in (l:List (Int × Nat)):∀ s:Int × Int,s.1≤s.2→(efold s l).1≤(efold s l).2∧(s.1<s.2→(efold s l).1≤s.1∧s.2≤(efold s l).2)∧∀ p∈l,(efold s l).1≤p.1∧p.1<(efold s l).2:=by
 induction l with
 | nil=>intro s hs;exact ⟨hs,fun _=>⟨Int.le_refl _,Int.le_refl _⟩,fun p hp=>by cases hp⟩
 | cons x l ih =>
  intro s hs
  have he:efold s (x::l)=efold (mgest s x.1) l:=rfl
  have h1:(mgest s x.1).1≤x.1∧x.1<(mgest s x.1).2∧(s.1<s.2→(mgest s x.1).1≤s.1∧s.2≤(mgest s x.1).2):=by
   show min (if s.1=s.2 then x.1 else s.1) x.1≤x.1∧x.1<max (if s.1=s.2 then x.1+1 else s.2) (x.1+1)∧(s.1<s.2→min (if s.1=s.2 then x.1 else s.1) x.1≤s.1∧s.2≤max (if s.1=s.2 then x.1+1 else s.2) (x.1+1))
   split<;>omega
  obtain ⟨h2,h3,h4⟩:=ih (mgest s x.1) (by omega)
  have h5:=h3 (by omega)
  rw[he]
  refine ⟨h2,fun hlt=>by have:=h1.2.2 hlt;omega,fun p hp=>?_⟩
  rcases List.mem_cons.1 hp with rfl|hp
  ·omega
  ·exact h4 p hp
def astep (f:Int) (s:List Nat × Bool) (p:Int × Nat):List Nat × Bool:=(s.1.set (p.1 - f).toNat (usum (s.1.getD (p.1 - f).toNat 0) p.2),s.2||decide (18446744073709551616≤s.1.getD (p.1 - f).toNat 0+p.2))
def afold (f:Int) (s:List Nat × Bool) (l:List (Int × Nat)):List Nat × Bool:=l.foldl (astep f) s
theorem afold_app (f:Int) (s:List Nat × Bool) (a b:List (Int × Nat)):afold f s (a++b)=afold f (afold f s a) b:=by unfold afold;rw[List.foldl_append]
theorem afold_len (f:Int) (l:List (Int × Nat)):∀ s,(afold f s l).1.length=s.1.length:=by
 induction l with
 | nil=>intro s;rfl
 | cons x l ih=>intro s;exact (ih (astep f s x)).trans (by simp[astep])
theorem usum_lt (x y:Nat):usum x y<18446744073709551616:=by unfold usum;omega
theorem afold_lt (f:Int) (l:List (Int × Nat)):∀ s:List Nat × Bool,(∀ n∈s.1,n<18446744073709551616)→∀ n∈(afold f s l).1,n<18446744073709551616:=by
 induction l with
 | nil=>intro s h;exact h
 | cons x l ih =>
  intro s h
  refine ih (astep f s x) fun n hn=>?_
  rcases List.mem_or_eq_of_mem_set hn with hn|rfl
  ·exact h n hn
  ·exact usum_lt _ _
theorem pls_mem {x:Pt} {k i:Nat} (hi:i<k) (h:x.ct i≠0):(x.pl i,x.ct i)∈x.pls k:=List.mem_map.2 ⟨i,List.mem_filter.2 ⟨List.mem_range.2 hi,by simpa using h⟩,rfl⟩
theorem allP_mem {ps:List Pt} {x:Pt} (hx:x∈ps) {i:Nat} (hi:i<x.cs.length) (h:x.ct i≠0):(x.pl i,x.ct i)∈allP ps:=List.mem_flatMap.2 ⟨x,hx,pls_mem hi h⟩
def aans (ps:List Pt):Option (Int × List Nat) :=
 let s:=efold (0,0) (allP ps)
 if s.1=s.2 then some (0,[]) else
 if 2147483647<s.1 then none else
 let c:=afold s.1 (List.replicate (s.2 - s.1).toNat 0,false) (allP ps)
 if c.2 then none else some (s.1,c.1)
def MAddPost (ps:List Pt) (w:World) (E:Ending) (w':World):Prop :=
 Below w.heap.size w w'∧match aans ps with
  | none=>∃ v,E = .returned (.tuple #[.agg #[.int .i32 0,.slice none 0 0,.string ⟨#[]⟩],v])∧EC w' v 9
  | some (o,C)=>∃ bo cap,E = .returned (.tuple #[.agg #[.int .i32 o,.slice bo C.length cap,.string ⟨#[]⟩],.nilIface])∧C.length≤cap∧(bo=none→cap=0)∧(∀ g,bo=some g→w.heap.size≤g.block)∧Nats .u64 w' bo C
theorem buk_end {w W:World} {a:Nat} {x y z u v s:Value} {T:TypeId} (hb:Below w.heap.size w W) (ha:w.heap.size≤a) (h:W.heap[a]? = some (.cells #[x,y,z] T (0,0))) :
  Below w.heap.size w (((W.setCell ⟨a,0,none⟩ u).setCell ⟨a,1,none⟩ v).setCell ⟨a,2,none⟩ s)∧(((W.setCell ⟨a,0,none⟩ u).setCell ⟨a,1,none⟩ v).setCell ⟨a,2,none⟩ s).heap[a]? = some (.cells #[u,v,s] T (0,0))∧Upd (fun k=>k=a) W (((W.setCell ⟨a,0,none⟩ u).setCell ⟨a,1,none⟩ v).setCell ⟨a,2,none⟩ s):=by
 have hu:Upd (fun k=>k=a) W (((W.setCell ⟨a,0,none⟩ u).setCell ⟨a,1,none⟩ v).setCell ⟨a,2,none⟩ s):=((Upd.set W ⟨a,0,none⟩ u).trans (Upd.set _ ⟨a,1,none⟩ v)).trans (Upd.set _ ⟨a,2,none⟩ s)
 have h1:(W.setCell ⟨a,0,none⟩ u).heap[a]? = some (.cells #[u,y,z] T (0,0)):=row_set h 0 u
 have h2:((W.setCell ⟨a,0,none⟩ u).setCell ⟨a,1,none⟩ v).heap[a]? = some (.cells #[u,v,z] T (0,0)):=row_set h1 1 v
 have h3:(((W.setCell ⟨a,0,none⟩ u).setCell ⟨a,1,none⟩ v).setCell ⟨a,2,none⟩ s).heap[a]? = some (.cells #[u,v,s] T (0,0)):=row_set h2 2 s
 exact ⟨hb.trans (hu.below hb.size (fun k _ hk=>by have hk:k=a:=hk;omega)),h3,hu⟩
theorem AddS.upd {S:Nat→Prop} {base g b6 b4:Nat} {C:List Nat} {f:Int} {w w':World} (h:AddS base g b6 b4 C f w) (hu:Upd S w w') (hg:¬S g) (h6:¬S b6) (h4:¬S b4):AddS base g b6 b4 C f w':=⟨h.1.upd hu hg,(hu.block _ (row_lt h.2.1) h6).trans h.2.1,(hu.block _ (row_lt h.2.2) h4).trans h.2.2⟩
theorem add_any (ps:List Pt) (ao:Option Addr) (cap:Nat) (w:World) (hps:ps.length≤1000) (hok:Hid (∀ x∈ps,x.Ok)) (hp:Hid (PartsAt w ao ps)) {f t:Int} (hr:Hid (efold (0,0) (allP ps)=(f,t))) (hft:Hid (f≤t∧t - f≤100000000 ∧ -2147483648≤f∧t≤2149483649)) :
  Calls Tryd.prog 19 #[.slice ao ps.length cap] w (MAddPost ps w):=by
 have HE:=enters_of Tryd.func41 (by kernel_rfl) rfl
 have HIN:=Lib.hid (efold_in (allP ps) (0,0) (Int.le_refl _)).2.2
 rw[hr.out] at HIN
 obtain ⟨a2,ha⟩:∃ a,w.heap.size=a:=⟨_,rfl⟩
 obtain ⟨W0,hW⟩:∃ W,w.alloc (.cells #[.int .i32 0,.slice none 0 0,.string ⟨#[]⟩] 28)=W:=⟨_,rfl⟩
 have HBW:Hid (Below w.heap.size w W0):=Lib.hid (by rw[←hW];exact below_new _ _)
 have HRW:Hid (W0.heap[a2]? = some (.cells #[.int .i32 0,.slice none 0 0,.string ⟨#[]⟩] 28 (0,0))):=Lib.hid (by rw[←hW,←ha];exact heap_alloc_new w _)
 have HW:=Lib.hid hW
 have HA:=Lib.hid ha
 clear hW ha
 go_enter Tryd.func19,Tryd.ntmps19
 go_upto_region 1 with fail
 rw[HW.out,HA.out]
 go_wp2_with fail
 refine (ends_any ps ao cap W0 hps hok (Lib.hid (hp.out.below HBW.out)) hr).mono ?_
 rintro E w1 ⟨rfl,hb1⟩
 have HR1:=Lib.hid ((hb1.block _ (row_lt HRW.out)).trans HRW.out)
 have HB1:=Lib.hid (below_step HBW.out hb1)
 clear hb1
 obtain ⟨b4,HB4⟩:∃ b,Hid (w1.heap.size=b):=⟨_,Lib.hid rfl⟩
 obtain ⟨W2,HW2⟩:∃ W,Hid (w1.alloc (.cells #[.int .i64 f] 2)=W):=⟨_,Lib.hid rfl⟩
 have hn2:Below w1.heap.size w1 W2:=by rw[←HW2.out];exact below_new _ _
 have HB2:Hid (Below w.heap.size w W2):=Lib.hid (below_step HB1.out hn2)
 have HR2:Hid (W2.heap[a2]? = some (.cells #[.int .i32 0,.slice none 0 0,.string ⟨#[]⟩] 28 (0,0))):=Lib.hid ((hn2.block _ (row_lt HR1.out)).trans HR1.out)
 have HF2:Hid (W2.heap[b4]? = some (.cells #[.int .i64 f] 2 (0,0))):=Lib.hid (by rw[←HW2.out,←HB4.out];exact heap_alloc_new w1 _)
 have HAB:Hid (w.heap.size=a2∧a2<b4):=Lib.hid ⟨HA.out,by have:=row_lt HR1.out;have:=HB4.out;omega⟩
 clear hn2
 go_upto_region 2 with fail
 rw[HW2.out,HB4.out]
 have hc4:W2.cell? ⟨b4,0,none⟩=some (.int .i64 f):=row_cell HF2.out (j:=0) rfl
 have hz20:W2.frozen? ⟨a2,0,none⟩=false:=row_thaw HR2.out 0
 have hz21:W2.frozen? ⟨a2,1,none⟩=false:=row_thaw HR2.out 1
 have hz22:W2.frozen? ⟨a2,2,none⟩=false:=row_thaw HR2.out 2
 have ha0:W2.cell? ⟨a2,0,none⟩=some (.int .i32 0):=row_cell HR2.out (j:=0) rfl
 have ha1:W2.cell? ⟨a2,1,none⟩=some (.slice none 0 0):=row_cell HR2.out (j:=1) rfl
 have ha3:W2.cell? ⟨a2,2,none⟩=some (.string ⟨#[]⟩):=row_cell HR2.out (j:=2) rfl
 by_cases heq:f=t
 ·have e1:(f == t)=true:=beq_iff_eq.2 heq
  have HAN:Hid (aans ps=some (0,[])):=Lib.hid (by unfold aans;rw[hr.out];simp only;rw[if_pos heq])
  clear heq
  go_wp2_with fail
  (try simp only[Exit.inBlock,Exit.then])
  have HQ:=buk_end (u := .int .i32 0) (v := .slice none 0 0) (s := .string ⟨#[]⟩) HB2.out (by have:=HAB.out;omega) HR2.out
  refine body_cell2v rfl rfl (load_buk HQ.2.1 rfl) rfl ?_
  refine ⟨HQ.1,?_⟩
  rw[HAN.out]
  exact ⟨none,0,rfl,by simp,fun _=>rfl,(fun g h=>by cases h),fun h=>absurd rfl h⟩
 ·have e1:(f == t)=false:=beq_eq_false_iff_ne.2 heq
  by_cases hbig:2147483647<f
  ·have HAN:Hid (aans ps=none):=Lib.hid (by unfold aans;rw[hr.out];simp only;rw[if_neg heq,if_pos hbig])
   have d1:decide (f>2147483647)=true:=decide_eq_true hbig
   clear heq hbig ha0 ha1 ha3 hz20 hz21 hz22
   go_wp2_with fail
   refine (in_any 1 _ _ W2).mono ?_;rintro E w3 ⟨rfl,hw3⟩
   have hn3:Below W2.heap.size W2 w3:=by rw[hw3];exact below_new _ _
   have HB3:Hid (Below w.heap.size w w3):=Lib.hid (below_step HB2.out hn3)
   have HR3:=Lib.hid ((hn3.block _ (row_lt HR2.out)).trans HR2.out)
   have HF3:Hid (w3.heap[W2.heap.size]? = some (.cells #[.int .i64 1,.iface 59 (.int .i64 9)] 99 (0,0))):=Lib.hid (by rw[hw3];exact heap_alloc_new W2 _)
   obtain ⟨q,HQ⟩:∃ q,Hid (W2.heap.size=q):=⟨_,Lib.hid rfl⟩
   rw[HQ.out] at HF3 ⊢
   have HQA:Hid (q≠a2):=Lib.hid (by have:=row_lt HR2.out;have:=HQ.out;omega)
   clear hn3 hw3
   have hz20:w3.frozen? ⟨a2,0,none⟩=false:=row_thaw HR3.out 0
   have hz21:w3.frozen? ⟨a2,1,none⟩=false:=row_thaw HR3.out 1
   have hz22:w3.frozen? ⟨a2,2,none⟩=false:=row_thaw HR3.out 2
   have ha0:w3.cell? ⟨a2,0,none⟩=some (.int .i32 0):=row_cell HR3.out (j:=0) rfl
   have ha1:w3.cell? ⟨a2,1,none⟩=some (.slice none 0 0):=row_cell HR3.out (j:=1) rfl
   have ha3:w3.cell? ⟨a2,2,none⟩=some (.string ⟨#[]⟩):=row_cell HR3.out (j:=2) rfl
   go_wp2_with fail
   (try simp only[Exit.inBlock,Exit.then])
   have HZ:=buk_end (u := .int .i32 0) (v := .slice none 0 0) (s := .string ⟨#[]⟩) HB3.out (by have:=HAB.out;omega) HR3.out
   refine body_cell2v rfl rfl (load_buk HZ.2.1 rfl) rfl ?_
   refine ⟨HZ.1,?_⟩
   rw[HAN.out]
   exact ⟨_,rfl,field_ec ((HZ.2.2.block _ (row_lt HF3.out) HQA.out).trans HF3.out)⟩
  ·have d1:decide (f>2147483647)=false:=decide_eq_false hbig
   obtain ⟨N,HN⟩:∃ N,Hid (t - f=((N:Nat):Int)):=⟨(t - f).toNat,Lib.hid (by have:=hft.out;omega)⟩
   have hNI:IntKind.i64.wrap (t - f)=(N:Int):=by rw[HN.out];exact IntWalk.i64_in _ (by have:=hft.out;have:=HN.out;omega)
   have HBIG:=Lib.hid (And.intro heq hbig)
   have hN8:N≤100000000:=by have:=hft.out;have:=HN.out;omega
   clear heq hbig hz20 hz21 hz22 ha0 ha1 ha3
   obtain ⟨i0,hi,hz0,hz1,hz2⟩:=info_parts Tryd.elU64n.2.1
   go_upto_region 6 with fail
   go_wp2_with (at_make;refine wpList_make_full _ rfl _ _ 26 rfl w.heap.size 23 i0 (.int .u64 0) 1 Tryd.underlying26 hi hz0 hz1 _ _ _ _ N rfl rfl (by omega) (by omega) (by rw[hz2];omega) (by unfold maxLen;omega) (by have:=HB2.out.size;omega) ?_;intro w3 hown hgrow)
   have hrows:(madeCells (Value.int .u64 0).cells (N * 1)).toList=nvals (List.replicate N 0):=by
    rw[Nat.mul_one];exact (toList_madeCells_one _ _).trans (by simp[nvals])
   rw[hrows] at hown
   have hg3:=Upd.of_grown hgrow
   obtain ⟨g,HG⟩:∃ g,Hid (W2.heap.size=g):=⟨_,Lib.hid rfl⟩
   obtain ⟨b6,HB6⟩:∃ b,Hid (w3.heap.size=b):=⟨_,Lib.hid rfl⟩
   obtain ⟨c,HC6⟩:∃ c,Hid (w3.heap.size+1=c):=⟨_,Lib.hid rfl⟩
   rw[HG.out] at hown
   obtain ⟨W4,HW4⟩:∃ W,Hid ((w3.alloc (.cells #[.slice (some ⟨g,0,none⟩) N N] 26)).alloc (.cells #[.nilIface] 74)=W):=⟨_,Lib.hid rfl⟩
   have hn4:Below w3.heap.size w3 W4:=by rw[←HW4.out];exact below_step (below_new _ _) (below_new _ _)
   have hn3:Below W2.heap.size W2 w3:=hg3.below (Nat.le_refl _) (fun k _ hk=>by cases hk)
   have hn24:Below W2.heap.size W2 W4:=below_step hn3 hn4
   have HB4':Hid (Below w.heap.size w W4):=Lib.hid (below_step HB2.out hn24)
   have hlen:(List.replicate N 0).length=N:=List.length_replicate
   have HS4:Hid (AddS w.heap.size g b6 b4 (List.replicate N 0) f W4):=Lib.hid (by
    unfold AddS CtRow
    rw[hlen]
    refine ⟨(Upd.of_new (S:=fun _=>False) hn4).own hown (fun _ _ h=>h),?_,(hn24.block _ (row_lt HF2.out)).trans HF2.out⟩
    rw[←HW4.out,←HB6.out]
    exact (Below.heap_alloc _ _ _ (by simp)).trans (heap_alloc_new w3 _))
   have hc4e:W4.heap[c]? = some (.cells #[.nilIface] 74 (0,0)):=by
    rw[←HW4.out,←HC6.out]
    have h:=heap_alloc_new (w3.alloc (.cells #[.slice (some ⟨g,0,none⟩) N N] 26)) (.cells #[.nilIface] 74)
    rw[show (w3.alloc (.cells #[.slice (some ⟨g,0,none⟩) N N] 26)).heap.size=w3.heap.size+1 by simp] at h
    exact h
   have HE4:Hid (EdgeRow (c+1) c false W4):=Lib.hid (EdgeRow.no hc4e)
   have hg3l:g<w3.heap.size:=by
    obtain ⟨g',_,e,_,h2,_⟩|h:=(Classical.em (0<N)).imp (fun h=>own_some hown h) id
    ·simp only[Value.slice.injEq,Option.some.injEq,Addr.mk.injEq] at e;omega
    ·exact absurd HN.out (by have:=HBIG.out;have:=hft.out;omega)
   have HADR:Hid (w.heap.size=a2∧a2<b4∧b4<g∧g<b6∧b6<c∧c<W4.heap.size):=Lib.hid (by
    have h1:=HAB.out
    have h2:=row_lt HF2.out
    have h3:=HG.out
    have h4:=HB6.out
    have h5:=HC6.out
    have h6:=row_lt hc4e
    omega)
   have HR4:=Lib.hid ((hn24.block _ (row_lt HR2.out)).trans HR2.out)
   rw[HG.out,HC6.out,HB6.out,HW4.out]
   clear hg3 hgrow hown hn3 hn4 hn24 hc4e hg3l hrows hc4 hlen
   go_loopg [30] ps.length (fun k i wr=>∃ (j:Nat) (C:List Nat) (eb:Bool),i = .int .i64 (j:Int)∧j+k=ps.length∧Hid (Upd (fun k=>k=g∨k=c) W4 wr)∧Hid (AddS w.heap.size g b6 b4 C f wr)∧Hid (EdgeRow (c+1) c eb wr)∧Hid (afold f (List.replicate N 0,false) (allP (ps.take j))=(C,eb)))
   case atStart=>exact ⟨0,_,_,rfl,by omega,Lib.hid (Upd.refl _ _),HS4,HE4,Lib.hid rfl⟩
   case round =>
    obtain ⟨j,C,eb,rfl,hj,HU,HS,HE5,HAF⟩:=hrel
    have HJ:=Lib.hid hj
    clear hj
    by_cases hlt:j<ps.length
    ·obtain ⟨gp,off,bo,cp,U,rfl,hgp,h0,h1,h2,h3,h4⟩:=hp.out j hlt
     obtain ⟨x,hx⟩:∃ x,ps[j]=x:=⟨_,rfl⟩
     have HXM:Hid (x∈ps):=Lib.hid (hx ▸ List.getElem_mem hlt)
     have HOKX:Hid x.Ok:=Lib.hid (hok.out x HXM.out)
     have HEX:Hid (afold f (List.replicate N 0,false) (allP (ps.take (j+1)))=afold f (C,eb) (x.pls x.cs.length)):=Lib.hid (by rw[allP_take hlt,afold_app,HAF.out,hx])
     have HCL:Hid (C.length=N∧∀ n∈C,n<18446744073709551616):=Lib.hid (by
      have h:=afold_len f (allP (ps.take j)) (List.replicate N 0,false)
      have h':=afold_lt f (allP (ps.take j)) (List.replicate N 0,false) (fun n hn=>by rw[List.eq_of_mem_replicate hn];decide)
      rw[HAF.out] at h h'
      exact ⟨h.trans List.length_replicate,h'⟩)
     rw[hx] at h0 h1 h3 h4
     have H4:=Lib.hid h4
     have HBR:Hid (Below w.heap.size w wr):=Lib.hid (HB4'.out.trans (HU.out.below HB4'.out.size (fun k _ hk=>by have h9:=HADR.out;rcases hk with hk|hk<;>omega)))
     have k0:=(HBR.out.cell (p:=⟨gp,off+j * 4,none⟩) hgp).trans h0
     have k1:=(HBR.out.cell (p:=⟨gp,off+j * 4+1,none⟩) hgp).trans h1
     have k2:=(HBR.out.cell (p:=⟨gp,off+j * 4+2,none⟩) hgp).trans h2
     have k3:=(HBR.out.cell (p:=⟨gp,off+j * 4+3,none⟩) hgp).trans h3
     have hxl:=HOKX.out.len
     clear hx h0 h1 h2 h3 h4
     go_wp2_with fail
     obtain ⟨wq,hwq⟩:∃ X,wr.alloc (.cells #[.int .i32 x.off,.slice bo x.cs.length cp,.string U,.int .i64 (x.sh:Int)] 65)=X:=⟨_,rfl⟩
     rw[hwq]
     have hq:Below wr.heap.size wr wq:=by rw[←hwq];exact below_new _ _
     have HUQ:Hid (Upd (fun k=>k=g∨k=c) W4 wq):=Lib.hid (HU.out.trans (Upd.of_new hq))
     have HBQ:Hid (Below w.heap.size w wq):=Lib.hid (below_step HBR.out hq)
     have HSQ:Hid (AddS w.heap.size g b6 b4 C f wq):=Lib.hid (HS.out.upd (Upd.of_new (S:=fun _=>False) hq) (fun h=>h) (fun h=>h) (fun h=>h))
     have HEQ:Hid (EdgeRow (c+1) c eb wq):=Lib.hid (HE5.out.upd (Upd.of_new (S:=fun _=>False) hq) (fun h=>h) (fun k h=>h.elim))
     clear hwq hq k0 k1 k2 k3
     refine (each_any 41 HE #[.pointer (some ⟨c,0,none⟩),.pointer (some ⟨b6,0,none⟩),.pointer (some ⟨b4,0,none⟩)] x HOKX bo cp U wq (fun k=>k=g∨k=c) (Lib.hid (fun k hk=>by have h9:=HADR.out;have:=HUQ.out.size;rcases hk with hk|hk<;>omega)) (Lib.hid (H4.out.below HBQ.out)) (Lib.hid (fun hn b' o' e hk=>by
      obtain ⟨b2,o2,e2,hb2,_⟩:=H4.out hn
      rw[e] at e2
      simp only[Option.some.injEq,Addr.mk.injEq] at e2
      have h9:=HADR.out
      rcases hk with hk|hk<;>omega))
      (fun i w'=>AddS w.heap.size g b6 b4 (afold f (C,eb) (x.pls i)).1 f w'∧EdgeRow (c+1) c (afold f (C,eb) (x.pls i)).2 w')
      (Lib.hid (fun w' hu he=>by
       subst he
       exact ⟨HSQ.out.upd (Upd.alloc (fun _=>False) _ _) (fun h=>h) (fun h=>h) (fun h=>h),HEQ.out.upd (Upd.alloc (fun _=>False) _ _) (fun h=>h) (fun k h=>h.elim)⟩))
      (Lib.hid (fun i w2 hi hct hu hI=>by
       have hin:=HIN.out _ (allP_mem HXM.out hi hct)
       have hin1:f≤x.pl i:=hin.1
       have hin2:x.pl i<t:=hin.2
       have hN:=HN.out
       have hL:(afold f (C,eb) (x.pls i)).1.length=N:=(afold_len f (x.pls i) (C,eb)).trans HCL.out.1
       have hV:=afold_lt f (x.pls i) (C,eb) HCL.out.2
       have h9:=HADR.out
       have hsz:=HUQ.out.size
       have hsz2:=hu.size
       refine (add1_any (c+1) w.heap.size c g b6 b4 (afold f (C,eb) (x.pls i)).1 f (x.pl i) (x.pl i - f).toNat (x.ct i) (by omega) (by rw[hL];omega) (by rw[hL];omega) (getD_lt9 HOKX.out.each i) (getD_lt9 hV _) (afold f (C,eb) (x.pls i)).2 w2 (by omega) ⟨by omega,by omega,by omega,by omega,by omega⟩ ⟨by omega,by omega⟩ (Lib.hid hI.1) (Lib.hid hI.2) (e':=(astep f (afold f (C,eb) (x.pls i)) (x.pl i,x.ct i)).2) (Lib.hid rfl) (C':=(astep f (afold f (C,eb) (x.pls i)) (x.pl i,x.ct i)).1) (Lib.hid rfl)).mono ?_
       rintro e w3 ⟨rfl,h1,h2,h3⟩
       refine ⟨rfl,h1,?_⟩
       rw[pls_yes hct,afold_app]
       exact ⟨h2,h3⟩))
      (Lib.hid (fun i w2 hct hI=>by rw[pls_no hct];exact hI))).mono ?_
     rintro e w3 ⟨rfl,hu,hI⟩
     have HU3:=Lib.hid (HUQ.out.trans hu)
     have HI3:=Lib.hid hI
     clear hu hI
     go_wp2_with fail
     have hj:=HJ.out
     go_roundg (gk - 1)
     case measure=>omega
     case rel=>exact ⟨j+1,_,_,by simp,by omega,HU3,Lib.hid HI3.out.1,Lib.hid HI3.out.2,Lib.hid HEX.out⟩
    ·have hje:j=ps.length:=by have:=HJ.out;omega
     have HAE:Hid (afold f (List.replicate N 0,false) (allP ps)=(C,eb)):=Lib.hid (by have h:=HAF.out;rw[hje,List.take_length] at h;exact h)
     have HBR:Hid (Below w.heap.size w wr):=Lib.hid (HB4'.out.trans (HU.out.below HB4'.out.size (fun k _ hk=>by have h9:=HADR.out;rcases hk with hk|hk<;>omega)))
     have HRR:=Lib.hid ((HU.out.block _ (row_lt HR4.out) (fun hk=>by have h9:=HADR.out;rcases hk with hk|hk<;>omega)).trans HR4.out)
     clear hje
     have hz20:wr.frozen? ⟨a2,0,none⟩=false:=row_thaw HRR.out 0
     have hz21:wr.frozen? ⟨a2,1,none⟩=false:=row_thaw HRR.out 1
     have hz22:wr.frozen? ⟨a2,2,none⟩=false:=row_thaw HRR.out 2
     have ha0:wr.cell? ⟨a2,0,none⟩=some (.int .i32 0):=row_cell HRR.out (j:=0) rfl
     have ha1:wr.cell? ⟨a2,1,none⟩=some (.slice none 0 0):=row_cell HRR.out (j:=1) rfl
     have ha3:wr.cell? ⟨a2,2,none⟩=some (.string ⟨#[]⟩):=row_cell HRR.out (j:=2) rfl
     have HAN:Hid (aans ps=if eb then none else some (f,C)):=Lib.hid (by
      unfold aans;rw[hr.out];simp only;rw[if_neg HBIG.out.1,if_neg (by have:=HBIG.out.2;omega),show (t - f).toNat=N by have:=HN.out;omega,HAE.out])
     cases eb with
     | false =>
      have hce:wr.cell? ⟨c,0,none⟩=some .nilIface:=row_cell HE5.out.row_no (j:=0) rfl
      have hc4:wr.cell? ⟨b4,0,none⟩=some (.int .i64 f):=row_cell HS.out.2.2 (j:=0) rfl
      have hc6:wr.cell? ⟨b6,0,none⟩=some (.slice (some ⟨g,0,none⟩) C.length C.length):=row_cell HS.out.2.1 (j:=0) rfl
      have q9:IntKind.i32.wrap f=f:=by have:=hft.out;have:=HBIG.out;rw[wrap_i32_def];split<;>omega
      go_wp2_with fail
      (try simp only[Exit.inBlock,Exit.then])
      have HZ:=buk_end (u := .int .i32 f) (v := .slice (some ⟨g,0,none⟩) C.length C.length) (s := .string ⟨#[]⟩) HBR.out (by have:=HAB.out;omega) HRR.out
      refine body_cell2v rfl rfl (load_buk HZ.2.1 rfl) rfl ?_
      refine ⟨HZ.1,?_⟩
      rw[HAN.out]
      exact ⟨some ⟨g,0,none⟩,C.length,rfl,Nat.le_refl _,(fun h=>by cases h),(fun g' h=>by cases h;have h9:=HADR.out;show w.heap.size≤g;omega),nats_of_own ((Upd.own HZ.2.2 HS.out.1 (fun k hk hs=>by simp[Value.ownBlock] at hk;have hs:k=a2:=hs;have h9:=HADR.out;omega)))⟩
     | true =>
      obtain ⟨q0,m0,hq,hre,hrq⟩:=HE5.out.row_yes
      have hce:wr.cell? ⟨c,0,none⟩=some (.iface 97 (.pointer (some ⟨q0,0,none⟩))):=row_cell hre (j:=0) rfl
      clear hq hre hrq
      go_wp2_with fail
      obtain ⟨D,hD⟩:∃ D,wr.drew=D:=⟨_,rfl⟩
      have hud:Upd (fun _=>False) wr D:=by rw[←hD];exact Upd.drew _ _
      have HBD:Hid (Below w.heap.size w D):=Lib.hid (HBR.out.trans (hud.below HBR.out.size (fun _ _ h=>h.elim)))
      have HRD:=Lib.hid ((hud.block _ (row_lt HRR.out) (fun h=>h)).trans HRR.out)
      have hS:EdgeRow (c+1) c true D:=HE5.out.upd hud (fun h=>h) (fun k h=>h.elim)
      obtain ⟨q,m',hq,hre,hrq⟩:=hS.row_yes
      have HRQ:=Lib.hid (And.intro hq hrq)
      clear hS hud hrq hq hce hz20 hz21 hz22 ha0 ha1 ha3
      have hne:Nonempty {w':World // w'.heap[c]? = some (.cells #[.iface 97 (.pointer (some ⟨q,0,none⟩))] 74 (0,0))}:=⟨⟨_,hre⟩⟩
      have hlc:∀ s:{w':World // w'.heap[c]? = some (.cells #[.iface 97 (.pointer (some ⟨q,0,none⟩))] 74 (0,0))},s.1.cell? ⟨c,0,none⟩=some (.iface 97 (.pointer (some ⟨q,0,none⟩))):=fun s=>row_cell s.2 (j:=0) rfl
      refine wp_region_seq (S:=fun w':World=>w'.heap[c]? = some (.cells #[.iface 97 (.pointer (some ⟨q,0,none⟩))] 74 (0,0))) [(0,true),(1,true),(2,true),(3,false),(4,true)] (by kernel_rfl) (by kernel_rfl) (by kernel_rfl) (by kernel_rfl) (by rw[hD];exact hre) ?_
      rw[hD]
      clear hD
      iterate 3 (refine seq_take _ rfl (fun KC hK=>?_);go_simp;(first|refine hK _ ?_|refine ⟨_,fun _ _=>rfl,hK _ ?_⟩);clear hK KC)
      clear hlc hne
      have hz20:D.frozen? ⟨a2,0,none⟩=false:=row_thaw HRD.out 0
      have hz21:D.frozen? ⟨a2,1,none⟩=false:=row_thaw HRD.out 1
      have hz22:D.frozen? ⟨a2,2,none⟩=false:=row_thaw HRD.out 2
      have ha0:D.cell? ⟨a2,0,none⟩=some (.int .i32 0):=row_cell HRD.out (j:=0) rfl
      have ha1:D.cell? ⟨a2,1,none⟩=some (.slice none 0 0):=row_cell HRD.out (j:=1) rfl
      have ha3:D.cell? ⟨a2,2,none⟩=some (.string ⟨#[]⟩):=row_cell HRD.out (j:=2) rfl
      refine seq_come _ rfl (fun KC hK=>?_);go_simp
      have HZ:=Lib.hid (buk_end (u := .int .i32 0) (v := .slice none 0 0) (s := .string ⟨#[]⟩) HBD.out (by have:=HAB.out;omega) HRD.out)
      refine hK.out _ _ ((HZ.out.2.2.block _ (row_lt hre) (fun hk=>by have hk:c=a2:=hk;have h9:=HADR.out;omega)).trans hre) ?_;clear hK KC
      refine seq_take _ rfl (fun KC hK=>?_);go_simp;(first|refine hK _ ?_|refine ⟨_,fun _ _=>rfl,hK _ ?_⟩);clear hK KC
      refine seq_done ?_
      clear hz20 hz21 hz22 ha0 ha1 ha3
      go_wp2_with fail
      (try simp only[Exit.inBlock,Exit.then])
      refine body_cell2v rfl rfl (load_buk HZ.out.2.1 rfl) rfl ?_
      refine ⟨HZ.out.1,?_⟩
      rw[HAN.out]
      exact ⟨_,rfl,field_ec ((HZ.out.2.2.block _ (row_lt HRQ.out.2) (fun hk=>by have hk:q=a2:=hk;have h9:=HADR.out;have:=HRQ.out.1;omega)).trans HRQ.out.2)⟩
end Go.Proofs.YtoggpnfeioaidaaDoor
