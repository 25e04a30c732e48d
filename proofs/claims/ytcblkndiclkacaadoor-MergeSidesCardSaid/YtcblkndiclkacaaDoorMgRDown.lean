/-
  hygref25.Down.
-/
import Derived.Test.YtcblkndiclkacaaDoorMgSum
set_option maxRecDepth 1000000
set_option maxHeartbeats 16000000
namespace Go.Proofs.YtcblkndiclkacaaDoor
open Go.RowKit
theorem plstep_len {s:Option (List (Int × Nat))} {p:Int × Nat} {k:Nat} (h:∀ L,s=some L→L.length≤k):∀ L,plstep s p=some L→L.length≤k+1:=by
 intro L hL
 cases s with
 | none=>cases hL
 | some L0 =>
  have h0:=h L0 rfl
  rcases last_split L0 with rfl|⟨L',r,rfl⟩
  ·rw[plstep_new] at hL;cases hL;simp
  ·rw[List.length_append] at h0
   have h0':L'.length+1≤k:=h0
   by_cases h1:r.1=p.1
   ·by_cases h2:r.2+p.2<18446744073709551616
    ·rw[plstep_sum L' r p h1 h2] at hL
     cases hL
     rw[List.length_append];show L'.length+1≤k+1;omega
    ·rw[plstep_over L' r p h1 h2] at hL;cases hL
   ·rw[plstep_far L' r p h1] at hL
    cases hL
    rw[List.length_append,List.length_append];show L'.length+1+1≤k+1;omega
theorem rp_len {x:Pt} (j:Nat):∀ L,rp (x.pls j)=some L→L.length≤j:=by
 induction j with
 | zero=>intro L hL;cases hL;exact Nat.le_refl _
 | succ j ih =>
  by_cases h0:x.ct j=0
  ·rw[pls_no h0];exact fun L hL=>Nat.le_succ_of_le (ih L hL)
  ·rw[pls_yes h0,rp_app];exact plstep_len ih
theorem rp_in {x:Pt} (hok:x.Ok) {L:List (Int × Nat)} (hr:rp (x.pls x.cs.length)=some L):∀ p q,L.head? = some p→L.getLast? = some q → -2147483648≤p.1∧q.1 - p.1≤100000000∧q.1≤2149483648∧∀ r∈L,p.1≤r.1∧r.1≤q.1∧r.2<18446744073709551616:=by
 intro p q hp hq
 have ha:allP [x]=x.pls x.cs.length:=by unfold allP;simp
 obtain ⟨f,t,hft⟩:∃ f t,efold (0,0) (allP [x])=(f,t):=⟨_,_,rfl⟩
 have hb:=one_ends hok hft
 have hin:=(efold_in (allP [x]) (0,0) (Int.le_refl _)).2.2
 rw[hft] at hin
 have hR:=(rinv hok f (t - f).toNat (fun i hi h0=>by
  have h:f≤x.pl i∧x.pl i<t:=hin _ (allP_mem (List.mem_singleton.2 rfl) hi h0)
  omega) x.cs.length (Nat.le_refl _)).1 L hr
 have h3:=hR.ends p q hp hq
 rw[←ha,hft] at h3
 obtain ⟨h4,h5⟩:=h3
 obtain ⟨rfl,rfl⟩:=Prod.mk.inj h4
 refine ⟨hb.2.2.1,by omega,by omega,fun r hr'=>?_⟩
 obtain ⟨i,h6,h7,h8⟩:=hR.inn r hr'
 have h:p.1≤x.pl i∧x.pl i<q.1+1:=hin _ (allP_mem (List.mem_singleton.2 rfl) h6 h7)
 exact ⟨by omega,by omega,rp_lt hok _ L hr r hr'⟩
def RDPost (x:Pt) (w:World) (E:Ending) (w':World):Prop :=
 Below w.heap.size w w'∧match aans [x] with
  | none=>E = .returned (.tuple #[.agg #[.int .i32 0,.slice none 0 0,.string ⟨#[]⟩],.int .i64 9])
  | some (o,C)=>∃ bo cap,E = .returned (.tuple #[.agg #[.int .i32 o,.slice bo C.length cap,.string ⟨#[]⟩],.int .i64 0])∧Nats .u64 w' bo C
theorem rdown_any (x:Pt) (hok:Hid x.Ok) (bo:Option Addr) (cap:Nat) (U:ByteArray) (w:World) (hN:Hid (Nats .u64 w bo x.cs)) :
  Calls Tryd.prog 14 #[.agg #[.int .i32 x.off,.slice bo x.cs.length cap,.string U],.int .i64 (x.sh:Int)] w (RDPost x w):=by
 have hs:=hok.out.sh
 have d1:decide ((x.sh:Int)<0)=false:=decide_eq_false (by omega)
 have d2:decide ((x.sh:Int)>31)=false:=decide_eq_false (by omega)
 obtain ⟨a2,HA⟩:∃ a,Hid (w.heap.size+1=a):=⟨_,Lib.hid rfl⟩
 obtain ⟨W,HW⟩:∃ W,Hid ((w.alloc (.cells #[.int .i32 x.off,.slice bo x.cs.length cap,.string U] 24)).alloc (.cells #[.int .i32 0,.slice none 0 0,.string ⟨#[]⟩] 24)=W):=⟨_,Lib.hid rfl⟩
 have HB:Hid (Below w.heap.size w W):=Lib.hid (by rw[←HW.out];exact below_step (below_new _ _) (below_new _ _))
 have HR:Hid (W.heap[a2]? = some (.cells #[.int .i32 0,.slice none 0 0,.string ⟨#[]⟩] 24 (0,0))):=Lib.hid (by
  rw[←HW.out,←HA.out]
  have h:=heap_alloc_new (w.alloc (.cells #[.int .i32 x.off,.slice bo x.cs.length cap,.string U] 24)) (.cells #[.int .i32 0,.slice none 0 0,.string ⟨#[]⟩] 24)
  rw[show (w.alloc (.cells #[.int .i32 x.off,.slice bo x.cs.length cap,.string U] 24)).heap.size=w.heap.size+1 by simp] at h
  exact h)
 go_enter Tryd.func14,Tryd.ntmps14
 go_wp2_with fail
 rw[HW.out,HA.out]
 refine (places_any x hok bo cap U W (Lib.hid (hN.out.below HB.out))).mono ?_
 rintro E w1 ⟨hb1,hm⟩
 have HB1:=Lib.hid (below_step HB.out hb1)
 have HR1:=Lib.hid ((hb1.block _ (row_lt HR.out)).trans HR.out)
 have hz20:w1.frozen? ⟨a2,0,none⟩=false:=row_thaw HR1.out 0
 have hz21:w1.frozen? ⟨a2,1,none⟩=false:=row_thaw HR1.out 1
 have hz22:w1.frozen? ⟨a2,2,none⟩=false:=row_thaw HR1.out 2
 have ha0:w1.cell? ⟨a2,0,none⟩=some (.int .i32 0):=row_cell HR1.out (j:=0) rfl
 have ha1:w1.cell? ⟨a2,1,none⟩=some (.slice none 0 0):=row_cell HR1.out (j:=1) rfl
 have ha3:w1.cell? ⟨a2,2,none⟩=some (.string ⟨#[]⟩):=row_cell HR1.out (j:=2) rfl
 clear hb1
 have HAN:=Lib.hid (aans_rans hok.out)
 obtain ⟨r,HRP⟩:∃ r,Hid (rp (x.pls x.cs.length)=r):=⟨_,Lib.hid rfl⟩
 rw[HRP.out] at hm HAN
 cases r with
 | none =>
  obtain rfl:=hm
  go_wp2_with fail
  (try simp only[Exit.inBlock,Exit.then])
  have HZ:=buk_end (u := .int .i32 0) (v := .slice none 0 0) (s := .string ⟨#[]⟩) HB1.out (by have:=HA.out;omega) HR1.out
  refine body_cell2v rfl rfl (load_buk HZ.2.1 rfl) rfl ?_
  refine ⟨HZ.1,?_⟩
  rw[HAN.out]
  rfl
 | some L =>
  obtain ⟨v,rfl,hO⟩:=hm
  have HO:=Lib.hid hO
  have HAN2:Hid (aans [x]=dans L):=Lib.hid HAN.out
  clear hO HAN
  clear hz20 hz21 hz22 ha0 ha1 ha3
  go_wp2_with fail
  refine (dense_any L v W.heap.size w1 (Nat.le_trans (rp_len _ L HRP.out) hok.out.len) HO (Lib.hid (rp_in hok.out HRP.out))).mono ?_
  rintro E w2 ⟨hb2,hm⟩
  have HB2:=Lib.hid (below_step HB1.out hb2)
  have HR2:=Lib.hid ((hb2.block _ (row_lt HR1.out)).trans HR1.out)
  obtain ⟨r,HDR⟩:∃ r,Hid (dans L=r):=⟨_,Lib.hid rfl⟩
  rw[HDR.out] at hm HAN2
  cases r with
  | none =>
   obtain rfl:=hm
   clear hb2
   go_upto_region 7 with fail
   obtain ⟨b8,HB8⟩:∃ b,Hid (w2.heap.size=b):=⟨_,Lib.hid rfl⟩
   obtain ⟨W3,HW3⟩:∃ W,Hid (w2.alloc (.cells #[.int .i32 0,.slice none 0 0,.string ⟨#[]⟩] 24)=W):=⟨_,Lib.hid rfl⟩
   rw[HW3.out,HB8.out]
   have hn3:Below w2.heap.size w2 W3:=by rw[←HW3.out];exact below_new _ _
   have HB3:=Lib.hid (below_step HB2.out hn3)
   have HR3:=Lib.hid ((hn3.block _ (row_lt HR2.out)).trans HR2.out)
   have hx:W3.heap[b8]? = some (.cells #[.int .i32 0,.slice none 0 0,.string ⟨#[]⟩] 24 (0,0)):=by rw[←HW3.out,←HB8.out];exact heap_alloc_new w2 _
   have hx0:W3.cell? ⟨b8,0,none⟩=some (.int .i32 0):=row_cell hx (j:=0) rfl
   have hx1:W3.cell? ⟨b8,1,none⟩=some (.slice none 0 0):=row_cell hx (j:=1) rfl
   have hx3:W3.cell? ⟨b8,2,none⟩=some (.string ⟨#[]⟩):=row_cell hx (j:=2) rfl
   have hz20:W3.frozen? ⟨a2,0,none⟩=false:=row_thaw HR3.out 0
   have hz21:W3.frozen? ⟨a2,1,none⟩=false:=row_thaw HR3.out 1
   have hz22:W3.frozen? ⟨a2,2,none⟩=false:=row_thaw HR3.out 2
   have ha0:W3.cell? ⟨a2,0,none⟩=some (.int .i32 0):=row_cell HR3.out (j:=0) rfl
   have ha1:W3.cell? ⟨a2,1,none⟩=some (.slice none 0 0):=row_cell HR3.out (j:=1) rfl
   have ha3:W3.cell? ⟨a2,2,none⟩=some (.string ⟨#[]⟩):=row_cell HR3.out (j:=2) rfl
   have HN3:=Lib.hid hn3
   clear hx hn3
   go_wp2_with fail
   (try simp only[Exit.inBlock,Exit.then])
   have HZ:=buk_end (u := .int .i32 0) (v := .slice none 0 0) (s := .string ⟨#[]⟩) HB3.out (by have:=HA.out;omega) HR3.out
   refine body_cell2v rfl rfl (load_buk HZ.2.1 rfl) rfl ?_
   refine ⟨HZ.1,?_⟩
   rw[HAN2.out]
   rfl
  | some oc =>
   obtain ⟨o,C⟩:=oc
   obtain ⟨bo',cap',rfl,h4,h3⟩:=hm
   have HX:=Lib.hid (And.intro h4 h3)
   clear h4 h3 hb2
   go_upto_region 7 with fail
   obtain ⟨b8,HB8⟩:∃ b,Hid (w2.heap.size=b):=⟨_,Lib.hid rfl⟩
   obtain ⟨W3,HW3⟩:∃ W,Hid (w2.alloc (.cells #[.int .i32 o,.slice bo' C.length cap',.string ⟨#[]⟩] 24)=W):=⟨_,Lib.hid rfl⟩
   rw[HW3.out,HB8.out]
   have hn3:Below w2.heap.size w2 W3:=by rw[←HW3.out];exact below_new _ _
   have HB3:=Lib.hid (below_step HB2.out hn3)
   have HR3:=Lib.hid ((hn3.block _ (row_lt HR2.out)).trans HR2.out)
   have hx:W3.heap[b8]? = some (.cells #[.int .i32 o,.slice bo' C.length cap',.string ⟨#[]⟩] 24 (0,0)):=by rw[←HW3.out,←HB8.out];exact heap_alloc_new w2 _
   have hx0:W3.cell? ⟨b8,0,none⟩=some (.int .i32 o):=row_cell hx (j:=0) rfl
   have hx1:W3.cell? ⟨b8,1,none⟩=some (.slice bo' C.length cap'):=row_cell hx (j:=1) rfl
   have hx3:W3.cell? ⟨b8,2,none⟩=some (.string ⟨#[]⟩):=row_cell hx (j:=2) rfl
   have hz20:W3.frozen? ⟨a2,0,none⟩=false:=row_thaw HR3.out 0
   have hz21:W3.frozen? ⟨a2,1,none⟩=false:=row_thaw HR3.out 1
   have hz22:W3.frozen? ⟨a2,2,none⟩=false:=row_thaw HR3.out 2
   have ha0:W3.cell? ⟨a2,0,none⟩=some (.int .i32 0):=row_cell HR3.out (j:=0) rfl
   have ha1:W3.cell? ⟨a2,1,none⟩=some (.slice none 0 0):=row_cell HR3.out (j:=1) rfl
   have ha3:W3.cell? ⟨a2,2,none⟩=some (.string ⟨#[]⟩):=row_cell HR3.out (j:=2) rfl
   have HN3:=Lib.hid hn3
   clear hx hn3
   go_wp2_with fail
   (try simp only[Exit.inBlock,Exit.then])
   have HZ:=buk_end (u := .int .i32 o) (v := .slice bo' C.length cap') (s := .string ⟨#[]⟩) HB3.out (by have:=HA.out;omega) HR3.out
   refine body_cell2v rfl rfl (load_buk HZ.2.1 rfl) rfl ?_
   refine ⟨HZ.1,?_⟩
   rw[HAN2.out]
   exact ⟨bo',cap',rfl,(HX.out.2.below HN3.out).updS HZ.2.2 (fun _ b off hb hk=>by
    have hk:b=a2:=hk
    have h5:w1.heap.size≤b:=HX.out.1 _ hb
    have:=row_lt HR1.out
    omega)⟩
end Go.Proofs.YtcblkndiclkacaaDoor
