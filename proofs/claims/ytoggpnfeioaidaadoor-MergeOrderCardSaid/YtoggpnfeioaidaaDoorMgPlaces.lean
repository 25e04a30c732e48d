/-
  MgTrim, MgPlaces
-/
import Derived.Test.YtoggpnfeioaidaaDoorMgAdd
set_option maxRecDepth 1000000
set_option maxHeartbeats 16000000
namespace Go.Proofs.YtoggpnfeioaidaaDoor
open Go.RowKit
theorem efold_bound (lo hi:Int) (l:List (Int × Nat)):∀ s:Int × Int,s.1≤s.2→(s.1<s.2→lo≤s.1∧s.2≤hi)→(∀ p∈l,lo≤p.1∧p.1<hi)→(efold s l).1<(efold s l).2→lo≤(efold s l).1∧(efold s l).2≤hi:=by
 induction l with
 | nil=>intro s _ h _ hlt;exact h hlt
 | cons x l ih =>
  intro s hs h hp hlt
  have he:efold s (x::l)=efold (mgest s x.1) l:=rfl
  rw[he] at hlt ⊢
  have hx:=hp x (List.mem_cons_self ..)
  have h1:(mgest s x.1).1≤(mgest s x.1).2∧lo≤(mgest s x.1).1∧(mgest s x.1).2≤hi:=by
   show min (if s.1=s.2 then x.1 else s.1) x.1≤max (if s.1=s.2 then x.1+1 else s.2) (x.1+1)∧lo≤min (if s.1=s.2 then x.1 else s.1) x.1∧max (if s.1=s.2 then x.1+1 else s.2) (x.1+1)≤hi
   split
   ·omega
   ·have:=h (by omega);omega
  exact ih _ h1.1 (fun _=>h1.2) (fun p hp'=>hp p (List.mem_cons_of_mem _ hp')) hlt
theorem pl_mono {x:Pt} {i k:Nat} (h:i≤k):x.pl i≤x.pl k:=Int.ediv_le_ediv (Int.pow_pos (by omega)) (by omega)
theorem pl_far (x:Pt) (k:Nat):x.pl k≤x.pl 0+(k:Int):=by
 have hp:(0:Int)<2 ^ x.sh:=Int.pow_pos (by omega)
 unfold Pt.pl
 generalize (2:Int) ^ x.sh=B at hp
 have h2:(x.off+(k:Int)) / B≤(x.off+((0:Nat):Int)+(k:Int) * B) / B:=Int.ediv_le_ediv hp (by
  have:(k:Int) * 1≤(k:Int) * B:=Int.mul_le_mul_of_nonneg_left (by omega) (by omega)
  omega)
 rw[Int.add_mul_ediv_right _ _ (by omega)] at h2
 exact h2
theorem one_ends {x:Pt} (h:x.Ok) {f t:Int} (hr:efold (0,0) (allP [x])=(f,t)):f≤t∧t - f≤100000000 ∧ -2147483648≤f∧t≤2149483649:=by
 have ha:allP [x]=x.pls x.cs.length:=by unfold allP;simp
 have h1:=efold_in (allP [x]) (0,0) (Int.le_refl _)
 have h2:=efold_bound (x.pl 0) (x.pl (x.cs.length - 1)+1) (allP [x]) (0,0) (Int.le_refl _) (fun h=>absurd h (Int.lt_irrefl 0)) (fun p hp=>by
  rw[ha] at hp
  obtain ⟨i,hi,rfl⟩:=List.mem_map.1 hp
  have hi:=List.mem_range.1 (List.mem_filter.1 hi).1
  have a1:=pl_mono (x:=x) (Nat.zero_le i)
  have a2:=pl_mono (x:=x) (show i≤x.cs.length - 1 by omega)
  show x.pl 0≤x.pl i∧x.pl i<x.pl (x.cs.length - 1)+1
  omega)
 rw[hr] at h1 h2
 have hl:=h.len
 have b0:=pl_bound h (i:=0) (by omega)
 have b1:=pl_bound h (i:=x.cs.length - 1) (by omega)
 have b2:=pl_far x (x.cs.length - 1)
 have h10:f≤t:=h1.1
 by_cases hlt:f<t
 ·have h20:x.pl 0≤f∧t≤x.pl (x.cs.length - 1)+1:=h2 hlt
  omega
 ·have h3:allP [x]=[]:=List.eq_nil_iff_forall_not_mem.2 fun p hp=>by
   have h4:f≤p.1∧p.1<t:=h1.2.2 p hp
   omega
  rw[h3] at hr
  obtain ⟨rfl,rfl⟩:=Prod.mk.inj (hr:((0:Int),(0:Int))=(f,t))
  omega
theorem parts_one {w:World} {g cap:Nat} {x:Pt} {bo:Option Addr} {U:ByteArray} {T:TypeId} (h:w.heap[g]? = some (.cells #[.int .i32 x.off,.slice bo x.cs.length cap,.string U,.int .i64 (x.sh:Int)] T (0,0))) (hN:Nats .u64 w bo x.cs):PartsAt w (some ⟨g,0,none⟩) [x]:=fun j hj=>by
 obtain rfl:j=0:=by simp at hj;exact hj
 exact ⟨g,0,bo,cap,U,rfl,row_lt h,row_cell h (j:=0) rfl,row_cell h (j:=1) rfl,row_cell h (j:=2) rfl,row_cell h (j:=3) rfl,hN⟩
theorem one_world (x:Pt) (bo:Option Addr) (cap:Nat) (U:ByteArray) (w:World) (hN:Hid (Nats .u64 w bo x.cs)) {a2:Nat} (HA:Hid (w.heap.size+1=a2)) {W:World}
  (HW:Hid (((w.alloc (.cells #[.int .i32 x.off,.slice bo x.cs.length cap,.string U] 28)).alloc (.cells #[.int .i32 0,.slice none 0 0,.string ⟨#[]⟩] 28)).alloc (.cells #[.int .i32 x.off,.slice bo x.cs.length cap,.string U,.int .i64 (x.sh:Int)] 65)=W)) :
  Hid (Below w.heap.size w W)∧Hid (W.heap[a2]? = some (.cells #[.int .i32 0,.slice none 0 0,.string ⟨#[]⟩] 28 (0,0)))∧Hid (PartsAt W (some ⟨a2+1,0,none⟩) [x]):=by
 have hb:Below w.heap.size w W:=by rw[←HW.out];exact below_step (below_new _ _) (below_step (below_new _ _) (below_new _ _))
 refine ⟨Lib.hid hb,Lib.hid ?_,Lib.hid (parts_one (T:=65) (cap:=cap) (bo:=bo) (U:=U) ?_ (hN.out.below hb))⟩
 ·rw[←HW.out,←HA.out]
  have h:=heap_alloc_new (w.alloc (.cells #[.int .i32 x.off,.slice bo x.cs.length cap,.string U] 28)) (.cells #[.int .i32 0,.slice none 0 0,.string ⟨#[]⟩] 28)
  rw[show (w.alloc (.cells #[.int .i32 x.off,.slice bo x.cs.length cap,.string U] 28)).heap.size=w.heap.size+1 by simp] at h
  exact (Below.heap_alloc _ _ _ (row_lt h)).trans h
 ·rw[←HW.out,←HA.out]
  have h:=heap_alloc_new ((w.alloc (.cells #[.int .i32 x.off,.slice bo x.cs.length cap,.string U] 28)).alloc (.cells #[.int .i32 0,.slice none 0 0,.string ⟨#[]⟩] 28)) (.cells #[.int .i32 x.off,.slice bo x.cs.length cap,.string U,.int .i64 (x.sh:Int)] 65)
  rw[show ((w.alloc (.cells #[.int .i32 x.off,.slice bo x.cs.length cap,.string U] 28)).alloc (.cells #[.int .i32 0,.slice none 0 0,.string ⟨#[]⟩] 28)).heap.size=w.heap.size+1+1 by simp] at h
  exact h
theorem ec_upd {w w':World} {v:Value} {a c:Nat} {x y z:Value} {T:TypeId} (h:EC w v c) (hu:Upd (fun k=>k=a) w w') (hr:w.heap[a]? = some (.cells #[x,y,z] T (0,0))):EC w' v c:=by
 obtain ⟨ws,h⟩:=h
 exact ⟨ws,isErr_upd hu (fun k hk b n e he=>by
  have hk:k=a:=hk
  subst hk
  rw[hr] at he
  have h1:=congrArg (fun o:Option Obj=>match o with|some (.cells cs _ _)=>cs.size|_=>0) he
  exact absurd (show (3:Nat)=2 from h1) (by decide)) h⟩
theorem trim_any (x:Pt) (hsh:x.sh=0) (hok:Hid x.Ok) (bo:Option Addr) (cap:Nat) (U:ByteArray) (w:World) (hN:Hid (Nats .u64 w bo x.cs)) :
  Calls Tryd.prog 9 #[.agg #[.int .i32 x.off,.slice bo x.cs.length cap,.string U]] w (MAddPost [x] w):=by
 go_enter Tryd.func9,Tryd.ntmps9
 go_wp2_with fail
 obtain ⟨a2,HA⟩:∃ a,Hid (w.heap.size+1=a):=⟨_,Lib.hid rfl⟩
 obtain ⟨W,HW⟩:∃ W,Hid (((w.alloc (.cells #[.int .i32 x.off,.slice bo x.cs.length cap,.string U] 28)).alloc (.cells #[.int .i32 0,.slice none 0 0,.string ⟨#[]⟩] 28)).alloc (.cells #[.int .i32 x.off,.slice bo x.cs.length cap,.string U,.int .i64 (x.sh:Int)] 65)=W):=⟨_,Lib.hid rfl⟩
 obtain ⟨HB,HR,HPA⟩:=one_world x bo cap U w hN HA HW
 have HAW:Hid (w.heap.size≤a2):=Lib.hid (by have:=HA.out;omega)
 rw[show Value.int .i64 ((x.sh:Nat):Int) = .int .i64 0 by rw[hsh];rfl] at HW
 rw[HW.out,HA.out]
 obtain ⟨f,t,HFT⟩:∃ f t,Hid (efold (0,0) (allP [x])=(f,t)):=⟨_,_,Lib.hid rfl⟩
 refine (add_any [x] (some ⟨a2+1,0,none⟩) 1 W (by simp) (Lib.hid (fun y hy=>by rw[List.mem_singleton.1 hy];exact hok.out)) HPA HFT (Lib.hid (one_ends hok.out HFT.out))).mono ?_
 rintro E w1 ⟨hb,hm⟩
 have HB1:=Lib.hid (below_step HB.out hb)
 have HR1:=Lib.hid ((hb.block _ (row_lt HR.out)).trans HR.out)
 clear hb
 have hz20:w1.frozen? ⟨a2,0,none⟩=false:=row_thaw HR1.out 0
 have hz21:w1.frozen? ⟨a2,1,none⟩=false:=row_thaw HR1.out 1
 have hz22:w1.frozen? ⟨a2,2,none⟩=false:=row_thaw HR1.out 2
 have ha0:w1.cell? ⟨a2,0,none⟩=some (.int .i32 0):=row_cell HR1.out (j:=0) rfl
 have ha1:w1.cell? ⟨a2,1,none⟩=some (.slice none 0 0):=row_cell HR1.out (j:=1) rfl
 have ha3:w1.cell? ⟨a2,2,none⟩=some (.string ⟨#[]⟩):=row_cell HR1.out (j:=2) rfl
 obtain ⟨r,HAN⟩:∃ r,Hid (aans [x]=r):=⟨_,Lib.hid rfl⟩
 rw[HAN.out] at hm
 cases r with
 | none =>
  obtain ⟨v,rfl,hv⟩:=hm
  have HV:=Lib.hid hv
  clear hv
  go_wp2_with fail
  (try simp only[Exit.inBlock,Exit.then])
  have HZ:=buk_end (u := .int .i32 0) (v := .slice none 0 0) (s := .string ⟨#[]⟩) HB1.out HAW.out HR1.out
  refine body_cell2v rfl rfl (load_buk HZ.2.1 rfl) rfl ?_
  refine ⟨HZ.1,?_⟩
  rw[HAN.out]
  exact ⟨_,rfl,ec_upd HV.out HZ.2.2 HR1.out⟩
 | some oc =>
  obtain ⟨o,C⟩:=oc
  obtain ⟨bo',cap',rfl,h1,h2,h4,h3⟩:=hm
  have HX:=Lib.hid (And.intro h1 (And.intro h2 (And.intro h4 h3)))
  clear h1 h2 h3 h4
  go_wp2_with fail
  (try simp only[Exit.inBlock,Exit.then])
  have HZ:=buk_end (u := .int .i32 o) (v := .slice bo' C.length cap') (s := .string ⟨#[]⟩) HB1.out HAW.out HR1.out
  refine body_cell2v rfl rfl (load_buk HZ.2.1 rfl) rfl ?_
  refine ⟨HZ.1,?_⟩
  rw[HAN.out]
  exact ⟨bo',cap',rfl,HX.out.1,HX.out.2.1,(fun g hg=>Nat.le_trans HB.out.size (HX.out.2.2.1 g hg)),HX.out.2.2.2.updS HZ.2.2 (fun _ b off hb hk=>by
   have hk:b=a2:=hk
   have h5:W.heap.size≤b:=HX.out.2.2.1 _ hb
   have:=row_lt HR.out
   omega)⟩
theorem down_any (x:Pt) (hok:Hid x.Ok) (bo:Option Addr) (cap:Nat) (U:ByteArray) (w:World) (hN:Hid (Nats .u64 w bo x.cs)) :
  Calls Tryd.prog 8 #[.agg #[.int .i32 x.off,.slice bo x.cs.length cap,.string U],.int .i64 (x.sh:Int)] w (MAddPost [x] w):=by
 have hs:=hok.out.sh
 have d1:decide ((x.sh:Int)<0)=false:=decide_eq_false (by omega)
 have d2:decide ((x.sh:Int)>31)=false:=decide_eq_false (by omega)
 go_enter Tryd.func8,Tryd.ntmps8
 go_wp2_with fail
 obtain ⟨a2,HA⟩:∃ a,Hid (w.heap.size+1=a):=⟨_,Lib.hid rfl⟩
 obtain ⟨W,HW⟩:∃ W,Hid (((w.alloc (.cells #[.int .i32 x.off,.slice bo x.cs.length cap,.string U] 28)).alloc (.cells #[.int .i32 0,.slice none 0 0,.string ⟨#[]⟩] 28)).alloc (.cells #[.int .i32 x.off,.slice bo x.cs.length cap,.string U,.int .i64 (x.sh:Int)] 65)=W):=⟨_,Lib.hid rfl⟩
 obtain ⟨HB,HR,HPA⟩:=one_world x bo cap U w hN HA HW
 have HAW:Hid (w.heap.size≤a2):=Lib.hid (by have:=HA.out;omega)
 rw[HW.out,HA.out]
 obtain ⟨f,t,HFT⟩:∃ f t,Hid (efold (0,0) (allP [x])=(f,t)):=⟨_,_,Lib.hid rfl⟩
 refine (add_any [x] (some ⟨a2+1,0,none⟩) 1 W (by simp) (Lib.hid (fun y hy=>by rw[List.mem_singleton.1 hy];exact hok.out)) HPA HFT (Lib.hid (one_ends hok.out HFT.out))).mono ?_
 rintro E w1 ⟨hb,hm⟩
 have HB1:=Lib.hid (below_step HB.out hb)
 have HR1:=Lib.hid ((hb.block _ (row_lt HR.out)).trans HR.out)
 clear hb
 have hz20:w1.frozen? ⟨a2,0,none⟩=false:=row_thaw HR1.out 0
 have hz21:w1.frozen? ⟨a2,1,none⟩=false:=row_thaw HR1.out 1
 have hz22:w1.frozen? ⟨a2,2,none⟩=false:=row_thaw HR1.out 2
 have ha0:w1.cell? ⟨a2,0,none⟩=some (.int .i32 0):=row_cell HR1.out (j:=0) rfl
 have ha1:w1.cell? ⟨a2,1,none⟩=some (.slice none 0 0):=row_cell HR1.out (j:=1) rfl
 have ha3:w1.cell? ⟨a2,2,none⟩=some (.string ⟨#[]⟩):=row_cell HR1.out (j:=2) rfl
 obtain ⟨r,HAN⟩:∃ r,Hid (aans [x]=r):=⟨_,Lib.hid rfl⟩
 rw[HAN.out] at hm
 cases r with
 | none =>
  obtain ⟨v,rfl,hv⟩:=hm
  have HV:=Lib.hid hv
  clear hv
  go_wp2_with fail
  (try simp only[Exit.inBlock,Exit.then])
  have HZ:=buk_end (u := .int .i32 0) (v := .slice none 0 0) (s := .string ⟨#[]⟩) HB1.out HAW.out HR1.out
  refine body_cell2v rfl rfl (load_buk HZ.2.1 rfl) rfl ?_
  refine ⟨HZ.1,?_⟩
  rw[HAN.out]
  exact ⟨_,rfl,ec_upd HV.out HZ.2.2 HR1.out⟩
 | some oc =>
  obtain ⟨o,C⟩:=oc
  obtain ⟨bo',cap',rfl,h1,h2,h4,h3⟩:=hm
  have HX:=Lib.hid (And.intro h1 (And.intro h2 (And.intro h4 h3)))
  clear h1 h2 h3 h4
  go_wp2_with fail
  (try simp only[Exit.inBlock,Exit.then])
  have HZ:=buk_end (u := .int .i32 o) (v := .slice bo' C.length cap') (s := .string ⟨#[]⟩) HB1.out HAW.out HR1.out
  refine body_cell2v rfl rfl (load_buk HZ.2.1 rfl) rfl ?_
  refine ⟨HZ.1,?_⟩
  rw[HAN.out]
  exact ⟨bo',cap',rfl,HX.out.1,HX.out.2.1,(fun g hg=>Nat.le_trans HB.out.size (HX.out.2.2.1 g hg)),HX.out.2.2.2.updS HZ.2.2 (fun _ b off hb hk=>by
   have hk:b=a2:=hk
   have h5:W.heap.size≤b:=HX.out.2.2.1 _ hb
   have:=row_lt HR.out
   omega)⟩
open Go.RowKit
theorem own_mono9 {w:World} {b b':Nat} {e:TypeId} {size:Nat} {v:Value} {n:Nat} {xs:List Value} (h:w.ownsRow b e size v n xs) (hb:b'≤b):w.ownsRow b' e size v n xs :=
 ⟨h.1,h.2.imp_right fun ⟨g,cap,cur,h1,h2,h3⟩=>⟨g,cap,cur,h1,Nat.le_trans hb h2,h3⟩⟩
end Go.Proofs.YtoggpnfeioaidaaDoor
