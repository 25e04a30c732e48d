/-
  hyglaw25.MergeSteps.
-/
import Derived.Test.YtcblkndiclkacaaDoorMgStepM
import Derived.Test.YtcblkndiclkacaaDoorMgSides
set_option maxRecDepth 1000000
set_option maxHeartbeats 16000000
namespace Go.Proofs.YtcblkndiclkacaaDoor
open Go.RowKit
def DP (r:Option (Int × List Nat)) (w:World) (E:Ending) (w':World):Prop :=
 Below w.heap.size w w'∧match r with
  | none=>∃ T v,E = .returned (.tuple #[.agg #[.int .i32 0,.slice none 0 0,.string ⟨#[]⟩],.iface T v])∧EC w' (.iface T v) 9
  | some (o,C)=>∃ bo cap,E = .returned (.tuple #[.agg #[.int .i32 o,.slice bo C.length cap,.string ⟨#[]⟩],.nilIface])∧Nats .u64 w' bo C
theorem down_dp (o:Int) (cs:List Nat) (k:Int) (n:Nat) (hk:k=(n:Int)) (hn:n≤31) (bo:Option Addr) (cap:Nat) (U:ByteArray) (w:World) (ho : -2147483648≤o∧o≤2147483647) (hl:cs.length≤1000000) (he:∀ n∈cs,n<18446744073709551616) (hN:Hid (Nats .u64 w bo cs)) {r:Option (Int × List Nat)} (hr:aans [⟨o,cs,n⟩]=r) :
  Calls Tryd.prog 13 #[.agg #[.int .i32 o,.slice bo cs.length cap,.string U],.int .i64 k] w (DP r w):=by
 subst hk
 have hok:Pt.Ok ⟨o,cs,n⟩:=⟨ho.1,ho.2,hl,hn,he⟩
 refine (down_any ⟨o,cs,n⟩ (Lib.hid hok) bo cap U w hN).mono ?_
 rintro E w' ⟨hb,hm⟩
 rw[hr] at hm
 refine ⟨hb,?_⟩
 cases r with
 | none =>
  obtain ⟨v,rfl,hv⟩:=hm
  obtain ⟨T,y,rfl⟩:=hv.iface
  exact ⟨T,y,rfl,hv⟩
 | some oc =>
  obtain ⟨o',C⟩:=oc
  obtain ⟨bo',cap',rfl,_,_,_,h⟩:=hm
  exact ⟨bo',cap',rfl,h⟩
theorem steps_any (x:Bk) (u:List UInt8) (ao:Option Addr) (cap:Nat) (m n:Int) (w:World) (hg:Hid (Glob w)) (ho : -2147483648≤x.off∧x.off≤2147483647) (he:Hid (∀ n∈x.cs,n<18446744073709551616)) (hl:x.cs.length≤9223372036854775807) (hu:u.length≤9223372036854775807) (hm : -9223372036854775808≤m∧m≤9223372036854775807) (hn : -9223372036854775808≤n∧n≤9223372036854775807) (hN:Hid (Nats .u64 w ao x.cs)) :
  Calls Tryd.prog 8 #[.agg #[.int .i32 x.off,.slice ao x.cs.length cap,.string ⟨u.toArray⟩],.int .i64 m,.int .i64 n] w fun e w'=>e = .returned (.bool true)∧Below w.heap.size w w':=by
 obtain ⟨b0,HB0⟩:∃ b,Hid (w.heap.size=b):=⟨_,Lib.hid rfl⟩
 obtain ⟨W,HW⟩:∃ W,Hid (w.alloc (.cells #[.int .i32 x.off,.slice ao x.cs.length cap,.string ⟨u.toArray⟩] 24)=W):=⟨_,Lib.hid rfl⟩
 have HB:Hid (Below w.heap.size w W):=Lib.hid (by rw[←HW.out];exact below_new _ _)
 have HX:Hid (W.heap[b0]? = some (.cells #[.int .i32 x.off,.slice ao x.cs.length cap,.string ⟨u.toArray⟩] 24 (0,0))):=Lib.hid (by rw[←HW.out,←HB0.out];exact heap_alloc_new w _)
 have HG:Hid (Glob W):=Lib.hid (hg.out.below (HB.out.mono (Nat.le_refl _)))
 go_enter Tryd.func8,Tryd.ntmps8
 go_wp2_with fail
 rw[HW.out,HB0.out]
 refine (first25 W HG).mono ?_
 rintro E w1 ⟨rfl,hb1⟩
 have HB1:=Lib.hid (below_step HB.out hb1)
 have HX1:=Lib.hid ((hb1.block _ (row_lt HX.out)).trans HX.out)
 clear hb1
 have c0:w1.cell? ⟨b0,0,none⟩=some (.int .i32 x.off):=row_cell HX1.out (j:=0) rfl
 have c1:w1.cell? ⟨b0,1,none⟩=some (.slice ao x.cs.length cap):=row_cell HX1.out (j:=1) rfl
 have c2:w1.cell? ⟨b0,2,none⟩=some (.string ⟨u.toArray⟩):=row_cell HX1.out (j:=2) rfl
 go_wp2_with fail
 refine (roomB_any x u ao cap w1 hl hu).mono ?_
 rintro E w2 ⟨hb2,r,rfl,hr⟩
 have HB2:=Lib.hid (below_step HB1.out hb2)
 have HX2:=Lib.hid ((hb2.block _ (row_lt HX1.out)).trans HX1.out)
 have HG2:=Lib.hid (hg.out.below (HB2.out.mono (Nat.le_refl _)))
 clear hb2 c0 c1 c2
 by_cases k0:r<0
 ·have dk0:decide (r<0)=true:=decide_eq_true k0
  clear k0 hr
  go_wp2_with fail
  refine (first25 w2 HG2).mono ?_
  rintro E w3 ⟨rfl,hb3⟩
  have HB3:=Lib.hid (below_step HB2.out hb3)
  clear hb3
  go_wp2_with fail
  go_ret
  exact ⟨rfl,HB3.out⟩
 have dk0:decide (r<0)=false:=decide_eq_false k0
 have hxl:x.cs.length≤1000000:=by omega
 clear hr k0
 by_cases k1:m<0
 ·have dk1:decide (m<0)=true:=decide_eq_true k1
  clear k1
  go_wp2_with fail
  refine (first25 w2 HG2).mono ?_
  rintro E w3 ⟨rfl,hb3⟩
  have HB3:=Lib.hid (below_step HB2.out hb3)
  clear hb3
  go_wp2_with fail
  go_ret
  exact ⟨rfl,HB3.out⟩
 have dk1:decide (m<0)=false:=decide_eq_false k1
 by_cases k2:n<0
 ·have dk2:decide (n<0)=true:=decide_eq_true k2
  clear k2
  go_wp2_with fail
  refine (first25 w2 HG2).mono ?_
  rintro E w3 ⟨rfl,hb3⟩
  have HB3:=Lib.hid (below_step HB2.out hb3)
  clear hb3
  go_wp2_with fail
  go_ret
  exact ⟨rfl,HB3.out⟩
 have dk2:decide (n<0)=false:=decide_eq_false k2
 by_cases k3:m>31
 ·have dk3:decide (m>31)=true:=decide_eq_true k3
  clear k3
  go_wp2_with fail
  refine (first25 w2 HG2).mono ?_
  rintro E w3 ⟨rfl,hb3⟩
  have HB3:=Lib.hid (below_step HB2.out hb3)
  clear hb3
  go_wp2_with fail
  go_ret
  exact ⟨rfl,HB3.out⟩
 have dk3:decide (m>31)=false:=decide_eq_false k3
 have q1:IntKind.i64.wrap (31 - m)=31 - m:=IntWalk.i64_in _ (by omega)
 by_cases k4:n>31 - m
 ·have dk4:decide (n>31 - m)=true:=decide_eq_true k4
  clear k4
  go_wp2_with fail
  refine (first25 w2 HG2).mono ?_
  rintro E w3 ⟨rfl,hb3⟩
  have HB3:=Lib.hid (below_step HB2.out hb3)
  clear hb3
  go_wp2_with fail
  go_ret
  exact ⟨rfl,HB3.out⟩
 have dk4:decide (n>31 - m)=false:=decide_eq_false k4
 have q2:IntKind.i64.wrap (m+n)=m+n:=IntWalk.i64_in _ (by omega)
 obtain ⟨M,hM⟩:∃ M,m.toNat=M:=⟨_,rfl⟩
 obtain ⟨K,hK⟩:∃ K,n.toNat=K:=⟨_,rfl⟩
 have HMK:Hid (m=(M:Int)∧n=(K:Int)∧M+K≤31):=Lib.hid ⟨by omega,by omega,by omega⟩
 clear k1 k2 k3 k4 hM hK
 have HO:=Lib.hid ho
 obtain ⟨r1,hr1⟩:∃ r,aans [⟨x.off,x.cs,M⟩]=r:=⟨_,rfl⟩
 have HT:=Lib.hid (down_dp x.off x.cs m M HMK.out.1 (by have:=HMK.out;omega) ao cap ⟨u.toArray⟩ w2 ho hxl he.out (Lib.hid (hN.out.below HB2.out)) hr1)
 have HR1:=Lib.hid hr1
 clear hr1 ho
 have c0:w2.cell? ⟨b0,0,none⟩=some (.int .i32 x.off):=row_cell HX2.out (j:=0) rfl
 have c1:w2.cell? ⟨b0,1,none⟩=some (.slice ao x.cs.length cap):=row_cell HX2.out (j:=1) rfl
 have c2:w2.cell? ⟨b0,2,none⟩=some (.string ⟨u.toArray⟩):=row_cell HX2.out (j:=2) rfl
 go_wp2_with fail
 refine (HT.out).mono ?_
 rintro E v2 ⟨hb,hr⟩
 have HV2:=Lib.hid hb
 have HY2:=Lib.hid ((hb.block _ (row_lt HX2.out)).trans HX2.out)
 clear hb c0 c1 c2 HT
 cases r1 with
 | none =>
  obtain ⟨T,y,rfl,hv⟩:=hr
  have HE2:=Lib.hid hv
  clear hv
  go_upto_region 6 with fail
  obtain ⟨w3,HW3⟩:∃ W,Hid (v2.alloc (.cells #[.int .i32 0,.slice none 0 0,.string ⟨#[]⟩] 24)=W):=⟨_,Lib.hid rfl⟩
  rw[HW3.out]
  have hs:Below v2.heap.size v2 w3:=by rw[←HW3.out];exact below_new _ _
  have HB3:=Lib.hid (below_step (below_step HB2.out HV2.out) hs)
  have HE3:=Lib.hid (HE2.out.below hs)
  have HG3:=Lib.hid (hg.out.below (HB3.out.mono (Nat.le_refl _)))
  clear hs
  go_wp2_with fail
  refine (first25 w3 HG3).mono ?_
  rintro E w4 ⟨rfl,hs⟩
  have HB4:=Lib.hid (below_step HB3.out hs)
  have HE4:=Lib.hid (HE3.out.below hs)
  have HG4:=Lib.hid (hg.out.below (HB4.out.mono (Nat.le_refl _)))
  clear hs
  go_wp2_with fail
  refine (codev_any (.inr HE4.out) HG4.out).mono ?_
  rintro E w5 ⟨rfl,hs⟩
  have HB5:=Lib.hid (below_step HB4.out hs)
  clear hs
  go_wp2_with fail
  go_ret
  exact ⟨rfl,HB5.out⟩
 | some oc =>
  obtain ⟨o1,C1⟩:=oc
  obtain ⟨bo2,cap2,rfl,hn2⟩:=hr
  have HN2:=Lib.hid hn2
  clear hn2
  have HOK:=Lib.hid (aans_ok (x:=⟨x.off,x.cs,M⟩) ⟨HO.out.1,HO.out.2,hxl,(by have:=HMK.out;show M≤31;omega),he.out⟩ HR1.out)
  have HCL:C1.length≤1000000:=by have h:=HOK.out.2.2.1;have h:C1.length≤x.cs.length:=h;omega
  obtain ⟨r2,hr2⟩:∃ r,aans [⟨o1,C1,K⟩]=r:=⟨_,rfl⟩
  have hr3:aans [⟨x.off,x.cs,M+K⟩]=r2:=(aans_steps HR1.out).symm.trans hr2
  have HR2:=Lib.hid hr2
  have HR3:=Lib.hid hr3
  clear hr2 hr3
  go_upto_region 6 with fail
  obtain ⟨a2,HA2⟩:∃ a,Hid (v2.heap.size=a):=⟨_,Lib.hid rfl⟩
  obtain ⟨w3,HW3⟩:∃ W,Hid (v2.alloc (.cells #[.int .i32 o1,.slice bo2 C1.length cap2,.string ⟨#[]⟩] 24)=W):=⟨_,Lib.hid rfl⟩
  rw[HW3.out,HA2.out]
  have hs:Below v2.heap.size v2 w3:=by rw[←HW3.out];exact below_new _ _
  have HB3:=Lib.hid (below_step (below_step HB2.out HV2.out) hs)
  have HX3:=Lib.hid ((hs.block _ (row_lt HY2.out)).trans HY2.out)
  have HA3:Hid (w3.heap[a2]? = some (.cells #[.int .i32 o1,.slice bo2 C1.length cap2,.string ⟨#[]⟩] 24 (0,0))):=Lib.hid (by rw[←HW3.out,←HA2.out];exact heap_alloc_new v2 _)
  have HN3:=Lib.hid (HN2.out.below hs)
  clear hs
  have HT:=Lib.hid (down_dp o1 C1 n K HMK.out.2.1 (by have:=HMK.out;omega) bo2 cap2 ⟨#[]⟩ w3 ⟨HOK.out.1,HOK.out.2.1⟩ HCL HOK.out.2.2.2 HN3 HR2.out)
  have c0:w3.cell? ⟨a2,0,none⟩=some (.int .i32 o1):=row_cell HA3.out (j:=0) rfl
  have c1:w3.cell? ⟨a2,1,none⟩=some (.slice bo2 C1.length cap2):=row_cell HA3.out (j:=1) rfl
  have c2:w3.cell? ⟨a2,2,none⟩=some (.string ⟨#[]⟩):=row_cell HA3.out (j:=2) rfl
  go_wp2_with fail
  refine (HT.out).mono ?_
  rintro E v3 ⟨hb,hr⟩
  have HV3:=Lib.hid (below_step HB3.out hb)
  have HY3:=Lib.hid ((hb.block _ (row_lt HX3.out)).trans HX3.out)
  clear hb c0 c1 c2 HT
  cases r2 with
  | none =>
   obtain ⟨T3,y3,rfl,_⟩:=hr
   go_upto_region 9 with fail
   obtain ⟨a3,HA3'⟩:∃ a,Hid (v3.heap.size=a):=⟨_,Lib.hid rfl⟩
   obtain ⟨w4,HW4⟩:∃ W,Hid (v3.alloc (.cells #[.int .i32 0,.slice none 0 0,.string ⟨#[]⟩] 24)=W):=⟨_,Lib.hid rfl⟩
   rw[HW4.out,HA3'.out]
   have hs:Below v3.heap.size v3 w4:=by rw[←HW4.out];exact below_new _ _
   have HB4:=Lib.hid (below_step HV3.out hs)
   have HX4:=Lib.hid ((hs.block _ (row_lt HY3.out)).trans HY3.out)
   have HA4:Hid (w4.heap[a3]? = some (.cells #[.int .i32 0,.slice none 0 0,.string ⟨#[]⟩] 24 (0,0))):=Lib.hid (by rw[←HW4.out,←HA3'.out];exact heap_alloc_new v3 _)
   clear hs
   have HT:=Lib.hid (down_dp x.off x.cs (m+n) (M+K) (by have:=HMK.out;omega) HMK.out.2.2 ao cap ⟨u.toArray⟩ w4 HO.out hxl he.out (Lib.hid (hN.out.below HB4.out)) HR3.out)
   have c0:w4.cell? ⟨b0,0,none⟩=some (.int .i32 x.off):=row_cell HX4.out (j:=0) rfl
   have c1:w4.cell? ⟨b0,1,none⟩=some (.slice ao x.cs.length cap):=row_cell HX4.out (j:=1) rfl
   have c2:w4.cell? ⟨b0,2,none⟩=some (.string ⟨u.toArray⟩):=row_cell HX4.out (j:=2) rfl
   go_wp2_with fail
   refine (HT.out).mono ?_
   rintro E v4 ⟨hb,hr⟩
   have HV4:=Lib.hid (below_step HB4.out hb)
   have HA5:=Lib.hid ((hb.block _ (row_lt HA4.out)).trans HA4.out)
   clear hb c0 c1 c2 HT
   obtain ⟨T4,y4,rfl,_⟩:=hr
   go_upto_region 10 with fail
   obtain ⟨a4,HA4'⟩:∃ a,Hid (v4.heap.size=a):=⟨_,Lib.hid rfl⟩
   obtain ⟨w5,HW5⟩:∃ W,Hid (v4.alloc (.cells #[.int .i32 0,.slice none 0 0,.string ⟨#[]⟩] 24)=W):=⟨_,Lib.hid rfl⟩
   rw[HW5.out,HA4'.out]
   have hs:Below v4.heap.size v4 w5:=by rw[←HW5.out];exact below_new _ _
   obtain ⟨D,HD⟩:∃ D,Hid (w5.drew=D):=⟨_,Lib.hid rfl⟩
   have hd:Below w5.heap.size w5 D:=by rw[←HD.out];exact (Below.refl _ _).drew
   have hsd:=below_step hs hd
   have HB5:=Lib.hid (below_step HV4.out hsd)
   have HA6:=Lib.hid ((hsd.block _ (row_lt HA5.out)).trans HA5.out)
   have ha7:w5.heap[a4]? = some (.cells #[.int .i32 0,.slice none 0 0,.string ⟨#[]⟩] 24 (0,0)):=by rw[←HW5.out,←HA4'.out];exact heap_alloc_new v4 _
   have HA7:=Lib.hid ((hd.block _ (row_lt ha7)).trans ha7)
   clear hs hd hsd ha7
   have hne:Nonempty {w':World // w'.heap[a3]? = some (.cells #[.int .i32 0,.slice none 0 0,.string ⟨#[]⟩] 24 (0,0))∧w'.heap[a4]? = some (.cells #[.int .i32 0,.slice none 0 0,.string ⟨#[]⟩] 24 (0,0))}:=⟨⟨_,HA6.out,HA7.out⟩⟩
   have hl0:∀ s:{w':World // w'.heap[a3]? = some (.cells #[.int .i32 0,.slice none 0 0,.string ⟨#[]⟩] 24 (0,0))∧w'.heap[a4]? = some (.cells #[.int .i32 0,.slice none 0 0,.string ⟨#[]⟩] 24 (0,0))},s.1.cell? ⟨a3,0,none⟩=some (.int .i32 0):=fun s=>row_cell s.2.1 (j:=0) rfl
   have hl1:∀ s:{w':World // w'.heap[a3]? = some (.cells #[.int .i32 0,.slice none 0 0,.string ⟨#[]⟩] 24 (0,0))∧w'.heap[a4]? = some (.cells #[.int .i32 0,.slice none 0 0,.string ⟨#[]⟩] 24 (0,0))},s.1.cell? ⟨a3,1,none⟩=some (.slice none 0 0):=fun s=>row_cell s.2.1 (j:=1) rfl
   have hl2:∀ s:{w':World // w'.heap[a3]? = some (.cells #[.int .i32 0,.slice none 0 0,.string ⟨#[]⟩] 24 (0,0))∧w'.heap[a4]? = some (.cells #[.int .i32 0,.slice none 0 0,.string ⟨#[]⟩] 24 (0,0))},s.1.cell? ⟨a3,2,none⟩=some (.string ⟨#[]⟩):=fun s=>row_cell s.2.1 (j:=2) rfl
   have hm0:∀ s:{w':World // w'.heap[a3]? = some (.cells #[.int .i32 0,.slice none 0 0,.string ⟨#[]⟩] 24 (0,0))∧w'.heap[a4]? = some (.cells #[.int .i32 0,.slice none 0 0,.string ⟨#[]⟩] 24 (0,0))},s.1.cell? ⟨a4,0,none⟩=some (.int .i32 0):=fun s=>row_cell s.2.2 (j:=0) rfl
   have hm1:∀ s:{w':World // w'.heap[a3]? = some (.cells #[.int .i32 0,.slice none 0 0,.string ⟨#[]⟩] 24 (0,0))∧w'.heap[a4]? = some (.cells #[.int .i32 0,.slice none 0 0,.string ⟨#[]⟩] 24 (0,0))},s.1.cell? ⟨a4,1,none⟩=some (.slice none 0 0):=fun s=>row_cell s.2.2 (j:=1) rfl
   have hm2:∀ s:{w':World // w'.heap[a3]? = some (.cells #[.int .i32 0,.slice none 0 0,.string ⟨#[]⟩] 24 (0,0))∧w'.heap[a4]? = some (.cells #[.int .i32 0,.slice none 0 0,.string ⟨#[]⟩] 24 (0,0))},s.1.cell? ⟨a4,2,none⟩=some (.string ⟨#[]⟩):=fun s=>row_cell s.2.2 (j:=2) rfl
   have HGD:=Lib.hid (hg.out.below (HB5.out.mono (Nat.le_refl _)))
   refine wp_region_seq (S:=fun w':World=>w'.heap[a3]? = some (.cells #[.int .i32 0,.slice none 0 0,.string ⟨#[]⟩] 24 (0,0))∧w'.heap[a4]? = some (.cells #[.int .i32 0,.slice none 0 0,.string ⟨#[]⟩] 24 (0,0))) [(0,false),(1,true),(2,true),(3,true),(4,true),(5,true),(6,true),(7,true),(8,true),(9,true),(10,true),(11,false),(12,true),(13,true)] (by kernel_rfl) (by kernel_rfl) (by kernel_rfl) (by kernel_rfl) (by rw[HD.out];exact ⟨HA6.out,HA7.out⟩) ?_
   rw[HD.out]
   refine seq_come _ rfl (fun KC hK=>?_);go_simp
   refine (first25 D HGD).mono ?_
   rintro E w6 ⟨rfl,hs⟩
   have HB6:=Lib.hid (below_step HB5.out hs)
   have HA8:=Lib.hid ((hs.block _ (row_lt HA6.out)).trans HA6.out)
   have HA9:=Lib.hid ((hs.block _ (row_lt HA7.out)).trans HA7.out)
   clear hs
   go_simp
   refine hK.out _ _ ⟨HA8.out,HA9.out⟩ ?_;clear hK KC
   iterate 10 (refine seq_take _ rfl (fun KC hK=>?_);go_simp;(first|refine hK _ ?_|refine ⟨_,fun _ _=>rfl,hK _ ?_⟩);clear hK KC)
   refine seq_come _ rfl (fun KC hK=>?_);go_simp
   refine (refB_any ⟨0,[]⟩ ⟨0,[]⟩ [] [] none none 0 0 w6 (Lib.hid (fun h=>absurd rfl h)) (Lib.hid (fun h=>absurd rfl h)) (by simp) (r:=true) (Lib.hid (by simp))).mono ?_
   rintro E w7 ⟨rfl,hs⟩
   have HB7:=Lib.hid (below_step HB6.out hs)
   have HA10:=Lib.hid ((hs.block _ (row_lt HA8.out)).trans HA8.out)
   have HA11:=Lib.hid ((hs.block _ (row_lt HA9.out)).trans HA9.out)
   clear hs
   go_simp
   refine hK.out _ _ ⟨HA10.out,HA11.out⟩ ?_;clear hK KC
   iterate 2 (refine seq_take _ rfl (fun KC hK=>?_);go_simp;(first|refine hK _ ?_|refine ⟨_,fun _ _=>rfl,hK _ ?_⟩);clear hK KC)
   refine seq_done ?_
   clear hl0 hl1 hl2 hm0 hm1 hm2 hne
   go_wp2_with fail
   go_ret
   exact ⟨rfl,HB7.out⟩
  | some oc =>
   obtain ⟨o4,C4⟩:=oc
   have HL4:C4.length≤1000000000:=by
    have h:=(aans_ok (x:=⟨o1,C1,K⟩) ⟨HOK.out.1,HOK.out.2.1,HCL,(by have:=HMK.out;show K≤31;omega),HOK.out.2.2.2⟩ HR2.out).2.2.1
    have h:C4.length≤C1.length:=h
    omega
   obtain ⟨bo3,cap3,rfl,hn⟩:=hr
   have HM3:=Lib.hid hn
   clear hn
   go_upto_region 9 with fail
   obtain ⟨a3,HA3'⟩:∃ a,Hid (v3.heap.size=a):=⟨_,Lib.hid rfl⟩
   obtain ⟨w4,HW4⟩:∃ W,Hid (v3.alloc (.cells #[.int .i32 o4,.slice bo3 C4.length cap3,.string ⟨#[]⟩] 24)=W):=⟨_,Lib.hid rfl⟩
   rw[HW4.out,HA3'.out]
   have hs:Below v3.heap.size v3 w4:=by rw[←HW4.out];exact below_new _ _
   have HB4:=Lib.hid (below_step HV3.out hs)
   have HX4:=Lib.hid ((hs.block _ (row_lt HY3.out)).trans HY3.out)
   have HA4:Hid (w4.heap[a3]? = some (.cells #[.int .i32 o4,.slice bo3 C4.length cap3,.string ⟨#[]⟩] 24 (0,0))):=Lib.hid (by rw[←HW4.out,←HA3'.out];exact heap_alloc_new v3 _)
   have HM4:=Lib.hid (HM3.out.below hs)
   clear hs
   have HT:=Lib.hid (down_dp x.off x.cs (m+n) (M+K) (by have:=HMK.out;omega) HMK.out.2.2 ao cap ⟨u.toArray⟩ w4 HO.out hxl he.out (Lib.hid (hN.out.below HB4.out)) HR3.out)
   have c0:w4.cell? ⟨b0,0,none⟩=some (.int .i32 x.off):=row_cell HX4.out (j:=0) rfl
   have c1:w4.cell? ⟨b0,1,none⟩=some (.slice ao x.cs.length cap):=row_cell HX4.out (j:=1) rfl
   have c2:w4.cell? ⟨b0,2,none⟩=some (.string ⟨u.toArray⟩):=row_cell HX4.out (j:=2) rfl
   go_wp2_with fail
   refine (HT.out).mono ?_
   rintro E v4 ⟨hb,hr⟩
   have HV4:=Lib.hid (below_step HB4.out hb)
   have HA5:=Lib.hid ((hb.block _ (row_lt HA4.out)).trans HA4.out)
   have HM5:=Lib.hid (HM4.out.below hb)
   clear hb c0 c1 c2 HT
   obtain ⟨bo4,cap4,rfl,hn⟩:=hr
   have HQ5:=Lib.hid hn
   clear hn
   go_upto_region 10 with fail
   obtain ⟨a4,HA4'⟩:∃ a,Hid (v4.heap.size=a):=⟨_,Lib.hid rfl⟩
   obtain ⟨w5,HW5⟩:∃ W,Hid (v4.alloc (.cells #[.int .i32 o4,.slice bo4 C4.length cap4,.string ⟨#[]⟩] 24)=W):=⟨_,Lib.hid rfl⟩
   rw[HW5.out,HA4'.out]
   have hs:Below v4.heap.size v4 w5:=by rw[←HW5.out];exact below_new _ _
   obtain ⟨D,HD⟩:∃ D,Hid (w5.drew=D):=⟨_,Lib.hid rfl⟩
   have hd:Below w5.heap.size w5 D:=by rw[←HD.out];exact (Below.refl _ _).drew
   have hsd:=below_step hs hd
   have HB5:=Lib.hid (below_step HV4.out hsd)
   have HA6:=Lib.hid ((hsd.block _ (row_lt HA5.out)).trans HA5.out)
   have ha7:w5.heap[a4]? = some (.cells #[.int .i32 o4,.slice bo4 C4.length cap4,.string ⟨#[]⟩] 24 (0,0)):=by rw[←HW5.out,←HA4'.out];exact heap_alloc_new v4 _
   have HA7:=Lib.hid ((hd.block _ (row_lt ha7)).trans ha7)
   have HM6:=Lib.hid (HM5.out.below hsd)
   have HQ6:=Lib.hid (HQ5.out.below hsd)
   clear hs hd hsd ha7
   have hne:Nonempty {w':World // w'.heap[a3]? = some (.cells #[.int .i32 o4,.slice bo3 C4.length cap3,.string ⟨#[]⟩] 24 (0,0))∧w'.heap[a4]? = some (.cells #[.int .i32 o4,.slice bo4 C4.length cap4,.string ⟨#[]⟩] 24 (0,0))}:=⟨⟨_,HA6.out,HA7.out⟩⟩
   have hl0:∀ s:{w':World // w'.heap[a3]? = some (.cells #[.int .i32 o4,.slice bo3 C4.length cap3,.string ⟨#[]⟩] 24 (0,0))∧w'.heap[a4]? = some (.cells #[.int .i32 o4,.slice bo4 C4.length cap4,.string ⟨#[]⟩] 24 (0,0))},s.1.cell? ⟨a3,0,none⟩=some (.int .i32 o4):=fun s=>row_cell s.2.1 (j:=0) rfl
   have hl1:∀ s:{w':World // w'.heap[a3]? = some (.cells #[.int .i32 o4,.slice bo3 C4.length cap3,.string ⟨#[]⟩] 24 (0,0))∧w'.heap[a4]? = some (.cells #[.int .i32 o4,.slice bo4 C4.length cap4,.string ⟨#[]⟩] 24 (0,0))},s.1.cell? ⟨a3,1,none⟩=some (.slice bo3 C4.length cap3):=fun s=>row_cell s.2.1 (j:=1) rfl
   have hl2:∀ s:{w':World // w'.heap[a3]? = some (.cells #[.int .i32 o4,.slice bo3 C4.length cap3,.string ⟨#[]⟩] 24 (0,0))∧w'.heap[a4]? = some (.cells #[.int .i32 o4,.slice bo4 C4.length cap4,.string ⟨#[]⟩] 24 (0,0))},s.1.cell? ⟨a3,2,none⟩=some (.string ⟨#[]⟩):=fun s=>row_cell s.2.1 (j:=2) rfl
   have hm0:∀ s:{w':World // w'.heap[a3]? = some (.cells #[.int .i32 o4,.slice bo3 C4.length cap3,.string ⟨#[]⟩] 24 (0,0))∧w'.heap[a4]? = some (.cells #[.int .i32 o4,.slice bo4 C4.length cap4,.string ⟨#[]⟩] 24 (0,0))},s.1.cell? ⟨a4,0,none⟩=some (.int .i32 o4):=fun s=>row_cell s.2.2 (j:=0) rfl
   have hm1:∀ s:{w':World // w'.heap[a3]? = some (.cells #[.int .i32 o4,.slice bo3 C4.length cap3,.string ⟨#[]⟩] 24 (0,0))∧w'.heap[a4]? = some (.cells #[.int .i32 o4,.slice bo4 C4.length cap4,.string ⟨#[]⟩] 24 (0,0))},s.1.cell? ⟨a4,1,none⟩=some (.slice bo4 C4.length cap4):=fun s=>row_cell s.2.2 (j:=1) rfl
   have hm2:∀ s:{w':World // w'.heap[a3]? = some (.cells #[.int .i32 o4,.slice bo3 C4.length cap3,.string ⟨#[]⟩] 24 (0,0))∧w'.heap[a4]? = some (.cells #[.int .i32 o4,.slice bo4 C4.length cap4,.string ⟨#[]⟩] 24 (0,0))},s.1.cell? ⟨a4,2,none⟩=some (.string ⟨#[]⟩):=fun s=>row_cell s.2.2 (j:=2) rfl
   have HGD:=Lib.hid (hg.out.below (HB5.out.mono (Nat.le_refl _)))
   refine wp_region_seq (S:=fun w':World=>w'.heap[a3]? = some (.cells #[.int .i32 o4,.slice bo3 C4.length cap3,.string ⟨#[]⟩] 24 (0,0))∧w'.heap[a4]? = some (.cells #[.int .i32 o4,.slice bo4 C4.length cap4,.string ⟨#[]⟩] 24 (0,0))) [(0,false),(1,true),(2,true),(3,true),(4,true),(5,true),(6,true),(7,true),(8,true),(9,true),(10,true),(11,false),(12,true),(13,true)] (by kernel_rfl) (by kernel_rfl) (by kernel_rfl) (by kernel_rfl) (by rw[HD.out];exact ⟨HA6.out,HA7.out⟩) ?_
   rw[HD.out]
   refine seq_come _ rfl (fun KC hK=>?_);go_simp
   refine (first25 D HGD).mono ?_
   rintro E w6 ⟨rfl,hs⟩
   have HB6:=Lib.hid (below_step HB5.out hs)
   have HA8:=Lib.hid ((hs.block _ (row_lt HA6.out)).trans HA6.out)
   have HA9:=Lib.hid ((hs.block _ (row_lt HA7.out)).trans HA7.out)
   have HM7:=Lib.hid (HM6.out.below hs)
   have HQ7:=Lib.hid (HQ6.out.below hs)
   clear hs
   go_simp
   refine hK.out _ _ ⟨HA8.out,HA9.out⟩ ?_;clear hK KC
   iterate 10 (refine seq_take _ rfl (fun KC hK=>?_);go_simp;(first|refine hK _ ?_|refine ⟨_,fun _ _=>rfl,hK _ ?_⟩);clear hK KC)
   refine seq_come _ rfl (fun KC hK=>?_);go_simp
   refine (refB_any ⟨o4,C4⟩ ⟨o4,C4⟩ [] [] bo3 bo4 cap3 cap4 w6 HM7 HQ7 HL4 (r:=true) (Lib.hid (by simp))).mono ?_
   rintro E w7 ⟨rfl,hs⟩
   have HB7:=Lib.hid (below_step HB6.out hs)
   have HA10:=Lib.hid ((hs.block _ (row_lt HA8.out)).trans HA8.out)
   have HA11:=Lib.hid ((hs.block _ (row_lt HA9.out)).trans HA9.out)
   clear hs
   go_simp
   refine hK.out _ _ ⟨HA10.out,HA11.out⟩ ?_;clear hK KC
   iterate 2 (refine seq_take _ rfl (fun KC hK=>?_);go_simp;(first|refine hK _ ?_|refine ⟨_,fun _ _=>rfl,hK _ ?_⟩);clear hK KC)
   refine seq_done ?_
   clear hl0 hl1 hl2 hm0 hm1 hm2 hne
   go_wp2_with fail
   go_ret
   exact ⟨rfl,HB7.out⟩
end Go.Proofs.YtcblkndiclkacaaDoor
