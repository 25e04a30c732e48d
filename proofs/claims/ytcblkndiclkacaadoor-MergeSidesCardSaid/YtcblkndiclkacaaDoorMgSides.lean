/-
  hyglaw25.MergeSides.
-/
import Derived.Test.YtcblkndiclkacaaDoorMgFirst
import Derived.Test.YtcblkndiclkacaaDoorMgUni
set_option maxRecDepth 1000000
set_option maxHeartbeats 16000000
namespace Go.Proofs.YtcblkndiclkacaaDoor
open Go.RowKit
theorem ans1_len {x:Pt} (h:x.Ok):(ans1 x).2.1.length≤100000000:=by
 unfold ans1 aans
 obtain ⟨⟨f,t⟩,hr⟩:∃ s,efold (0,0) (allP [x])=s:=⟨_,rfl⟩
 have ho:=one_ends h hr
 rw[hr]
 by_cases h1:f=t
 ·simp[h1]
 ·by_cases h2:2147483647<f
  ·simp[h1,h2]
  ·cases hc:(afold f (List.replicate (t - f).toNat 0,false) (allP [x])).2
   ·have hl:=afold_len f (allP [x]) (List.replicate (t - f).toNat 0,false)
    simp[h1,h2,hc]
    rw[hl]
    simp
    omega
   ·simp[h1,h2,hc]
theorem rdn_len {o:Int} {cs:List Nat} {k:Int} (ho : -2147483648≤o∧o≤2147483647) (hl:cs.length≤1000000) (he:∀ n∈cs,n<18446744073709551616):(rdn o cs k).2.1.length≤100000000:=by
 unfold rdn
 split
 ·exact ans1_len ⟨ho.1,ho.2,hl,(by show k.toNat≤31;omega),he⟩
 ·simp
theorem codev_any {w:World} {v:Value} {c:Nat} (h:CodeV w v c) (hg:Glob w) :
  Calls Tryd.prog 16 #[v] w fun e w'=>e = .returned (.int .i64 (c:Int))∧Below w.heap.size w w':=by
 rcases h with ⟨rfl,rfl⟩|⟨ws,hws⟩
 ·exact (code_nil w).mono fun e w' h=>⟨h.1,h.2 ▸ Below.refl _ w⟩
 ·exact (code_any ws _ _ w hws (root_code c) hg).mono fun e w' h=>⟨h.1,h.2⟩
theorem sides_any (x:Bk) (u:List UInt8) (ao:Option Addr) (cap:Nat) (k:Int) (w:World) (hg:Hid (Glob w)) (hc:x.cs.length≤cap) (hnil:ao=none→cap=0) (ho : -2147483648≤x.off∧x.off≤2147483647) (he:Hid (∀ n∈x.cs,n<18446744073709551616)) (hl:x.cs.length≤9223372036854775807) (hu:u.length≤9223372036854775807) (hN:Hid (Nats .u64 w ao x.cs)) :
  Calls Tryd.prog 3 #[.agg #[.int .i32 x.off,.slice ao x.cs.length cap,.string ⟨u.toArray⟩],.int .i64 k] w fun e w'=>e = .returned (.bool true)∧Below w.heap.size w w':=by
 obtain ⟨b0,HB0⟩:∃ b,Hid (w.heap.size=b):=⟨_,Lib.hid rfl⟩
 obtain ⟨W,HW⟩:∃ W,Hid (w.alloc (.cells #[.int .i32 x.off,.slice ao x.cs.length cap,.string ⟨u.toArray⟩] 24)=W):=⟨_,Lib.hid rfl⟩
 have HB:Hid (Below w.heap.size w W):=Lib.hid (by rw[←HW.out];exact below_new _ _)
 have HX:Hid (W.heap[b0]? = some (.cells #[.int .i32 x.off,.slice ao x.cs.length cap,.string ⟨u.toArray⟩] 24 (0,0))):=Lib.hid (by rw[←HW.out,←HB0.out];exact heap_alloc_new w _)
 have HG:Hid (Glob W):=Lib.hid (hg.out.below (HB.out.mono (Nat.le_refl _)))
 go_enter Tryd.func3,Tryd.ntmps3
 go_wp2_with fail
 rw[HW.out,HB0.out]
 refine (first25 W HG).mono ?_
 rintro E w1 ⟨rfl,hb1⟩
 have HB1:=Lib.hid (below_step HB.out hb1)
 have HX1:=Lib.hid ((hb1.block _ (row_lt HX.out)).trans HX.out)
 clear hb1
 have c0:w1.cell? ⟨b0,0,none⟩=some (.int .i32 x.off):=row_cell HX1.out (j:=0) rfl
 have c1:w1.cell? ⟨b0,1,none⟩=some (.slice ao x.cs.length cap):=row_cell HX1.out (j:=1) rfl
 have c2:w1.cell? ⟨b0,2,none⟩=some (.string ⟨u.toArray⟩):=row_cell HX1.out (j:=2) rfl
 go_wp2_with fail
 refine (roomB_any x u ao cap w1 hl hu).mono ?_
 rintro E w2 ⟨hb2,r,rfl,hr⟩
 have HB2:=Lib.hid (below_step HB1.out hb2)
 have HX2:=Lib.hid ((hb2.block _ (row_lt HX1.out)).trans HX1.out)
 have HG2:=Lib.hid (hg.out.below (HB2.out.mono (Nat.le_refl _)))
 clear hb2 c0 c1 c2
 by_cases hr0:r<0
 ·have d1:decide (r<0)=true:=decide_eq_true hr0
  clear hr hr0
  go_wp2_with fail
  refine (first25 w2 HG2).mono ?_
  rintro E w3 ⟨rfl,hb3⟩
  have HB3:=Lib.hid (below_step HB2.out hb3)
  clear hb3
  go_wp2_with fail
  go_ret
  exact ⟨rfl,HB3.out⟩
 ·have d1:decide (r<0)=false:=decide_eq_false hr0
  have hxl:x.cs.length≤1000000:=by omega
  clear hr hr0
  obtain ⟨r1,HQ1⟩:∃ r,Hid (ans1 ⟨x.off,x.cs,0⟩=r):=⟨_,Lib.hid rfl⟩
  have hL1:r1.2.1.length≤1000000000:=by
   have:=ans1_len (x:=⟨x.off,x.cs,0⟩) ⟨ho.1,ho.2,hxl,Nat.zero_le _,he.out⟩
   rw[HQ1.out] at this;omega
  have ht:=trim_u x.off x.cs ao cap ⟨u.toArray⟩ w2 ho hxl he.out (Lib.hid (hN.out.below HB2.out))
  rw[HQ1.out] at ht
  have HT:=Lib.hid ht
  clear ht
  have c0:w2.cell? ⟨b0,0,none⟩=some (.int .i32 x.off):=row_cell HX2.out (j:=0) rfl
  have c1:w2.cell? ⟨b0,1,none⟩=some (.slice ao x.cs.length cap):=row_cell HX2.out (j:=1) rfl
  have c2:w2.cell? ⟨b0,2,none⟩=some (.string ⟨u.toArray⟩):=row_cell HX2.out (j:=2) rfl
  go_wp2_with fail
  refine (HT.out).mono ?_
  rintro E v2 ⟨hb,bo2,cap2,e2,rfl,hn2,hv2⟩
  have HV2:=Lib.hid hb
  have HN2:=Lib.hid hn2
  have HE2:=Lib.hid hv2
  clear hb hn2 c0 c1 c2
  go_upto_region 6 with fail
  obtain ⟨a2,HA2⟩:∃ a,Hid (v2.heap.size=a):=⟨_,Lib.hid rfl⟩
  obtain ⟨w3,HW3⟩:∃ W,Hid (v2.alloc (.cells #[.int .i32 r1.1,.slice bo2 r1.2.1.length cap2,.string ⟨#[]⟩] 24)=W):=⟨_,Lib.hid rfl⟩
  rw[HW3.out,HA2.out]
  have hs:Below w2.heap.size w2 w3:=below_step HV2.out (by rw[←HW3.out];exact below_new _ _)
  have HB3:=Lib.hid (below_step HB2.out hs)
  have HX3:=Lib.hid ((hs.block _ (row_lt HX2.out)).trans HX2.out)
  have HR3:Hid (w3.heap[a2]? = some (.cells #[.int .i32 r1.1,.slice bo2 r1.2.1.length cap2,.string ⟨#[]⟩] 24 (0,0))):=Lib.hid (by rw[←HW3.out,←HA2.out];exact heap_alloc_new v2 _)
  have hn:Below v2.heap.size v2 w3:=by rw[←HW3.out];exact below_new _ _
  have N2_3:=Lib.hid (HN2.out.below hn)
  have E2_3:=Lib.hid (HE2.out.below hn)
  clear hs hn
  have ht:=rtrim_u x.off x.cs ao cap ⟨u.toArray⟩ w3 hc hnil ho hxl he.out (Lib.hid (hN.out.below HB3.out))
  rw[HQ1.out] at ht
  have HT3:=Lib.hid ht
  clear ht
  have c0:w3.cell? ⟨b0,0,none⟩=some (.int .i32 x.off):=row_cell HX3.out (j:=0) rfl
  have c1:w3.cell? ⟨b0,1,none⟩=some (.slice ao x.cs.length cap):=row_cell HX3.out (j:=1) rfl
  have c2:w3.cell? ⟨b0,2,none⟩=some (.string ⟨u.toArray⟩):=row_cell HX3.out (j:=2) rfl
  go_wp2_with fail
  refine (HT3.out).mono ?_
  rintro E v3 ⟨hb,bo3,cap3,rfl,hn3⟩
  have HV3:=Lib.hid hb
  have HN3:=Lib.hid hn3
  clear hb hn3 c0 c1 c2
  go_upto_region 7 with fail
  obtain ⟨a3,HA3⟩:∃ a,Hid (v3.heap.size=a):=⟨_,Lib.hid rfl⟩
  obtain ⟨w4,HW4⟩:∃ W,Hid (v3.alloc (.cells #[.int .i32 r1.1,.slice bo3 r1.2.1.length cap3,.string ⟨#[]⟩] 24)=W):=⟨_,Lib.hid rfl⟩
  rw[HW4.out,HA3.out]
  have hs:Below w3.heap.size w3 w4:=below_step HV3.out (by rw[←HW4.out];exact below_new _ _)
  have HB4:=Lib.hid (below_step HB3.out hs)
  have HX4:=Lib.hid ((hs.block _ (row_lt HX3.out)).trans HX3.out)
  have HR4:Hid (w4.heap[a3]? = some (.cells #[.int .i32 r1.1,.slice bo3 r1.2.1.length cap3,.string ⟨#[]⟩] 24 (0,0))):=Lib.hid (by rw[←HW4.out,←HA3.out];exact heap_alloc_new v3 _)
  have R3_4:=Lib.hid ((hs.block _ (row_lt HR3.out)).trans HR3.out)
  have N2_4:=Lib.hid (N2_3.out.below hs)
  have E2_4:=Lib.hid (E2_3.out.below hs)
  have hn:Below v3.heap.size v3 w4:=by rw[←HW4.out];exact below_new _ _
  have N3_4:=Lib.hid (HN3.out.below hn)
  clear hs hn
  obtain ⟨r2,HQ2⟩:∃ r,Hid (rdn x.off x.cs k=r):=⟨_,Lib.hid rfl⟩
  have hL2:r2.2.1.length≤1000000000:=by
   have:=rdn_len (k:=k) ho hxl he.out
   rw[HQ2.out] at this;omega
  have ht:=down_u x.off x.cs k ao cap ⟨u.toArray⟩ w4 ho hxl he.out (Lib.hid (hN.out.below HB4.out))
  rw[HQ2.out] at ht
  have HT4:=Lib.hid ht
  clear ht
  have c0:w4.cell? ⟨b0,0,none⟩=some (.int .i32 x.off):=row_cell HX4.out (j:=0) rfl
  have c1:w4.cell? ⟨b0,1,none⟩=some (.slice ao x.cs.length cap):=row_cell HX4.out (j:=1) rfl
  have c2:w4.cell? ⟨b0,2,none⟩=some (.string ⟨u.toArray⟩):=row_cell HX4.out (j:=2) rfl
  go_wp2_with fail
  refine (HT4.out).mono ?_
  rintro E v4 ⟨hb,bo4,cap4,e4,rfl,hn4,hv4⟩
  have HV4:=Lib.hid hb
  have HN4:=Lib.hid hn4
  have HE4:=Lib.hid hv4
  clear hb hn4 c0 c1 c2
  go_upto_region 8 with fail
  obtain ⟨a4,HA4⟩:∃ a,Hid (v4.heap.size=a):=⟨_,Lib.hid rfl⟩
  obtain ⟨w5,HW5⟩:∃ W,Hid (v4.alloc (.cells #[.int .i32 r2.1,.slice bo4 r2.2.1.length cap4,.string ⟨#[]⟩] 24)=W):=⟨_,Lib.hid rfl⟩
  rw[HW5.out,HA4.out]
  have hs:Below w4.heap.size w4 w5:=below_step HV4.out (by rw[←HW5.out];exact below_new _ _)
  have HB5:=Lib.hid (below_step HB4.out hs)
  have HX5:=Lib.hid ((hs.block _ (row_lt HX4.out)).trans HX4.out)
  have HR5:Hid (w5.heap[a4]? = some (.cells #[.int .i32 r2.1,.slice bo4 r2.2.1.length cap4,.string ⟨#[]⟩] 24 (0,0))):=Lib.hid (by rw[←HW5.out,←HA4.out];exact heap_alloc_new v4 _)
  have R3_5:=Lib.hid ((hs.block _ (row_lt R3_4.out)).trans R3_4.out)
  have R4_5:=Lib.hid ((hs.block _ (row_lt HR4.out)).trans HR4.out)
  have N2_5:=Lib.hid (N2_4.out.below hs)
  have N3_5:=Lib.hid (N3_4.out.below hs)
  have E2_5:=Lib.hid (E2_4.out.below hs)
  have hn:Below v4.heap.size v4 w5:=by rw[←HW5.out];exact below_new _ _
  have N4_5:=Lib.hid (HN4.out.below hn)
  have E4_5:=Lib.hid (HE4.out.below hn)
  clear hs hn
  have ht:=rdown_u x.off x.cs k ao cap ⟨u.toArray⟩ w5 ho hxl he.out (Lib.hid (hN.out.below HB5.out))
  rw[HQ2.out] at ht
  have HT5:=Lib.hid ht
  clear ht
  have c0:w5.cell? ⟨b0,0,none⟩=some (.int .i32 x.off):=row_cell HX5.out (j:=0) rfl
  have c1:w5.cell? ⟨b0,1,none⟩=some (.slice ao x.cs.length cap):=row_cell HX5.out (j:=1) rfl
  have c2:w5.cell? ⟨b0,2,none⟩=some (.string ⟨u.toArray⟩):=row_cell HX5.out (j:=2) rfl
  go_wp2_with fail
  refine (HT5.out).mono ?_
  rintro E v5 ⟨hb,bo5,cap5,rfl,hn5⟩
  have HV5:=Lib.hid hb
  have HN5:=Lib.hid hn5
  clear hb hn5 c0 c1 c2
  go_upto_region 9 with fail
  obtain ⟨a5,HA5⟩:∃ a,Hid (v5.heap.size=a):=⟨_,Lib.hid rfl⟩
  obtain ⟨w6,HW6⟩:∃ W,Hid (v5.alloc (.cells #[.int .i32 r2.1,.slice bo5 r2.2.1.length cap5,.string ⟨#[]⟩] 24)=W):=⟨_,Lib.hid rfl⟩
  rw[HW6.out,HA5.out]
  have hs:Below w5.heap.size w5 w6:=below_step HV5.out (by rw[←HW6.out];exact below_new _ _)
  have HB6:=Lib.hid (below_step HB5.out hs)
  have HX6:=Lib.hid ((hs.block _ (row_lt HX5.out)).trans HX5.out)
  have HR6:Hid (w6.heap[a5]? = some (.cells #[.int .i32 r2.1,.slice bo5 r2.2.1.length cap5,.string ⟨#[]⟩] 24 (0,0))):=Lib.hid (by rw[←HW6.out,←HA5.out];exact heap_alloc_new v5 _)
  have R3_6:=Lib.hid ((hs.block _ (row_lt R3_5.out)).trans R3_5.out)
  have R4_6:=Lib.hid ((hs.block _ (row_lt R4_5.out)).trans R4_5.out)
  have R5_6:=Lib.hid ((hs.block _ (row_lt HR5.out)).trans HR5.out)
  have N2_6:=Lib.hid (N2_5.out.below hs)
  have N3_6:=Lib.hid (N3_5.out.below hs)
  have N4_6:=Lib.hid (N4_5.out.below hs)
  have E2_6:=Lib.hid (E2_5.out.below hs)
  have E4_6:=Lib.hid (E4_5.out.below hs)
  have hn:Below v5.heap.size v5 w6:=by rw[←HW6.out];exact below_new _ _
  have N5_6:=Lib.hid (HN5.out.below hn)
  clear hs hn
  have HG6:=Lib.hid (hg.out.below (HB6.out.mono (Nat.le_refl _)))
  go_wp2_with fail
  refine (first25 w6 HG6).mono ?_
  rintro E w7 ⟨rfl,hs⟩
  have HB7:=Lib.hid (below_step HB6.out hs)
  have R3_7:=Lib.hid ((hs.block _ (row_lt R3_6.out)).trans R3_6.out)
  have R4_7:=Lib.hid ((hs.block _ (row_lt R4_6.out)).trans R4_6.out)
  have R5_7:=Lib.hid ((hs.block _ (row_lt R5_6.out)).trans R5_6.out)
  have R6_7:=Lib.hid ((hs.block _ (row_lt HR6.out)).trans HR6.out)
  have N2_7:=Lib.hid (N2_6.out.below hs)
  have N3_7:=Lib.hid (N3_6.out.below hs)
  have N4_7:=Lib.hid (N4_6.out.below hs)
  have N5_7:=Lib.hid (N5_6.out.below hs)
  have E2_7:=Lib.hid (E2_6.out.below hs)
  have E4_7:=Lib.hid (E4_6.out.below hs)
  clear hs
  have c0:w7.cell? ⟨a2,0,none⟩=some (.int .i32 r1.1):=row_cell R3_7.out (j:=0) rfl
  have c1:w7.cell? ⟨a2,1,none⟩=some (.slice bo2 r1.2.1.length cap2):=row_cell R3_7.out (j:=1) rfl
  have c2:w7.cell? ⟨a2,2,none⟩=some (.string ⟨#[]⟩):=row_cell R3_7.out (j:=2) rfl
  have c3:w7.cell? ⟨a3,0,none⟩=some (.int .i32 r1.1):=row_cell R4_7.out (j:=0) rfl
  have c4:w7.cell? ⟨a3,1,none⟩=some (.slice bo3 r1.2.1.length cap3):=row_cell R4_7.out (j:=1) rfl
  have c5:w7.cell? ⟨a3,2,none⟩=some (.string ⟨#[]⟩):=row_cell R4_7.out (j:=2) rfl
  go_wp2_with fail
  refine (refB_any ⟨r1.1,r1.2.1⟩ ⟨r1.1,r1.2.1⟩ [] [] bo2 bo3 cap2 cap3 w7 (Lib.hid N2_7.out) (Lib.hid N3_7.out) hL1 (r:=true) (Lib.hid (by simp))).mono ?_
  rintro E w8 ⟨rfl,hs⟩
  have HB8:=Lib.hid (below_step HB7.out hs)
  have HG8:=Lib.hid (hg.out.below (HB8.out.mono (Nat.le_refl _)))
  have R5_8:=Lib.hid ((hs.block _ (row_lt R5_7.out)).trans R5_7.out)
  have R6_8:=Lib.hid ((hs.block _ (row_lt R6_7.out)).trans R6_7.out)
  have N4_8:=Lib.hid (N4_7.out.below hs)
  have N5_8:=Lib.hid (N5_7.out.below hs)
  have E2_8:=Lib.hid (E2_7.out.below hs)
  have E4_8:=Lib.hid (E4_7.out.below hs)
  clear hs c0 c1 c2 c3 c4 c5
  go_wp2_with fail
  refine (codev_any E2_8.out HG8.out).mono ?_
  rintro E w9 ⟨rfl,hs⟩
  have HB9:=Lib.hid (below_step HB8.out hs)
  have R5_9:=Lib.hid ((hs.block _ (row_lt R5_8.out)).trans R5_8.out)
  have R6_9:=Lib.hid ((hs.block _ (row_lt R6_8.out)).trans R6_8.out)
  have N4_9:=Lib.hid (N4_8.out.below hs)
  have N5_9:=Lib.hid (N5_8.out.below hs)
  have E4_9:=Lib.hid (E4_8.out.below hs)
  clear hs
  have c0:w9.cell? ⟨a4,0,none⟩=some (.int .i32 r2.1):=row_cell R5_9.out (j:=0) rfl
  have c1:w9.cell? ⟨a4,1,none⟩=some (.slice bo4 r2.2.1.length cap4):=row_cell R5_9.out (j:=1) rfl
  have c2:w9.cell? ⟨a4,2,none⟩=some (.string ⟨#[]⟩):=row_cell R5_9.out (j:=2) rfl
  have c3:w9.cell? ⟨a5,0,none⟩=some (.int .i32 r2.1):=row_cell R6_9.out (j:=0) rfl
  have c4:w9.cell? ⟨a5,1,none⟩=some (.slice bo5 r2.2.1.length cap5):=row_cell R6_9.out (j:=1) rfl
  have c5:w9.cell? ⟨a5,2,none⟩=some (.string ⟨#[]⟩):=row_cell R6_9.out (j:=2) rfl
  go_wp2_with fail
  refine (refB_any ⟨r2.1,r2.2.1⟩ ⟨r2.1,r2.2.1⟩ [] [] bo4 bo5 cap4 cap5 w9 (Lib.hid N4_9.out) (Lib.hid N5_9.out) hL2 (r:=true) (Lib.hid (by simp))).mono ?_
  rintro E w10 ⟨rfl,hs⟩
  have HB10:=Lib.hid (below_step HB9.out hs)
  have HG10:=Lib.hid (hg.out.below (HB10.out.mono (Nat.le_refl _)))
  have E4_10:=Lib.hid (E4_9.out.below hs)
  clear hs c0 c1 c2 c3 c4 c5
  go_wp2_with fail
  refine (codev_any E4_10.out HG10.out).mono ?_
  rintro E w11 ⟨rfl,hs⟩
  have HB11:=Lib.hid (below_step HB10.out hs)
  clear hs
  go_wp2_with fail
  go_ret
  exact ⟨rfl,HB11.out⟩
end Go.Proofs.YtcblkndiclkacaaDoor
