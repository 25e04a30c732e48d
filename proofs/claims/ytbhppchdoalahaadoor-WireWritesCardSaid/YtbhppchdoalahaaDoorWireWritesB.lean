/-
  hyglaw4.WireWrites: its cases, B.
-/
import Derived.Test.YtbhppchdoalahaaDoorFirst4
import Derived.Test.YtbhppchdoalahaaDoorWireRP
import Derived.Test.YtbhppchdoalahaaDoorNumsSame
import Derived.Test.YtbhppchdoalahaaDoorErrNew
namespace Go.Proofs.YtbhppchdoalahaaDoor
open Go.RowKit

set_option maxRecDepth 100000 in
set_option maxHeartbeats 8000000 in
theorem writes_ny (num kind : Int) (n : Nat) (s : ByteArray) (w : World) (h1 : -9223372036854775808 ≤ num) (h2 : num ≤ 9223372036854775807) (h3 : -9223372036854775808 ≤ kind) (h4 : kind ≤ 9223372036854775807) (hn : n < 2 ^ 64) (hs : s.size ≤ 4000) (hg : Glob w)
    (hf : ¬ s.size % 8 = 0) (ns : List Nat) (hv : wvars s.data.toList = .ok ns) :
    Calls Tryd.prog 5 #[.int .i64 num, .int .i64 kind, .int .u64 (n : Int), .string s] w fun e w' => e = .returned (.bool true) ∧ Below w.heap.size w w' := by
  have HG := Lib.hid hg
  have HF := Lib.hid hf
  have HV := Lib.hid hv
  have hd : decide (4000 < (s.size : Int)) = false := by simp; omega
  clear hg hf hv
  go_enter Tryd.func5, Tryd.ntmps5
  go_wp2_with fail
  refine (first4 w).mono ?_; rintro e w1 ⟨rfl, hb⟩
  have HB := Lib.hid hb
  clear hb
  go_wp2_with fail
  refine (fixeds_any s w1 (by omega)).mono ?_; intro e w2 hp
  unfold FixedsPost at hp
  rw [if_neg HF.out] at hp
  obtain ⟨v1, rfl, hE⟩ := hp
  obtain ⟨T1, y1, rfl⟩ := hE.iface
  have E1 := Lib.hid hE.codeIs
  have hb := hE.2
  clear hE
  have HB := Lib.hid (below_step HB.out hb)
  clear hb
  go_wp2_with fail
  refine (rfixeds_any s w2 (by omega)).mono ?_; intro e w3 hp
  unfold RFixedsPost at hp
  rw [if_neg HF.out] at hp
  obtain ⟨rfl, hb⟩ := hp
  have E1 := Lib.hid (E1.out.below hb)
  have HB := Lib.hid (below_step HB.out hb)
  clear hb
  go_wp2_with fail
  refine (varints_any s w3 (by omega)).mono ?_; intro e w4 hp
  unfold VarsPost at hp
  rw [HV.out] at hp
  obtain ⟨u3, rfl, ho, hns, hb⟩ := hp
  obtain ⟨ao3, cap3, rfl⟩ := own_slice ho
  have N3 := Lib.hid (nats_of_own ho)
  clear ho
  have E1 := Lib.hid (E1.out.below hb)
  have HB := Lib.hid (below_step HB.out hb)
  clear hb
  go_wp2_with fail
  refine (rvarints_any s w4 (by omega)).mono ?_; intro e w5 hp
  unfold RVarsPost at hp
  rw [HV.out] at hp
  obtain ⟨u4, rfl, ho, _, hb⟩ := hp
  obtain ⟨ao4, cap4, rfl⟩ := own_slice ho
  have N4 := Lib.hid (nats_of_own ho)
  clear ho
  have E1 := Lib.hid (E1.out.below hb)
  have N3 := Lib.hid (N3.out.below hb)
  have HB := Lib.hid (below_step HB.out hb)
  clear hb
  go_wp2_with fail
  refine (first4 w5).mono ?_; rintro e w6 ⟨rfl, hb⟩
  have E1 := Lib.hid (E1.out.below hb)
  have N3 := Lib.hid (N3.out.below hb)
  have N4 := Lib.hid (N4.out.below hb)
  have HB := Lib.hid (below_step HB.out hb)
  clear hb
  go_wp2_with fail
  refine (tag_any num kind w6 h1 h2 h3 h4).mono ?_; rintro e w7 ⟨rfl, hb⟩
  have E1 := Lib.hid (E1.out.below hb)
  have N3 := Lib.hid (N3.out.below hb)
  have N4 := Lib.hid (N4.out.below hb)
  have HB := Lib.hid (below_step HB.out hb)
  clear hb
  go_wp2_with fail
  refine (rtag_any num kind w7 h1 h2 h3 h4).mono ?_; rintro e w8 ⟨rfl, hb⟩
  have E1 := Lib.hid (E1.out.below hb)
  have N3 := Lib.hid (N3.out.below hb)
  have N4 := Lib.hid (N4.out.below hb)
  have HB := Lib.hid (below_step HB.out hb)
  clear hb
  go_wp2_with fail
  refine (wvarint_any num n w8 h1 h2 hn).mono ?_; rintro e w9 ⟨rfl, hb⟩
  have E1 := Lib.hid (E1.out.below hb)
  have N3 := Lib.hid (N3.out.below hb)
  have N4 := Lib.hid (N4.out.below hb)
  have HB := Lib.hid (below_step HB.out hb)
  clear hb
  go_wp2_with fail
  refine (rnum_any num n w9 h1 h2 hn).mono ?_; rintro e w10 ⟨rfl, hb⟩
  have E1 := Lib.hid (E1.out.below hb)
  have N3 := Lib.hid (N3.out.below hb)
  have N4 := Lib.hid (N4.out.below hb)
  have HB := Lib.hid (below_step HB.out hb)
  clear hb
  go_wp2_with fail
  refine (wfixed_any num n w10 h1 h2 hn).mono ?_; rintro e w11 ⟨rfl, hb⟩
  have E1 := Lib.hid (E1.out.below hb)
  have N3 := Lib.hid (N3.out.below hb)
  have N4 := Lib.hid (N4.out.below hb)
  have HB := Lib.hid (below_step HB.out hb)
  clear hb
  go_wp2_with fail
  refine (rfixedr_any num n w11 h1 h2).mono ?_; rintro e w12 ⟨rfl, hb⟩
  have E1 := Lib.hid (E1.out.below hb)
  have N3 := Lib.hid (N3.out.below hb)
  have N4 := Lib.hid (N4.out.below hb)
  have HB := Lib.hid (below_step HB.out hb)
  clear hb
  go_wp2_with fail
  refine (wbytes_any num s w12 h1 h2 (by omega)).mono ?_; rintro e w13 ⟨rfl, hb⟩
  have E1 := Lib.hid (E1.out.below hb)
  have N3 := Lib.hid (N3.out.below hb)
  have N4 := Lib.hid (N4.out.below hb)
  have HB := Lib.hid (below_step HB.out hb)
  clear hb
  go_wp2_with fail
  refine (rbytes_any num s w13 h1 h2 (by omega)).mono ?_; rintro e w14 ⟨rfl, hb⟩
  have E1 := Lib.hid (E1.out.below hb)
  have N3 := Lib.hid (N3.out.below hb)
  have N4 := Lib.hid (N4.out.below hb)
  have HB := Lib.hid (below_step HB.out hb)
  clear hb
  go_wp2_with fail
  refine (nums_same none none 0 0 [] w14 (fun h => absurd rfl h) (fun h => absurd rfl h) (by simp)).mono ?_; rintro e w15 ⟨rfl, hb⟩
  have E1 := Lib.hid (E1.out.below hb)
  have N3 := Lib.hid (N3.out.below hb)
  have N4 := Lib.hid (N4.out.below hb)
  have HB := Lib.hid (below_step HB.out hb)
  clear hb
  go_wp2_with fail
  refine (codeIs_any _ 1 w15 E1.out (HG.out.below HB.out)).mono ?_; rintro e w16 ⟨rfl, hb⟩
  have E1 := Lib.hid (E1.out.below hb)
  have N3 := Lib.hid (N3.out.below hb)
  have N4 := Lib.hid (N4.out.below hb)
  have HB := Lib.hid (below_step HB.out hb)
  clear hb
  go_wp2_with fail
  refine (nums_same ao3 ao4 cap3 cap4 ns w16 N3.out N4.out (by omega)).mono ?_; rintro e w17 ⟨rfl, hb⟩
  have E1 := Lib.hid (E1.out.below hb)
  have N3 := Lib.hid (N3.out.below hb)
  have N4 := Lib.hid (N4.out.below hb)
  have HB := Lib.hid (below_step HB.out hb)
  clear hb
  go_wp2_with fail
  refine (code_nil w17).mono ?_; rintro e w18 ⟨rfl, rfl⟩
  go_wp2_with fail
  go_ret
  exact ⟨rfl, HB.out⟩
set_option maxRecDepth 100000 in
set_option maxHeartbeats 8000000 in
theorem writes_nn (num kind : Int) (n : Nat) (s : ByteArray) (w : World) (h1 : -9223372036854775808 ≤ num) (h2 : num ≤ 9223372036854775807) (h3 : -9223372036854775808 ≤ kind) (h4 : kind ≤ 9223372036854775807) (hn : n < 2 ^ 64) (hs : s.size ≤ 4000) (hg : Glob w)
    (hf : ¬ s.size % 8 = 0) (c : Nat) (hv : wvars s.data.toList = .error c) :
    Calls Tryd.prog 5 #[.int .i64 num, .int .i64 kind, .int .u64 (n : Int), .string s] w fun e w' => e = .returned (.bool true) ∧ Below w.heap.size w w' := by
  have HG := Lib.hid hg
  have HF := Lib.hid hf
  have HV := Lib.hid hv
  have hd : decide (4000 < (s.size : Int)) = false := by simp; omega
  clear hg hf hv
  go_enter Tryd.func5, Tryd.ntmps5
  go_wp2_with fail
  refine (first4 w).mono ?_; rintro e w1 ⟨rfl, hb⟩
  have HB := Lib.hid hb
  clear hb
  go_wp2_with fail
  refine (fixeds_any s w1 (by omega)).mono ?_; intro e w2 hp
  unfold FixedsPost at hp
  rw [if_neg HF.out] at hp
  obtain ⟨v1, rfl, hE⟩ := hp
  obtain ⟨T1, y1, rfl⟩ := hE.iface
  have E1 := Lib.hid hE.codeIs
  have hb := hE.2
  clear hE
  have HB := Lib.hid (below_step HB.out hb)
  clear hb
  go_wp2_with fail
  refine (rfixeds_any s w2 (by omega)).mono ?_; intro e w3 hp
  unfold RFixedsPost at hp
  rw [if_neg HF.out] at hp
  obtain ⟨rfl, hb⟩ := hp
  have E1 := Lib.hid (E1.out.below hb)
  have HB := Lib.hid (below_step HB.out hb)
  clear hb
  go_wp2_with fail
  refine (varints_any s w3 (by omega)).mono ?_; intro e w4 hp
  unfold VarsPost at hp
  rw [HV.out] at hp
  obtain ⟨v3, rfl, q3, _, hE⟩ := hp
  obtain ⟨T3, y3, rfl⟩ := hE.iface
  have E3 := Lib.hid hE.codeIs
  have hb := hE.2
  clear hE
  have E1 := Lib.hid (E1.out.below hb)
  have HB := Lib.hid (below_step HB.out hb)
  clear hb
  go_wp2_with fail
  refine (rvarints_any s w4 (by omega)).mono ?_; intro e w5 hp
  unfold RVarsPost at hp
  rw [HV.out] at hp
  obtain ⟨rfl, hb⟩ := hp
  have E1 := Lib.hid (E1.out.below hb)
  have E3 := Lib.hid (E3.out.below hb)
  have HB := Lib.hid (below_step HB.out hb)
  clear hb
  go_wp2_with fail
  refine (first4 w5).mono ?_; rintro e w6 ⟨rfl, hb⟩
  have E1 := Lib.hid (E1.out.below hb)
  have E3 := Lib.hid (E3.out.below hb)
  have HB := Lib.hid (below_step HB.out hb)
  clear hb
  go_wp2_with fail
  refine (tag_any num kind w6 h1 h2 h3 h4).mono ?_; rintro e w7 ⟨rfl, hb⟩
  have E1 := Lib.hid (E1.out.below hb)
  have E3 := Lib.hid (E3.out.below hb)
  have HB := Lib.hid (below_step HB.out hb)
  clear hb
  go_wp2_with fail
  refine (rtag_any num kind w7 h1 h2 h3 h4).mono ?_; rintro e w8 ⟨rfl, hb⟩
  have E1 := Lib.hid (E1.out.below hb)
  have E3 := Lib.hid (E3.out.below hb)
  have HB := Lib.hid (below_step HB.out hb)
  clear hb
  go_wp2_with fail
  refine (wvarint_any num n w8 h1 h2 hn).mono ?_; rintro e w9 ⟨rfl, hb⟩
  have E1 := Lib.hid (E1.out.below hb)
  have E3 := Lib.hid (E3.out.below hb)
  have HB := Lib.hid (below_step HB.out hb)
  clear hb
  go_wp2_with fail
  refine (rnum_any num n w9 h1 h2 hn).mono ?_; rintro e w10 ⟨rfl, hb⟩
  have E1 := Lib.hid (E1.out.below hb)
  have E3 := Lib.hid (E3.out.below hb)
  have HB := Lib.hid (below_step HB.out hb)
  clear hb
  go_wp2_with fail
  refine (wfixed_any num n w10 h1 h2 hn).mono ?_; rintro e w11 ⟨rfl, hb⟩
  have E1 := Lib.hid (E1.out.below hb)
  have E3 := Lib.hid (E3.out.below hb)
  have HB := Lib.hid (below_step HB.out hb)
  clear hb
  go_wp2_with fail
  refine (rfixedr_any num n w11 h1 h2).mono ?_; rintro e w12 ⟨rfl, hb⟩
  have E1 := Lib.hid (E1.out.below hb)
  have E3 := Lib.hid (E3.out.below hb)
  have HB := Lib.hid (below_step HB.out hb)
  clear hb
  go_wp2_with fail
  refine (wbytes_any num s w12 h1 h2 (by omega)).mono ?_; rintro e w13 ⟨rfl, hb⟩
  have E1 := Lib.hid (E1.out.below hb)
  have E3 := Lib.hid (E3.out.below hb)
  have HB := Lib.hid (below_step HB.out hb)
  clear hb
  go_wp2_with fail
  refine (rbytes_any num s w13 h1 h2 (by omega)).mono ?_; rintro e w14 ⟨rfl, hb⟩
  have E1 := Lib.hid (E1.out.below hb)
  have E3 := Lib.hid (E3.out.below hb)
  have HB := Lib.hid (below_step HB.out hb)
  clear hb
  go_wp2_with fail
  refine (nums_same none none 0 0 [] w14 (fun h => absurd rfl h) (fun h => absurd rfl h) (by simp)).mono ?_; rintro e w15 ⟨rfl, hb⟩
  have E1 := Lib.hid (E1.out.below hb)
  have E3 := Lib.hid (E3.out.below hb)
  have HB := Lib.hid (below_step HB.out hb)
  clear hb
  go_wp2_with fail
  refine (codeIs_any _ 1 w15 E1.out (HG.out.below HB.out)).mono ?_; rintro e w16 ⟨rfl, hb⟩
  have E1 := Lib.hid (E1.out.below hb)
  have E3 := Lib.hid (E3.out.below hb)
  have HB := Lib.hid (below_step HB.out hb)
  clear hb
  go_wp2_with fail
  refine (nums_same none none 0 0 [] w16 (fun h => absurd rfl h) (fun h => absurd rfl h) (by simp)).mono ?_; rintro e w17 ⟨rfl, hb⟩
  have E1 := Lib.hid (E1.out.below hb)
  have E3 := Lib.hid (E3.out.below hb)
  have HB := Lib.hid (below_step HB.out hb)
  clear hb
  go_wp2_with fail
  refine (codeIs_any _ (c : Int) w17 E3.out (HG.out.below HB.out)).mono ?_; rintro e w18 ⟨rfl, hb⟩
  have E1 := Lib.hid (E1.out.below hb)
  have E3 := Lib.hid (E3.out.below hb)
  have HB := Lib.hid (below_step HB.out hb)
  clear hb
  go_wp2_with fail
  go_ret
  exact ⟨rfl, HB.out⟩
end Go.Proofs.YtbhppchdoalahaaDoor
