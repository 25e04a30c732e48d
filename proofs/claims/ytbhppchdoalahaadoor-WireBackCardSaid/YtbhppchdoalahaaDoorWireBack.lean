/-
  hyglaw4.WireBack: for every numbers, text and depth the law returns true.
-/
import Derived.Test.YtbhppchdoalahaaDoorWireBackRel
import Derived.Test.YtbhppchdoalahaaDoorOrd
import Derived.Test.YtbhppchdoalahaaDoorWireRB
import Derived.Test.YtbhppchdoalahaaDoorWireRB
namespace Go.Proofs.YtbhppchdoalahaaDoor
open Go.RowKit

theorem Tryd.elStr : Elem Tryd.prog 64 9 (.string ⟨#[]⟩) 1 16 := ⟨Tryd.underlying64, by kernel_rfl, by decide⟩
set_option maxRecDepth 100000 in
set_option maxHeartbeats 4000000 in
theorem back_early (ao bo : Option Addr) (cap bcap a b : Nat) (s : ByteArray) (dp : Int) (w : World) (h : 100 < a ∨ b ≠ a ∨ 4000 < s.size ∨ dp < 0 ∨ 50 < dp) :
    Calls Tryd.prog 6 #[.slice ao a cap, .slice bo b bcap, .string s, .int .i64 dp] w fun e w' => e = .returned (.bool true) ∧ Below w.heap.size w w' := by
  rcases (by omega : 100 < a ∨ (a ≤ 100 ∧ b ≠ a) ∨ (a ≤ 100 ∧ b = a ∧ 4000 < s.size) ∨ (a ≤ 100 ∧ b = a ∧ s.size ≤ 4000 ∧ dp < 0) ∨ (a ≤ 100 ∧ b = a ∧ s.size ≤ 4000 ∧ 0 ≤ dp ∧ 50 < dp)) with h1 | ⟨h1, h2⟩ | ⟨h1, rfl, h3⟩ | ⟨h1, rfl, h3, h4⟩ | ⟨h1, rfl, h3, h4, h5⟩
  all_goals clear h
  · go_enter Tryd.func6, Tryd.ntmps6
    go_wp2_with fail
    refine (first4 w).mono ?_; rintro e w1 ⟨rfl, hb1⟩
    have HB1 := Lib.hid hb1
    clear hb1
    go_wp2_with fail
    refine (first4 w1).mono ?_; rintro e w2 ⟨rfl, hb2⟩
    have HB2 := Lib.hid hb2
    clear hb2
    go_wp2_with fail
    go_ret
    exact ⟨rfl, below_step HB1.out HB2.out⟩
  · have hne : ((b : Int) != (a : Int)) = true := by simp; omega
    go_enter Tryd.func6, Tryd.ntmps6
    go_wp2_with fail
    refine (first4 w).mono ?_; rintro e w1 ⟨rfl, hb1⟩
    have HB1 := Lib.hid hb1
    clear hb1
    go_wp2_with fail
    refine (first4 w1).mono ?_; rintro e w2 ⟨rfl, hb2⟩
    have HB2 := Lib.hid hb2
    clear hb2
    go_wp2_with fail
    go_ret
    exact ⟨rfl, below_step HB1.out HB2.out⟩
  · go_enter Tryd.func6, Tryd.ntmps6
    go_wp2_with fail
    refine (first4 w).mono ?_; rintro e w1 ⟨rfl, hb1⟩
    have HB1 := Lib.hid hb1
    clear hb1
    go_wp2_with fail
    refine (first4 w1).mono ?_; rintro e w2 ⟨rfl, hb2⟩
    have HB2 := Lib.hid hb2
    clear hb2
    go_wp2_with fail
    go_ret
    exact ⟨rfl, below_step HB1.out HB2.out⟩
  · go_enter Tryd.func6, Tryd.ntmps6
    go_wp2_with fail
    refine (first4 w).mono ?_; rintro e w1 ⟨rfl, hb1⟩
    have HB1 := Lib.hid hb1
    clear hb1
    go_wp2_with fail
    refine (first4 w1).mono ?_; rintro e w2 ⟨rfl, hb2⟩
    have HB2 := Lib.hid hb2
    clear hb2
    go_wp2_with fail
    go_ret
    exact ⟨rfl, below_step HB1.out HB2.out⟩
  · go_enter Tryd.func6, Tryd.ntmps6
    go_wp2_with fail
    refine (first4 w).mono ?_; rintro e w1 ⟨rfl, hb1⟩
    have HB1 := Lib.hid hb1
    clear hb1
    go_wp2_with fail
    refine (first4 w1).mono ?_; rintro e w2 ⟨rfl, hb2⟩
    have HB2 := Lib.hid hb2
    clear hb2
    go_wp2_with fail
    go_ret
    exact ⟨rfl, below_step HB1.out HB2.out⟩
set_option maxRecDepth 100000 in
set_option maxHeartbeats 8000000 in
theorem back_in (ao bo : Option Addr) (cap bcap : Nat) (l : List Int) (m : List Nat) (s : ByteArray) (dp : Nat) (w : World) (hi : Ints .i64 w ao l) (hm : Nats .u64 w bo m) (hl : l.length ≤ 100) (hlm : m.length = l.length) (hs : s.size ≤ 4000) (hdp : dp ≤ 50)
    (hl1 : Hid (∀ a ∈ l, -9223372036854775808 ≤ a ∧ a ≤ 9223372036854775807)) (hm1 : Hid (∀ n ∈ m, n < 2 ^ 64)) (hg : Glob w) :
    Calls Tryd.prog 6 #[.slice ao l.length cap, .slice bo m.length bcap, .string s, .int .i64 (dp : Int)] w fun e w' => e = .returned (.bool true) ∧ Below w.heap.size w w' := by
  have HG := Lib.hid hg
  have HI := Lib.hid hi
  have HM := Lib.hid hm
  have hd0 : decide (100 < (l.length : Int)) = false := by simp; omega
  have hd1 : ((m.length : Int) != (l.length : Int)) = false := by simp; omega
  have hd2 : decide (4000 < (s.size : Int)) = false := by simp; omega
  have hd3 : decide ((dp : Int) < 0) = false := by simp
  have hd4 : decide (50 < (dp : Int)) = false := by simp; omega
  clear hg hi hm
  go_enter Tryd.func6, Tryd.ntmps6
  go_wp2_with fail
  refine (first4 w).mono ?_; rintro e w1 ⟨rfl, hb⟩
  have HB := Lib.hid hb
  clear hb
  go_wp2_with fail
  go_loopg [9, 10, 11] l.length (fun g x y i wr => ∃ (j : Nat) (A : ByteArray) (C : List UInt8) (ts : List (List UInt8)), j + g = l.length ∧ i = .int .i64 (j : Int) ∧ x = .string A ∧ Hid (A = ⟨C.toArray⟩) ∧ wr.ownsRow w.heap.size 9 1 y ts.length (ts.map strV) ∧ BkRel C ts j ∧ Below w.heap.size w wr)
  case atStart => exact ⟨0, ⟨#[]⟩, [], [], by omega, rfl, rfl, Lib.hid rfl, World.ownsRow_nil _ _ _ _, bk_start, HB.out⟩
  case round =>
    obtain ⟨j, A, C, ts, hj, rfl, rfl, HA, hown, hrel, hb⟩ := hrel
    have HJ := Lib.hid hj
    have HR := Lib.hid hrel
    have HB := Lib.hid hb
    have HOW := Lib.hid hown
    have hjl : j ≤ l.length := by omega
    have hAs : A.size ≤ 410000 := by
      obtain ⟨_, _, _, _, d, _⟩ := hrel
      rw [HA.out]; simp [ByteArray.size]; omega
    clear hj hrel hb hown
    by_cases hlt : j < l.length
    · obtain ⟨b, off, rfl, hbl, hc1⟩ := (HI.out.below HB.out).at hlt
      obtain ⟨b2, off2, n, HNN, rfl, hbl2, hc2⟩ := (HM.out.below HB.out).at (i := j) (by omega)
      obtain ⟨a, HAA⟩ : ∃ a, Hid (a = l[j]) := ⟨_, Lib.hid rfl⟩
      rw [← HAA.out] at hc1
      have ha1 : -9223372036854775808 ≤ a ∧ a ≤ 9223372036854775807 := by rw [HAA.out]; exact hl1.out _ (List.getElem_mem _)
      have hn64 : n < 2 ^ 64 := by rw [HNN.out]; exact hm1.out _ (List.getElem_mem _)
      obtain ⟨ha2, ha3⟩ := ha1
      have hjm : j < m.length := by omega
      have hi1 : (j : Int) < (l.length : Int) := by omega
      have hi2 : (j : Int) < (m.length : Int) := by omega
      go_wp2_with fail
      have hI : Below wr.heap.size wr wr.drew := (Below.refl _ _).drew
      have hne : Nonempty { w' : World // Below wr.heap.size wr w' } := ⟨⟨_, hI⟩⟩
      have hca : ∀ t : { w' : World // Below wr.heap.size wr w' }, t.1.cell? ⟨b, off + j, none⟩ = some (.int .i64 a) := fun t => (t.2.cell (p := ⟨b, off + j, none⟩) hbl).trans hc1
      have hcb : ∀ t : { w' : World // Below wr.heap.size wr w' }, t.1.cell? ⟨b2, off2 + j, none⟩ = some (.int .u64 (n : Int)) := fun t => (t.2.cell (p := ⟨b2, off2 + j, none⟩) hbl2).trans hc2
      refine wp_region_seq (S := fun w' => Below wr.heap.size wr w') [(0, true), (1, true), (2, true), (3, true), (4, true), (5, true), (6, true), (7, true), (8, false), (9, true)] (by kernel_rfl) (by kernel_rfl) (by kernel_rfl) (by kernel_rfl) hI ?_
      iterate 8 (refine seq_take _ rfl (fun K hK => ?_); go_simp; (first | refine hK _ ?_ | (refine ⟨undef, by rw [if_neg (by simp [undef])], ?_⟩; refine hK _ ?_)); clear hK K)
      refine seq_come _ rfl (fun K hK => ?_); go_simp
      refine (wvarint_any a n _ ha2 ha3 hn64).mono ?_; rintro e w2 ⟨rfl, hb⟩
      have hI2 := below_step hI hb
      clear hb
      go_simp; refine hK.out _ _ hI2 ?_; clear hK K
      iterate 1 (refine seq_take _ rfl (fun K hK => ?_); go_simp; (first | refine hK _ ?_ | (refine ⟨undef, by rw [if_neg (by simp [undef])], ?_⟩; refine hK _ ?_)); clear hK K)
      refine seq_done ?_
      have HB2 := Lib.hid hI2
      clear hca hcb hne hI hI2
      have hr3 : j % 3 = 0 ∨ j % 3 = 1 ∨ j % 3 = 2 := by omega
      rcases hr3 with hr | hr | hr
      · have htm : (j : Int).tmod 3 = 0 := by rw [Int.tmod_eq_emod_of_nonneg (by omega)]; omega
        clear hr
        obtain ⟨t, HTT⟩ : ∃ t, Hid (t = wrec a 0 (vput n)) := ⟨_, Lib.hid rfl⟩
        have HTO : Hid (TxtO t) := Lib.hid (by rw [HTT.out]; exact txtO_num hn64)
        have htl : t.length ≤ 4100 := by rw [HTT.out]; have := wrec_len a 0 (vput n); have := vput_len n; omega
        rw [← HTT.out]
        have HOW2 := Lib.hid (own_below HOW.out HB2.out)
        have HBW := Lib.hid (below_step HB.out HB2.out)
        have hbs : w.heap.size ≤ w2.heap.size := HBW.out.size
        have htsl : ts.length ≤ 100 := by obtain ⟨_, _, _, _, _, e⟩ := HR.out; omega
        cases ht : t with
        | nil =>
          go_wp2_with fail
          have hj := HJ.out
          go_roundg (gk - 1)
          case measure => omega
          case rel => exact ⟨j + 1, _, C, ts, by omega, by simp, rfl, Lib.hid (by rw [HA.out]; simp [ba_append]), HOW2.out, bk_none HR.out, HBW.out⟩
        | cons b0 t0 =>
          rw [ht] at HTO htl
          have hown := HOW2.out
          have htl0 : t0.length ≤ 4100 := by simp at htl; omega
          go_wp2_with (at_builtin; refine wpList_app1 (c := 1) (cs := [strV (b0 :: t0)]) rfl _ _ 64 rfl Tryd.elStr (by decide) hown rfl rfl rfl (by simp [Value.oneCell', strV]) (by unfold maxLen; omega) (by omega) hbs ?_; intro v' w9 hown' hgrow)
          have HO9 : Hid (w9.ownsRow w.heap.size 9 1 v' (ts ++ [b0 :: t0]).length ((ts ++ [b0 :: t0]).map strV)) := Lib.hid (by simpa using hown')
          have HB9 : Hid (Below w.heap.size w w9) := Lib.hid (HBW.out.grown hgrow hbs (fun k hk => (hown.lt _ hk).1))
          have hj := HJ.out
          go_roundg (gk - 1)
          case measure => omega
          case rel => exact ⟨j + 1, _, C ++ (b0 :: t0), ts ++ [b0 :: t0], by omega, by simp, rfl, Lib.hid (by rw [HA.out, ba_append]), HO9.out, bk_some HR.out HTO.out (by simp) htl, HB9.out⟩
      · have htm : (j : Int).tmod 3 = 1 := by rw [Int.tmod_eq_emod_of_nonneg (by omega)]; omega
        clear hr
        replace hc1 := (HB2.out.cell (p := ⟨b, off + j, none⟩) hbl).trans hc1
        replace hc2 := (HB2.out.cell (p := ⟨b2, off2 + j, none⟩) hbl2).trans hc2
        replace hbl := Nat.lt_of_lt_of_le hbl HB2.out.size
        replace hbl2 := Nat.lt_of_lt_of_le hbl2 HB2.out.size
        go_wp2_with fail
        have hI : Below w2.heap.size w2 w2.drew := (Below.refl _ _).drew
        have hne : Nonempty { w' : World // Below w2.heap.size w2 w' } := ⟨⟨_, hI⟩⟩
        have hca : ∀ t : { w' : World // Below w2.heap.size w2 w' }, t.1.cell? ⟨b, off + j, none⟩ = some (.int .i64 a) := fun t => (t.2.cell (p := ⟨b, off + j, none⟩) hbl).trans hc1
        have hcb : ∀ t : { w' : World // Below w2.heap.size w2 w' }, t.1.cell? ⟨b2, off2 + j, none⟩ = some (.int .u64 (n : Int)) := fun t => (t.2.cell (p := ⟨b2, off2 + j, none⟩) hbl2).trans hc2
        refine wp_region_seq (S := fun w' => Below w2.heap.size w2 w') [(0, true), (1, true), (2, true), (3, true), (4, true), (5, true), (6, true), (7, true), (8, false), (9, true)] (by kernel_rfl) (by kernel_rfl) (by kernel_rfl) (by kernel_rfl) hI ?_
        iterate 8 (refine seq_take _ rfl (fun K hK => ?_); go_simp; (first | refine hK _ ?_ | (refine ⟨undef, by rw [if_neg (by simp [undef])], ?_⟩; refine hK _ ?_)); clear hK K)
        refine seq_come _ rfl (fun K hK => ?_); go_simp
        refine (wfixed_any a n _ ha2 ha3 hn64).mono ?_; rintro e w3 ⟨rfl, hb⟩
        have hI2 := below_step hI hb
        clear hb
        go_simp; refine hK.out _ _ hI2 ?_; clear hK K
        iterate 1 (refine seq_take _ rfl (fun K hK => ?_); go_simp; (first | refine hK _ ?_ | (refine ⟨undef, by rw [if_neg (by simp [undef])], ?_⟩; refine hK _ ?_)); clear hK K)
        refine seq_done ?_
        have HB2 := Lib.hid (below_step HB2.out hI2)
        clear hca hcb hne hI hI2
        obtain ⟨t, HTT⟩ : ∃ t, Hid (t = wrec a 1 (eight 8 n)) := ⟨_, Lib.hid rfl⟩
        have HTO : Hid (TxtO t) := Lib.hid (by rw [HTT.out]; exact txtO_fixed hn64)
        have htl : t.length ≤ 4100 := by rw [HTT.out]; have := wrec_len a 1 (eight 8 n); have := eight_len 8 n; omega
        rw [← HTT.out]
        have HOW2 := Lib.hid (own_below HOW.out HB2.out)
        have HBW := Lib.hid (below_step HB.out HB2.out)
        have hbs : w.heap.size ≤ w3.heap.size := HBW.out.size
        have htsl : ts.length ≤ 100 := by obtain ⟨_, _, _, _, _, e⟩ := HR.out; omega
        cases ht : t with
        | nil =>
          go_wp2_with fail
          have hj := HJ.out
          go_roundg (gk - 1)
          case measure => omega
          case rel => exact ⟨j + 1, _, C, ts, by omega, by simp, rfl, Lib.hid (by rw [HA.out]; simp [ba_append]), HOW2.out, bk_none HR.out, HBW.out⟩
        | cons b0 t0 =>
          rw [ht] at HTO htl
          have hown := HOW2.out
          have htl0 : t0.length ≤ 4100 := by simp at htl; omega
          go_wp2_with (at_builtin; refine wpList_app1 (c := 1) (cs := [strV (b0 :: t0)]) rfl _ _ 64 rfl Tryd.elStr (by decide) hown rfl rfl rfl (by simp [Value.oneCell', strV]) (by unfold maxLen; omega) (by omega) hbs ?_; intro v' w9 hown' hgrow)
          have HO9 : Hid (w9.ownsRow w.heap.size 9 1 v' (ts ++ [b0 :: t0]).length ((ts ++ [b0 :: t0]).map strV)) := Lib.hid (by simpa using hown')
          have HB9 : Hid (Below w.heap.size w w9) := Lib.hid (HBW.out.grown hgrow hbs (fun k hk => (hown.lt _ hk).1))
          have hj := HJ.out
          go_roundg (gk - 1)
          case measure => omega
          case rel => exact ⟨j + 1, _, C ++ (b0 :: t0), ts ++ [b0 :: t0], by omega, by simp, rfl, Lib.hid (by rw [HA.out, ba_append]), HO9.out, bk_some HR.out HTO.out (by simp) htl, HB9.out⟩
      · have htm : (j : Int).tmod 3 = 2 := by rw [Int.tmod_eq_emod_of_nonneg (by omega)]; omega
        clear hr
        obtain ⟨q, hq⟩ : ∃ q, q = s.size / (j + 1) := ⟨_, rfl⟩
        have hqs : q ≤ s.size := by rw [hq]; exact Nat.div_le_self _ _
        have htd : (s.size : Int).tdiv ((j : Int) + 1) = (q : Int) := by rw [Int.tdiv_eq_ediv_of_nonneg (by omega), hq]; simp
        obtain ⟨S, HS⟩ : ∃ S : ByteArray, Hid (S = s.extract 0 q) := ⟨_, Lib.hid rfl⟩
        have hSs : S.size ≤ 4000 := by rw [HS.out]; simp; omega
        have hSl : S.size = S.data.toList.length := by simp
        have HSL := Lib.hid hSl
        have hz1 : ¬ ((j : Int) + 1 = 0) := by omega
        have hz2 : ((j : Int) + 1 == 0) = false := by simp; omega
        have hwj : IntKind.i64.wrap ((j : Int) + 1) = (j : Int) + 1 := i64_wrap_id (by omega) (by omega)
        have hwq : IntKind.i64.wrap (q : Int) = (q : Int) := i64_wrap_id (by omega) (by omega)
        have hq0 : (0 : Int) ≤ (q : Int) := by omega
        have hq1 : (q : Int) ≤ (s.size : Int) := by omega
        clear hq hSl
        replace hc1 := (HB2.out.cell (p := ⟨b, off + j, none⟩) hbl).trans hc1
        replace hc2 := (HB2.out.cell (p := ⟨b2, off2 + j, none⟩) hbl2).trans hc2
        replace hbl := Nat.lt_of_lt_of_le hbl HB2.out.size
        replace hbl2 := Nat.lt_of_lt_of_le hbl2 HB2.out.size
        go_wp2_with fail
        have hI : Below w2.heap.size w2 w2.drew := (Below.refl _ _).drew
        have hne : Nonempty { w' : World // Below w2.heap.size w2 w' } := ⟨⟨_, hI⟩⟩
        have hca : ∀ t : { w' : World // Below w2.heap.size w2 w' }, t.1.cell? ⟨b, off + j, none⟩ = some (.int .i64 a) := fun t => (t.2.cell (p := ⟨b, off + j, none⟩) hbl).trans hc1
        have hcb : ∀ t : { w' : World // Below w2.heap.size w2 w' }, t.1.cell? ⟨b2, off2 + j, none⟩ = some (.int .u64 (n : Int)) := fun t => (t.2.cell (p := ⟨b2, off2 + j, none⟩) hbl2).trans hc2
        refine wp_region_seq (S := fun w' => Below w2.heap.size w2 w') [(0, true), (1, true), (2, true), (3, true), (4, true), (5, true), (6, true), (7, true), (8, true), (9, true), (10, true), (11, false), (12, true)] (by kernel_rfl) (by kernel_rfl) (by kernel_rfl) (by kernel_rfl) hI ?_
        iterate 11 (refine seq_take _ rfl (fun K hK => ?_); go_simp; (first | refine hK _ ?_ | (refine ⟨undef, by rw [if_neg (by simp [undef])], ?_⟩; refine hK _ ?_)); clear hK K)
        refine seq_come _ rfl (fun K hK => ?_); go_simp
        rw [← HS.out]
        refine (wbytes_any a S _ ha2 ha3 (by omega)).mono ?_; rintro e w3 ⟨rfl, hb⟩
        have hI2 := below_step hI hb
        clear hb
        go_simp; refine hK.out _ _ hI2 ?_; clear hK K
        iterate 1 (refine seq_take _ rfl (fun K hK => ?_); go_simp; (first | refine hK _ ?_ | (refine ⟨undef, by rw [if_neg (by simp [undef])], ?_⟩; refine hK _ ?_)); clear hK K)
        refine seq_done ?_
        have HB2 := Lib.hid (below_step HB2.out hI2)
        clear hca hcb hne hI hI2
        obtain ⟨t, HTT⟩ : ∃ t, Hid (t = wrec a 2 (vput S.size ++ S.data.toList)) := ⟨_, Lib.hid rfl⟩
        have HTO : Hid (TxtO t) := Lib.hid (by rw [HTT.out]; exact (by have := txtO_bytes (num := a) (s := S.data.toList) (by rw [← HSL.out]; omega); rw [← HSL.out] at this; exact this))
        have htl : t.length ≤ 4100 := by rw [HTT.out]; have := wrec_len a 2 (vput S.size ++ S.data.toList); have := vput_len S.size; have := HSL.out; simp at *; omega
        rw [← HTT.out]
        have HOW2 := Lib.hid (own_below HOW.out HB2.out)
        have HBW := Lib.hid (below_step HB.out HB2.out)
        have hbs : w.heap.size ≤ w3.heap.size := HBW.out.size
        have htsl : ts.length ≤ 100 := by obtain ⟨_, _, _, _, _, e⟩ := HR.out; omega
        cases ht : t with
        | nil =>
          go_wp2_with fail
          have hj := HJ.out
          go_roundg (gk - 1)
          case measure => omega
          case rel => exact ⟨j + 1, _, C, ts, by omega, by simp, rfl, Lib.hid (by rw [HA.out]; simp [ba_append]), HOW2.out, bk_none HR.out, HBW.out⟩
        | cons b0 t0 =>
          rw [ht] at HTO htl
          have hown := HOW2.out
          have htl0 : t0.length ≤ 4100 := by simp at htl; omega
          go_wp2_with (at_builtin; refine wpList_app1 (c := 1) (cs := [strV (b0 :: t0)]) rfl _ _ 64 rfl Tryd.elStr (by decide) hown rfl rfl rfl (by simp [Value.oneCell', strV]) (by unfold maxLen; omega) (by omega) hbs ?_; intro v' w9 hown' hgrow)
          have HO9 : Hid (w9.ownsRow w.heap.size 9 1 v' (ts ++ [b0 :: t0]).length ((ts ++ [b0 :: t0]).map strV)) := Lib.hid (by simpa using hown')
          have HB9 : Hid (Below w.heap.size w w9) := Lib.hid (HBW.out.grown hgrow hbs (fun k hk => (hown.lt _ hk).1))
          have hj := HJ.out
          go_roundg (gk - 1)
          case measure => omega
          case rel => exact ⟨j + 1, _, C ++ (b0 :: t0), ts ++ [b0 :: t0], by omega, by simp, rfl, Lib.hid (by rw [HA.out, ba_append]), HO9.out, bk_some HR.out HTO.out (by simp) htl, HB9.out⟩
    · obtain ⟨rs, hC, hts, hTx, hCl, htl⟩ := HR.out
      have HTX := Lib.hid hTx
      have HC := Lib.hid hC
      have HTS := Lib.hid hts
      have hCl2 : C.length ≤ 410000 := by omega
      clear hC hts hTx hCl htl
      obtain ⟨w9, rfl⟩ : ∃ w9 : World, w9 = wr := ⟨_, rfl⟩
      go_wp2_with fail
      go_loopg [9, 13] dp (fun g x i wr => ∃ (k : Nat) (A2 : ByteArray), k + g = dp ∧ i = .int .i64 (k : Int) ∧ x = .string A2 ∧ Hid (A2 = ⟨(nest k C).toArray⟩) ∧ (nest k C).length ≤ 410000 + 20 * k ∧ wr.ownsRow w.heap.size 9 1 u10 ts.length (ts.map strV) ∧ Below w.heap.size w wr)
      case atStart => exact ⟨0, A, by omega, rfl, rfl, HA, by simpa [nest] using hCl2, HOW.out, HB.out⟩
      case round =>
        obtain ⟨k, A2, hk, rfl, rfl, HA2, hnl, hown2, hb2⟩ := hrel
        have HK := Lib.hid hk
        have HB2 := Lib.hid hb2
        have HOW2 := Lib.hid hown2
        have hkd : k ≤ dp := by omega
        have hA2s : A2.size ≤ 411000 := by rw [HA2.out]; simp [ByteArray.size]; omega
        clear hk hb2 hown2
        by_cases hlt2 : k < dp
        · have HT3 : Hid (wtag ((k : Int) + 1) 3 = vput (8 * (k + 1) + 3)) := Lib.hid (by have := wtag_ok (num := k + 1) (kind := 3) (by omega) (by omega) (by omega); simpa using this)
          have HT4 : Hid (wtag ((k : Int) + 1) 4 = vput (8 * (k + 1) + 4)) := Lib.hid (by have := wtag_ok (num := k + 1) (kind := 4) (by omega) (by omega) (by omega); simpa using this)
          have hv3 := vput_len (8 * (k + 1) + 3)
          have hv4 := vput_len (8 * (k + 1) + 4)
          have HNX : Hid ((ByteArray.mk (vput (8 * (k + 1) + 3)).toArray ++ A2) ++ ByteArray.mk (vput (8 * (k + 1) + 4)).toArray = ⟨(nest (k + 1) C).toArray⟩) := Lib.hid (by rw [HA2.out, ba_append, ba_append]; rfl)
          have hnl2 : (nest (k + 1) C).length ≤ 410000 + 20 * (k + 1) := by simp [nest]; omega
          go_wp2_with fail
          refine (tag_any ((k : Int) + 1) 3 _ (by omega) (by omega) (by omega) (by omega)).mono ?_; rintro e w3 ⟨rfl, hb⟩
          rw [HT3.out]
          have HB3 := Lib.hid (below_step HB2.out hb)
          have HOW3 := Lib.hid (own_below HOW2.out hb)
          clear hb
          go_wp2_with fail
          refine (tag_any ((k : Int) + 1) 4 _ (by omega) (by omega) (by omega) (by omega)).mono ?_; rintro e w4 ⟨rfl, hb⟩
          rw [HT4.out]
          have HB4 := Lib.hid (below_step HB3.out hb)
          have HOW4 := Lib.hid (own_below HOW3.out hb)
          clear hb
          go_wp2_with fail
          have hk := HK.out
          go_roundg (gk - 1)
          case measure => omega
          case rel => exact ⟨k + 1, _, by omega, by simp, rfl, HNX, hnl2, HOW4.out, HB4.out⟩
        · obtain rfl : k = dp := by omega
          have HCR := Lib.hid (show C = rs.flatMap Rec.raw from HC.out.symm)
          rcases Nat.eq_zero_or_pos k with h0 | hpos
          · subst h0
            have HWL : Hid (wall A2.data.toList 0 = .ok rs) := Lib.hid (by
              rw [HA2.out]
              simp only [nest]
              rw [HCR.out]
              simpa using txts_wall rs 0 HTX.out)
            have hrs : rs.length ≤ 100 := by obtain ⟨_, _, _, _, _, e⟩ := HR.out; rw [← HTS.out] at e; simp at e; omega
            go_wp2_with fail
            refine (all_any A2 0 _ (by omega)).mono ?_; intro e w3 hpost
            unfold AllPost at hpost
            rw [HWL.out] at hpost
            obtain ⟨u3, rfl, ho, _, hb⟩ := hpost
            have HO3 := Lib.hid (own_base ho HB2.out.size)
            have HB3 := Lib.hid (below_step HB2.out hb)
            have HOW3 := Lib.hid (own_below HOW2.out hb)
            clear hb ho
            obtain ⟨ao3, cap3, rfl⟩ := own_slice HO3.out
            obtain ⟨wz, rfl⟩ : ∃ wz : World, wz = wr := ⟨_, rfl⟩
            go_wp2_with fail
            go_loopg [18, 19] rs.length (fun g x i wr => ∃ p : Nat, p + g = rs.length ∧ i = .int .i64 (p : Int) ∧ wr.ownsRow w3.heap.size 9 1 x p ((rs.take p).map fun r => strV r.raw) ∧ Below w3.heap.size w3 wr)
            case atStart => exact ⟨0, by omega, rfl, World.ownsRow_nil _ _ _ _, Below.refl _ _⟩
            case round =>
              obtain ⟨p, hp, rfl, hgot, hb⟩ := hrel
              have HP := Lib.hid hp
              have HGOT := Lib.hid hgot
              have HREC := Lib.hid (own_below HO3.out hb)
              have HWANT := Lib.hid (own_below HOW3.out hb)
              have HBL := Lib.hid hb
              have HB4 := Lib.hid (below_step HB3.out hb)
              have hpl : p ≤ rs.length := by omega
              clear hp hgot hb
              by_cases hlt3 : p < rs.length
              · obtain ⟨g3, cg3, hv, _, hg3, _, _⟩ := own_some HREC.out (by omega)
                simp only [Value.slice.injEq] at hv
                obtain ⟨rfl, _, rfl⟩ := hv
                obtain ⟨r, HRX⟩ : ∃ r, Hid (r = rs[p]) := ⟨_, Lib.hid rfl⟩
                obtain ⟨R, HRW⟩ : ∃ R : ByteArray, Hid (R = ⟨r.raw.toArray⟩) := ⟨_, Lib.hid rfl⟩
                have hTr : Txt r.raw r := by rw [HRX.out]; exact HTX.out _ (List.getElem_mem _)
                have hRs : R.size ≤ 410000 := by
                  have e1 : R.size = r.raw.length := by rw [HRW.out]; simp [ByteArray.size]
                  have e2 := raw_le HC.out (r := r) (by rw [HRX.out]; exact List.getElem_mem _)
                  omega
                have HN : Hid (wnx (R.data.toList.drop 0) 0 = .ok (r, R.size)) := Lib.hid (by
                  have := txt_wnx hTr [] 0
                  rw [HRW.out]
                  simpa [ByteArray.size] using this)
                have hcr : wr.cell? ⟨g3, p * 5 + 4, none⟩ = some (.string R) := by rw [HREC.out.cellAt (p * 5 + 4) (by omega), show p * 5 + 4 = 5 * p + 4 by omega, recs_cell hlt3 (by omega), ← HRX.out]; simp [recCells, HRW.out]
                clear hTr
                go_wp2_with fail
                refine (next_any R 0 0 _ (by omega) (by omega)).mono ?_; intro e w5 hpost
                unfold NextPost at hpost
                rw [HN.out] at hpost
                obtain ⟨rfl, hb⟩ := hpost
                have HB5 := Lib.hid (below_step hb (below_new _ (.cells #[.int .i64 (r.num : Int), .int .i64 (r.ty : Int), .int .u64 (r.n : Int), .string ⟨r.s.toArray⟩, .string R] 36)))
                clear hb hcr
                unfold recV
                rw [← HRW.out]
                go_wp2_with fail
                obtain ⟨w6, hw6⟩ : ∃ w6, w6 = w5.alloc (.cells #[.int .i64 (r.num : Int), .int .i64 (r.ty : Int), .int .u64 (r.n : Int), .string ⟨r.s.toArray⟩, .string R] 36) := ⟨_, rfl⟩
                rw [← hw6]
                have HB6 : Hid (Below wr.heap.size wr w6) := Lib.hid (by rw [hw6]; exact HB5.out)
                have HRR : Hid (RecRow w6 w5.heap.size #[.int .i64 (r.num : Int), .int .i64 (r.ty : Int), .int .u64 (r.n : Int), .string ⟨r.s.toArray⟩, .string R]) := Lib.hid (by rw [hw6]; exact RecRow.new _ _)
                have HO6 := Lib.hid (own_below HREC.out HB6.out)
                clear hw6
                have hI : Below w6.heap.size w6 w6.drew := (Below.refl _ _).drew
                have hne : Nonempty { w' : World // Below w6.heap.size w6 w' } := ⟨⟨_, hI⟩⟩
                have hx0 : ∀ t : { w' : World // Below w6.heap.size w6 w' }, t.1.cell? ⟨w5.heap.size, 0, none⟩ = some (.int .i64 (r.num : Int)) := fun t => (t.2.cell (p := ⟨w5.heap.size, 0, none⟩) (row_lt HRR.out.row)).trans (row_cell HRR.out.row (j := 0) rfl)
                have hx1 : ∀ t : { w' : World // Below w6.heap.size w6 w' }, t.1.cell? ⟨w5.heap.size, 1, none⟩ = some (.int .i64 (r.ty : Int)) := fun t => (t.2.cell (p := ⟨w5.heap.size, 1, none⟩) (row_lt HRR.out.row)).trans (row_cell HRR.out.row (j := 1) rfl)
                have hx2 : ∀ t : { w' : World // Below w6.heap.size w6 w' }, t.1.cell? ⟨w5.heap.size, 2, none⟩ = some (.int .u64 (r.n : Int)) := fun t => (t.2.cell (p := ⟨w5.heap.size, 2, none⟩) (row_lt HRR.out.row)).trans (row_cell HRR.out.row (j := 2) rfl)
                have hx3 : ∀ t : { w' : World // Below w6.heap.size w6 w' }, t.1.cell? ⟨w5.heap.size, 3, none⟩ = some (.string ⟨r.s.toArray⟩) := fun t => (t.2.cell (p := ⟨w5.heap.size, 3, none⟩) (row_lt HRR.out.row)).trans (row_cell HRR.out.row (j := 3) rfl)
                have hx4 : ∀ t : { w' : World // Below w6.heap.size w6 w' }, t.1.cell? ⟨w5.heap.size, 4, none⟩ = some (.string R) := fun t => (t.2.cell (p := ⟨w5.heap.size, 4, none⟩) (row_lt HRR.out.row)).trans (row_cell HRR.out.row (j := 4) rfl)
                have hy0 : ∀ t : { w' : World // Below w6.heap.size w6 w' }, t.1.cell? ⟨g3, p * 5, none⟩ = some (.int .i64 (r.num : Int)) := fun t => by rw [(own_below HO6.out t.2).cellAt (p * 5) (by omega), show p * 5 = 5 * p + 0 by omega, recs_cell hlt3 (by omega), ← HRX.out]; simp [recCells]
                have hy1 : ∀ t : { w' : World // Below w6.heap.size w6 w' }, t.1.cell? ⟨g3, p * 5 + 1, none⟩ = some (.int .i64 (r.ty : Int)) := fun t => by rw [(own_below HO6.out t.2).cellAt (p * 5 + 1) (by omega), show p * 5 + 1 = 5 * p + 1 by omega, recs_cell hlt3 (by omega), ← HRX.out]; simp [recCells]
                have hy2 : ∀ t : { w' : World // Below w6.heap.size w6 w' }, t.1.cell? ⟨g3, p * 5 + 2, none⟩ = some (.int .u64 (r.n : Int)) := fun t => by rw [(own_below HO6.out t.2).cellAt (p * 5 + 2) (by omega), show p * 5 + 2 = 5 * p + 2 by omega, recs_cell hlt3 (by omega), ← HRX.out]; simp [recCells]
                have hy3 : ∀ t : { w' : World // Below w6.heap.size w6 w' }, t.1.cell? ⟨g3, p * 5 + 3, none⟩ = some (.string ⟨r.s.toArray⟩) := fun t => by rw [(own_below HO6.out t.2).cellAt (p * 5 + 3) (by omega), show p * 5 + 3 = 5 * p + 3 by omega, recs_cell hlt3 (by omega), ← HRX.out]; simp [recCells]
                have hy4 : ∀ t : { w' : World // Below w6.heap.size w6 w' }, t.1.cell? ⟨g3, p * 5 + 4, none⟩ = some (.string R) := fun t => by rw [(own_below HO6.out t.2).cellAt (p * 5 + 4) (by omega), show p * 5 + 4 = 5 * p + 4 by omega, recs_cell hlt3 (by omega), ← HRX.out]; simp [recCells, HRW.out]
                refine wp_region_seq (S := fun w' => Below w6.heap.size w6 w') [(0, true), (1, true), (2, true), (3, true), (4, true), (5, true), (6, true), (7, true), (8, true), (9, true), (10, true), (11, true), (12, true), (13, true), (14, true), (15, true), (16, true), (17, true), (18, true), (19, true)] (by kernel_rfl) (by kernel_rfl) (by kernel_rfl) (by kernel_rfl) hI ?_
                iterate 20 (refine seq_take _ rfl (fun K hK => ?_); go_simp; (first | refine hK _ ?_ | (refine ⟨undef, by rw [if_neg (by simp [undef])], ?_⟩; refine hK _ ?_)); clear hK K)
                refine seq_done ?_
                clear hx0 hx1 hx2 hx3 hx4 hy0 hy1 hy2 hy3 hy4
                obtain ⟨w7, hw7⟩ : ∃ w7, w7 = w6.drew := ⟨_, rfl⟩
                rw [← hw7] at hI ⊢
                have HB7 := Lib.hid (below_step HB6.out hI)
                have hcr : w7.cell? ⟨g3, p * 5 + 4, none⟩ = some (.string R) := by rw [(own_below HREC.out HB7.out).cellAt (p * 5 + 4) (by omega), show p * 5 + 4 = 5 * p + 4 by omega, recs_cell hlt3 (by omega), ← HRX.out]; simp [recCells, HRW.out]
                have hgot := own_below HGOT.out HB7.out
                have hbs7 : w3.heap.size ≤ w7.heap.size := (below_step HBL.out HB7.out).size
                clear hw7 hI hne
                go_wp2_with (at_builtin; refine wpList_app1 (c := 1) (cs := [.string R]) rfl _ _ 64 rfl Tryd.elStr (by decide) hgot rfl rfl rfl (by simp [Value.oneCell']) (by unfold maxLen; omega) (by omega) hbs7 ?_; intro v' w9 hown' hgrow)
                have HO9 : Hid (w9.ownsRow w3.heap.size 9 1 v' (p + 1) ((rs.take (p + 1)).map fun r => strV r.raw)) := Lib.hid (by
                  rw [List.take_succ_eq_append_getElem hlt3, List.map_append, ← HRX.out]
                  rw [HRW.out] at hown'
                  exact hown')
                have HBL9 : Hid (Below w3.heap.size w3 w9) := Lib.hid ((below_step HBL.out HB7.out).grown hgrow hbs7 (fun k hk => (hgot.lt _ hk).1))
                have hp := HP.out
                go_roundg (gk - 1)
                case measure => omega
                case rel => exact ⟨p + 1, by omega, by simp, HO9.out, HBL9.out⟩
              · have hpe : p = rs.length := by have := HP.out; omega
                have hgot2 : wr.ownsRow w3.heap.size 9 1 u18 ts.length (ts.map strV) := by
                  have h9 := HGOT.out
                  rw [hpe, List.take_length] at h9
                  rw [← HTS.out, List.length_map, List.map_map]
                  exact h9
                have hwant2 := HWANT.out
                have htsl : ts.length ≤ 100 := by rw [← HTS.out]; simpa using hrs
                obtain ⟨ao5, cap5, rfl⟩ := own_slice hgot2
                obtain ⟨ao6, cap6, rfl⟩ := own_slice hwant2
                have HS5 := Lib.hid (strs_of_own hgot2)
                have HS6 := Lib.hid (strs_of_own hwant2)
                clear hgot2 hwant2
                go_wp2_with fail
                refine (first4 wr).mono ?_; rintro e w5 ⟨rfl, hb⟩
                have HS5 := Lib.hid (HS5.out.below hb)
                have HS6 := Lib.hid (HS6.out.below hb)
                have HB5 := Lib.hid (below_step HB4.out hb)
                clear hb
                go_wp2_with fail
                refine (texts_same ao5 ao6 cap5 cap6 ts w5 HS5.out HS6.out (by omega)).mono ?_; rintro e w6 ⟨rfl, hb⟩
                have HB6 := Lib.hid (below_step HB5.out hb)
                clear hb
                go_wp2_with fail
                go_ret
                exact ⟨rfl, HB6.out⟩
          · obtain ⟨i, rfl⟩ : ∃ i, k = i + 1 := ⟨k - 1, by omega⟩
            have HWL : Hid (wall A2.data.toList ((i : Int) + 1) = .ok [⟨i + 1, 3, 0, [], nest (i + 1) C⟩]) := Lib.hid (by
              rw [HA2.out, HCR.out]
              have := nest_wall i rs ((i : Int) + 1) (by omega) HTX.out (by omega)
              simpa using this)
            have HNO : Hid (wall A2.data.toList (i : Int) = .error 6) := Lib.hid (by
              rw [HA2.out]
              have := nest_no i C (i : Int) (by omega) (by omega)
              simpa using this)
            go_wp2_with fail
            refine (all_any A2 ((i : Int) + 1) _ (by omega)).mono ?_; intro e w3 hpost
            unfold AllPost at hpost
            rw [HWL.out] at hpost
            obtain ⟨u3, rfl, ho, _, hb⟩ := hpost
            have HO3 := Lib.hid ho
            have HB3 := Lib.hid (below_step HB2.out hb)
            clear hb ho
            obtain ⟨ao3, cap3, rfl⟩ := own_slice HO3.out
            go_wp2_with fail
            refine (all_any A2 (i : Int) _ (by omega)).mono ?_; intro e w4 hpost
            unfold AllPost at hpost
            rw [HNO.out] at hpost
            obtain ⟨v4, rfl, q4, hq4, hE⟩ := hpost
            obtain ⟨T4, y4, rfl⟩ := hE.iface
            have HE4 := Lib.hid hE.isErr
            have HO4 := Lib.hid (own_below HO3.out hE.2)
            have HB4 := Lib.hid (below_step HB3.out hE.2)
            clear hE
            go_wp2_with fail
            refine (first4 w4).mono ?_; rintro e w5 ⟨rfl, hb⟩
            have HE5 := Lib.hid (isErr_below hb HE4.out)
            have HO5 := Lib.hid (own_below HO4.out hb)
            have HB5 := Lib.hid (below_step HB4.out hb)
            clear hb
            obtain ⟨g3, cg3, hv, _, hg3, _, _⟩ := own_some HO5.out (by simp)
            simp only [Value.slice.injEq] at hv
            obtain ⟨rfl, _, rfl⟩ := hv
            have hc0 : w5.cell? ⟨g3, 0, none⟩ = some (.int .i64 ((i : Int) + 1)) := by rw [HO5.out.cellAt 0 (by simp)]; simp [recCells]
            have hc1 : w5.cell? ⟨g3, 1, none⟩ = some (.int .i64 3) := by rw [HO5.out.cellAt 1 (by simp)]; simp [recCells]
            have hc4 : w5.cell? ⟨g3, 4, none⟩ = some (.string A2) := by rw [HO5.out.cellAt 4 (by simp), HA2.out]; simp [recCells]
            go_wp2_with fail
            refine (code_any _ _ _ w5 HE5.out (root_code _) (HG.out.below HB5.out)).mono ?_; rintro e w6 ⟨rfl, hb⟩
            rw [show codeOf (codeV ((6 : Nat) : Int)) = 6 from rfl]
            have HB6 := Lib.hid (below_step HB5.out hb)
            clear hb
            go_wp2_with fail
            go_ret
            exact ⟨rfl, HB6.out⟩
end Go.Proofs.YtbhppchdoalahaaDoor
