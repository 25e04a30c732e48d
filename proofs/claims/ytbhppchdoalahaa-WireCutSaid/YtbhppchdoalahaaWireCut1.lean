/-
  hyglaw4.WireCut: both texts are records.
-/
import Derived.Test.YtbhppchdoalahaaWireCut0
namespace Go.Proofs.Ytbhppchdoalahaa
open Go.RowKit

set_option maxRecDepth 100000 in
set_option maxHeartbeats 8000000 in
theorem cut_gg (s t : ByteArray) (d k : Int) (rs : List Rec) (ks : List Rec) (w : World) (h1 : s.size ≤ 4000) (h2 : t.size ≤ 4000) (h3 : 0 ≤ d) (h4 : 0 ≤ k) (hk : k ≤ 9223372036854775807) (he : wall s.data.toList d = .ok rs) (m : Nat) (hm : rs.length = m + 1) (ht : wall t.data.toList d = .ok ks) :
    Calls Try.prog 5 #[.string s, .string t, .int .i64 d, .int .i64 k] w fun e w' => e = .returned (.bool true) ∧ Below w.heap.size w w' := by
  have HE := Lib.hid he
  have HM := Lib.hid hm
  have HW := Lib.hid (wall_raws _ (Nat.le_refl _) he)
  have hst : (s ++ t).size ≤ 8000 := by simp; omega
  have HT := Lib.hid ht
  have HAE : Hid (wall (s ++ t).data.toList d = .ok (rs ++ ks)) := Lib.hid (by rw [show (s ++ t).data.toList = s.data.toList ++ t.data.toList by simp, wall_append _ t.data.toList (Nat.le_refl _) he, ht])
  obtain ⟨R9, HR9⟩ : ∃ R : ByteArray, Hid (R = ⟨(rs[m]'(lt_hm HM)).raw.toArray⟩) := ⟨_, Lib.hid rfl⟩
  have hR9 : 2 ≤ R9.size ∧ R9.size ≤ s.size := by
    have e : R9.size = (rs[m]'(lt_hm HM)).raw.length := by rw [HR9.out]; simp [ByteArray.size]
    have e1 := HW.out.2 _ (List.getElem_mem (l := rs) (n := m) (by omega))
    have e2 := raw_le HW.out.1 (List.getElem_mem (l := rs) (n := m) (by omega))
    simp at e2
    omega
  obtain ⟨hR91, hR92⟩ := hR9
  obtain ⟨x, HX⟩ : ∃ x, Hid (x = k.toNat % (R9.size - 1)) := ⟨_, Lib.hid rfl⟩
  have hx1 : x < R9.size - 1 := by rw [HX.out]; exact Nat.mod_lt _ (by omega)
  have hx2 : k.tmod ((R9.size : Int) - 1) = (x : Int) := by
    rw [Int.tmod_eq_emod_of_nonneg h4, HX.out]
    have : ((R9.size : Int) - 1) = ((R9.size - 1 : Nat) : Int) := by omega
    rw [this, Int.natCast_emod, Int.toNat_of_nonneg h4]
  obtain ⟨q, hq⟩ : ∃ q, q = s.size - 1 - x := ⟨_, rfl⟩
  have hq1 : q < s.size := by omega
  have hq2 : (s.size : Int) - 1 - (x : Int) = (q : Int) := by omega
  have HCUT := Lib.hid (cut_s1 he hm HR9.out hq1 (by omega))
  have hxs : (s.extract 0 q).size ≤ 4000 := by simp; omega
  have hdA : decide (4000 < (s.size : Int)) = false := by simp; omega
  have hdB : decide (4000 < (t.size : Int)) = false := by simp; omega
  have hdC : decide (d < 0) = false := by simpa using h3
  have hdD : decide (k < 0) = false := by simpa using h4
  clear he hm ht hq
  go_enter Try.func5, Try.ntmps5
  go_wp2_with fail
  refine (first4 w).mono ?_; rintro e w1 ⟨rfl, hb1⟩
  have HB1 := Lib.hid hb1
  clear hb1
  go_wp2_with fail
  refine (all_good w1 (by omega) HE.out).mono ?_; rintro e w2 ⟨ao, cap, rfl, ho, hl, hb2⟩
  rw [HM.out] at ho hl ⊢
  have HO2 := Lib.hid ho
  have HB2 := Lib.hid (below_step HB1.out hb2)
  clear hb2 ho
  go_wp2_with fail
  refine (all_good w2 (by omega) HAE.out).mono ?_; rintro e w3 ⟨ao3, cap3, rfl, _, hl3, hb3⟩
  rw [show (rs ++ ks).length = m + 1 + ks.length by simp [HM.out]] at hl3 ⊢
  have HO3 := Lib.hid (own_below HO2.out hb3)
  have HB3 := Lib.hid (below_step HB2.out hb3)
  clear hb3
  go_wp2_with fail
  refine (all_good w3 (by omega) HT.out).mono ?_; rintro e w4 ⟨ao4, cap4, rfl, _, hl4, hb4⟩
  have hwk2 : IntKind.i64.wrap ((m : Int) + 1 + (ks.length : Int)) = (m : Int) + 1 + (ks.length : Int) := i64_wrap_id (by omega) (by omega)
  have HO4 := Lib.hid (own_below HO3.out hb4)
  have HB4 := Lib.hid (below_step HB3.out hb4)
  clear hb4
  obtain ⟨g, cap', hv, hg1, hg2, hg3, hg4⟩ := own_some HO4.out (by omega)
  simp only [Value.slice.injEq] at hv
  obtain ⟨rfl, _, rfl⟩ := hv
  have hcl : ∀ j (hj : j < rs.length), w4.cell? ⟨g, j * 5 + 4, none⟩ = some (.string ⟨rs[j].raw.toArray⟩) := fun j hj => by
    rw [HO4.out.cellAt (j * 5 + 4) (by have := HM.out; omega), show j * 5 + 4 = 5 * j + 4 by omega, recs_cell hj (by omega)]; rfl
  have HCL := Lib.hid hcl
  clear hcl
  go_wp2_with fail
  go_loopg [15, 16] (m + 1) (fun g n i wr => ∃ (j : Nat) (N : ByteArray), j + g = m + 1 ∧ i = .int .i64 (j : Int) ∧ n = .string N ∧ Hid (N = ⟨((rs.take j).flatMap Rec.raw).toArray⟩) ∧ wr = w4)
  case atStart => exact ⟨0, ⟨#[]⟩, by omega, rfl, rfl, Lib.hid rfl, rfl⟩
  case round =>
    obtain ⟨j, N, hj, rfl, rfl, HN, rfl⟩ := hrel
    have HJ := Lib.hid hj
    have hjm : j ≤ m + 1 := by omega
    have hNs : N.size ≤ 4000 := by
      have e : N.size = ((rs.take j).flatMap Rec.raw).length := by rw [HN.out]; simp [ByteArray.size]
      have := raws_le HW.out.1 j
      rw [e]
      simp at this ⊢
      omega
    clear hj
    by_cases hlt : j < m + 1
    · have hlt' : j < rs.length := by have := HM.out; omega
      obtain ⟨R, HRR⟩ : ∃ R : ByteArray, Hid (R = ⟨rs[j].raw.toArray⟩) := ⟨_, Lib.hid rfl⟩
      have hc := HCL.out j hlt'
      rw [← HRR.out] at hc
      have hRs : R.size ≤ 4000 := by
        have e : R.size = rs[j].raw.length := by rw [HRR.out]; simp [ByteArray.size]
        have := raw_le HW.out.1 (List.getElem_mem hlt')
        simp at this
        omega
      have HNX : Hid (N ++ R = ⟨((rs.take (j + 1)).flatMap Rec.raw).toArray⟩) := Lib.hid (by rw [HN.out, HRR.out, ba_append, raws_step hlt'])
      have hx9 := hx1
      go_wp2_with fail
      have hj := HJ.out
      go_roundg (gk - 1)
      case measure => omega
      case rel => exact ⟨j + 1, N ++ R, by omega, by simp, rfl, HNX, rfl⟩
    · obtain rfl : N = s := by
        rw [HN.out, List.take_of_length_le (by have := HM.out; omega), HW.out.1]
      have hc := HCL.out m (by have := HM.out; omega)
      rw [← HR9.out] at hc
      have hzz : ((m : Int) + 1 == 0) = false := by simp; omega
      have HF1 := Lib.hid hx2
      have HF2 := Lib.hid hq2
      have HF3 := Lib.hid hc
      have HF4 := Lib.hid hzz
      have HF5 := Lib.hid hR91
      have HF6 := Lib.hid hR92
      have HF7 := Lib.hid hxs
      have HF8 := Lib.hid hq1
      have HF9 := Lib.hid hx1
      have HF0 := Lib.hid h1
      have HFa := Lib.hid h4
      have HFb := Lib.hid hk
      clear hNs hx2 hq2 hc hzz hR91 hR92 hxs hq1 hx1 hst h2 h3 h4 hk hjm
      go_wp2_with fail
      refine wp_region_seq (S := fun _ => True) [(0, true), (1, true), (2, true), (3, true), (4, true), (5, true), (6, true), (7, true), (8, true), (9, true), (10, true), (11, true), (12, true), (13, true), (14, true), (15, true), (16, true), (17, true), (18, true), (19, true), (20, true), (21, true), (22, true), (23, true)] (by kernel_rfl) (by kernel_rfl) (by kernel_rfl) (by kernel_rfl) trivial ?_
      iterate 24 (refine seq_take _ rfl (fun K hK => ?_); go_simp; (first | refine hK _ ?_ | (refine ⟨undef, by rw [if_neg (by simp [undef])], ?_⟩; refine hK _ ?_)); clear hK K)
      refine seq_done ?_
      obtain ⟨w7, hw7⟩ : ∃ w7, w7 = wr.drew := ⟨_, rfl⟩
      rw [← hw7]
      have HB7 : Hid (Below w.heap.size w w7) := Lib.hid (by rw [hw7]; exact below_step HB4.out (below_drewN0 wr 1))
      have hc : w7.cell? ⟨g, m * 5 + 4, none⟩ = some (.string R9) := by rw [hw7]; exact HF3.out
      have hx2 := HF1.out
      have hq2 := HF2.out
      have hzz := HF4.out
      have hR91 := HF5.out
      have hR92 := HF6.out
      have hq1 := HF8.out
      have hx1 := HF9.out
      have h4 := HFa.out
      have hk := HFb.out
      have hm5 : ((m : Int) + 1 - 1) = m := by omega
      have hr9 : ¬ (R9.size : Int) < 2 := by omega
      clear hw7
      obtain ⟨c9, hcut⟩ := HCUT.out
      have HC9 := Lib.hid hcut
      clear hcut
      go_wp2_with fail
      refine (all_err w7 (by have := HF7.out; omega) HC9.out).mono ?_; rintro e w8 ⟨T8, y8, rfl, hb8⟩
      have HB8 := Lib.hid (below_step HB7.out hb8)
      clear hb8
      go_wp2_with fail
      refine (first4 w8).mono ?_; rintro e w9 ⟨rfl, hb9⟩
      have HB9 := Lib.hid (below_step HB8.out hb9)
      clear hb9
      go_wp2_with fail
      go_ret
      exact ⟨rfl, HB9.out⟩
end Go.Proofs.Ytbhppchdoalahaa
