/-
  hyglaw4.WireReads: case hi.
-/
import Derived.Test.YtbhppchdoalahaaDoorWireRL
import Derived.Test.YtbhppchdoalahaaDoorFirst4
import Derived.Test.YtbhppchdoalahaaDoorOrd
import Derived.Test.YtbhppchdoalahaaDoorWireRB
import Derived.Deep.LoopGhost
namespace Go.Proofs.YtbhppchdoalahaaDoor
open Go.RowKit

set_option maxRecDepth 100000 in
set_option maxHeartbeats 8000000 in
theorem reads_hi_y (s : ByteArray) (p : Int) (d : Int) (w : World) (hs : s.size ≤ 4000) (hd : d ≤ 9223372036854775807) (hg : Glob w) (hn : (s.size : Int) < p) (rs : List Rec) (hw : wall s.data.toList d = .ok rs) :
    Calls Tryd.prog 4 #[.string s, .int .i64 p, .int .i64 d] w fun e w' => e = .returned (.bool true) ∧ Below w.heap.size w w' := by
  have HG := Lib.hid hg
  have HN := Lib.hid hn
  have HD := Lib.hid hd
  have HW := Lib.hid hw
  have hd0 : decide (4000 < (s.size : Int)) = false := by simp; omega
  have hd1 : decide ((0 : Int) ≤ p) = true := by simp; omega
  have hd2 : decide (p ≤ (s.size : Int)) = false := by simp; omega
  have hd3 : decide (p < 0) = false := by simp; omega
  have hd4 : decide ((s.size : Int) < p) = true := by simp; omega
  clear hg hn hd hw
  go_enter Tryd.func4, Tryd.ntmps4
  go_wp2_with fail
  refine (first4 w).mono ?_; rintro e w1 ⟨rfl, hb⟩
  have HB := Lib.hid hb
  clear hb
  go_wp2_with fail
  refine (next_outside s p d w1 (by have := HN.out; omega)).mono ?_; rintro e w2 ⟨v, rfl, hE⟩
  obtain ⟨T, y, rfl⟩ := hE.iface
  have HE := Lib.hid hE.isErr
  have HB := Lib.hid (below_step HB.out hE.2)
  clear hE
  unfold rec0
  go_wp2_with fail
  refine (rnext_outside s p d _ (by omega) (by have := HN.out; omega)).mono ?_; rintro e w3 ⟨rfl, hb⟩
  have HR := Lib.hid ((RecRow.new w2 #[.int .i64 0, .int .i64 0, .int .u64 0, .string ⟨#[]⟩, .string ⟨#[]⟩]).below hb)
  have HE := Lib.hid (isErr_below (below_step (below_new _ _) hb) HE.out)
  have HB := Lib.hid (below_step (below_step HB.out (below_new _ _)) hb)
  have hlt : w2.heap.size < w3.heap.size := row_lt HR.out.row
  clear hb
  unfold rec0
  go_wp2_with fail
  obtain ⟨w4, hw4⟩ : ∃ w4, w4 = w3.alloc (.cells #[.int .i64 0, .int .i64 0, .int .u64 0, .string ⟨#[]⟩, .string ⟨#[]⟩] 39) := ⟨_, rfl⟩
  rw [← hw4]
  have hI : WR w w2.heap.size w3.heap.size recN (.iface T y) p (some 9) w4.drew := by
    rw [hw4]
    exact WR.keep ⟨HR.out.below (below_new _ _), RRow.new _ _, HG.out.below (below_step HB.out (below_new _ _)), below_step HB.out (below_new _ _), isErr_below (below_new _ _) HE.out⟩ (wr_drew _)
  clear hw4
  have hne : Nonempty { w' : World // WR w w2.heap.size w3.heap.size recN (.iface T y) p (some 9) w' } := ⟨⟨_, hI⟩⟩
  have ha0 : ∀ t : { w' : World // WR w w2.heap.size w3.heap.size recN (.iface T y) p (some 9) w' }, t.1.cell? ⟨w2.heap.size, 0, none⟩ = some (.int .i64 0) := fun t => row_cell t.2.row.row (j := 0) rfl
  have ha1 : ∀ t : { w' : World // WR w w2.heap.size w3.heap.size recN (.iface T y) p (some 9) w' }, t.1.cell? ⟨w2.heap.size, 1, none⟩ = some (.int .i64 0) := fun t => row_cell t.2.row.row (j := 1) rfl
  have ha2 : ∀ t : { w' : World // WR w w2.heap.size w3.heap.size recN (.iface T y) p (some 9) w' }, t.1.cell? ⟨w2.heap.size, 2, none⟩ = some (.int .u64 0) := fun t => row_cell t.2.row.row (j := 2) rfl
  have ha3 : ∀ t : { w' : World // WR w w2.heap.size w3.heap.size recN (.iface T y) p (some 9) w' }, t.1.cell? ⟨w2.heap.size, 3, none⟩ = some (.string ⟨#[]⟩) := fun t => row_cell t.2.row.row (j := 3) rfl
  have ha4 : ∀ t : { w' : World // WR w w2.heap.size w3.heap.size recN (.iface T y) p (some 9) w' }, t.1.cell? ⟨w2.heap.size, 4, none⟩ = some (.string ⟨#[]⟩) := fun t => row_cell t.2.row.row (j := 4) rfl
  have hb0 : ∀ t : { w' : World // WR w w2.heap.size w3.heap.size recN (.iface T y) p (some 9) w' }, t.1.cell? ⟨w3.heap.size, 0, none⟩ = some (.int .i64 0) := fun t => row_cell t.2.rrow.row (j := 0) rfl
  have hb1 : ∀ t : { w' : World // WR w w2.heap.size w3.heap.size recN (.iface T y) p (some 9) w' }, t.1.cell? ⟨w3.heap.size, 1, none⟩ = some (.int .i64 0) := fun t => row_cell t.2.rrow.row (j := 1) rfl
  have hb2 : ∀ t : { w' : World // WR w w2.heap.size w3.heap.size recN (.iface T y) p (some 9) w' }, t.1.cell? ⟨w3.heap.size, 2, none⟩ = some (.int .u64 0) := fun t => row_cell t.2.rrow.row (j := 2) rfl
  have hb3 : ∀ t : { w' : World // WR w w2.heap.size w3.heap.size recN (.iface T y) p (some 9) w' }, t.1.cell? ⟨w3.heap.size, 3, none⟩ = some (.string ⟨#[]⟩) := fun t => row_cell t.2.rrow.row (j := 3) rfl
  have hb4 : ∀ t : { w' : World // WR w w2.heap.size w3.heap.size recN (.iface T y) p (some 9) w' }, t.1.cell? ⟨w3.heap.size, 4, none⟩ = some (.string ⟨#[]⟩) := fun t => row_cell t.2.rrow.row (j := 4) rfl
  refine wp_region_seq (S := fun w' => WR w w2.heap.size w3.heap.size recN (.iface T y) p (some 9) w') [(0, true), (1, true), (2, true), (3, true), (4, true), (5, true), (7, true), (6, false), (8, true), (9, true), (10, true), (11, true), (12, true), (13, true), (14, true), (15, true), (16, true), (17, true), (18, true), (19, true), (20, true), (21, true), (22, true), (23, true), (24, true), (25, true), (26, true), (27, true), (28, true), (29, true), (30, true), (31, true), (32, false), (33, true), (34, true), (35, true), (36, true), (37, true), (38, true), (39, true), (40, true), (41, true), (42, true), (43, true), (44, true), (45, true), (46, true), (47, false), (48, true), (49, true), (50, true)] (by kernel_rfl) (by kernel_rfl) (by kernel_rfl) (by kernel_rfl) hI ?_
  iterate 7 (refine seq_take _ rfl (fun K hK => ?_); go_simp; (first | refine hK _ ?_ | (refine ⟨undef, by rw [if_neg (by simp [undef])], ?_⟩; refine hK _ ?_)); clear hK K)
  refine seq_come _ rfl (fun K hK => ?_); go_simp
  refine (plain_any recN _).mono ?_; rintro e w5 ⟨rfl, hb⟩
  have hI5 := hI.keep hb
  clear hb
  unfold recV recN
  go_simp; refine hK.out _ _ hI5 ?_; clear hK K
  iterate 24 (refine seq_take _ rfl (fun K hK => ?_); go_simp; (first | refine hK _ ?_ | (refine ⟨undef, by rw [if_neg (by simp [undef])], ?_⟩; refine hK _ ?_)); clear hK K)
  refine seq_come _ rfl (fun K hK => ?_); go_simp
  (first | refine hK.out _ _ hI5 ?_ | (rw [if_neg (by simp [undef])]; refine hK.out _ _ hI5 ?_)); clear hK K
  iterate 14 (refine seq_take _ rfl (fun K hK => ?_); go_simp; (first | refine hK _ ?_ | (refine ⟨undef, by rw [if_neg (by simp [undef])], ?_⟩; refine hK _ ?_)); clear hK K)
  refine seq_come _ rfl (fun K hK => ?_); go_simp
  refine (code_any _ _ _ _ hI5.err (root_code _) hI5.glob).mono ?_; rintro e w6 ⟨rfl, hb⟩
  rw [show codeOf (codeV ((9 : Nat) : Int)) = 9 from rfl]
  have hI6 := hI5.keep hb
  clear hb
  go_simp; refine hK.out _ _ hI6 ?_; clear hK K
  iterate 3 (refine seq_take _ rfl (fun K hK => ?_); go_simp; (first | refine hK _ ?_ | (refine ⟨undef, by rw [if_neg (by simp [undef])], ?_⟩; refine hK _ ?_)); clear hK K)
  refine seq_done ?_
  have HB := Lib.hid hI6.below
  have HGG := Lib.hid hI6.glob
  clear ha0 ha1 ha2 ha3 ha4 hb0 hb1 hb2 hb3 hb4
  go_wp2_with fail
  refine (all_any s d _ (by omega)).mono ?_; intro e w7 hpost
  unfold AllPost at hpost
  rw [HW.out] at hpost
  obtain ⟨u7, rfl, ho, hl7, hb⟩ := hpost
  have HO := Lib.hid (own_base ho HB.out.size)
  have HB := Lib.hid (below_step HB.out hb)
  clear hb ho
  obtain ⟨ao7, cap7, rfl⟩ := own_slice HO.out
  go_wp2_with fail
  refine (rall_any s d w7 (by omega) HD.out).mono ?_; intro e w8 hpost
  unfold RAllPost at hpost
  rw [HW.out] at hpost
  obtain ⟨u8, rfl, ho, hb⟩ := hpost
  have HO8 := Lib.hid (own_base ho HB.out.size)
  have HO := Lib.hid (own_below HO.out hb)
  have HB := Lib.hid (below_step HB.out hb)
  clear hb ho
  obtain ⟨ao8, cap8, rfl⟩ := own_slice HO8.out
  have HWL := Lib.hid (WL.mk HO.out HO8.out HB.out)
  go_wp2_with fail
  go_loopg [17] rs.length (fun g i wr => ∃ k : Nat, k + g = rs.length ∧ i = .int .i64 (k : Int) ∧ WL w w.heap.size (.slice ao7 rs.length cap7) (.slice ao8 rs.length cap8) rs wr)
  case atStart => exact ⟨0, by omega, rfl, HWL.out⟩
  case round =>
    obtain ⟨k, hk, rfl, hL⟩ := hrel
    have HK := Lib.hid hk
    have HL9 := Lib.hid hL
    have hkk : k ≤ rs.length := by omega
    clear hk hL
    by_cases hlt : k < rs.length
    · obtain ⟨g, cg, hv, _, hg2, _, _⟩ := own_some HL9.out.own (by omega)
      simp only [Value.slice.injEq] at hv
      obtain ⟨rfl, _, rfl⟩ := hv
      obtain ⟨g8, cg8, hv, _, hg8, _, _⟩ := own_some HL9.out.rown (by omega)
      simp only [Value.slice.injEq] at hv
      obtain ⟨rfl, _, rfl⟩ := hv
      have hI : WL w w.heap.size (.slice (some ⟨g, 0, none⟩) rs.length cap7) (.slice (some ⟨g8, 0, none⟩) rs.length cap8) rs wr.drew := HL9.out.keep (wr_drew _)
      have hne : Nonempty { w' : World // WL w w.heap.size (.slice (some ⟨g, 0, none⟩) rs.length cap7) (.slice (some ⟨g8, 0, none⟩) rs.length cap8) rs w' } := ⟨⟨_, hI⟩⟩
      obtain ⟨r9, HR9⟩ : ∃ r9, Hid (r9 = rs[k]) := ⟨_, Lib.hid rfl⟩
      have ha0 : ∀ t : { w' : World // WL w w.heap.size (.slice (some ⟨g, 0, none⟩) rs.length cap7) (.slice (some ⟨g8, 0, none⟩) rs.length cap8) rs w' }, t.1.cell? ⟨g, k * 5, none⟩ = some (.int .i64 (r9.num : Int)) := fun t => by rw [t.2.own.cellAt (k * 5) (by omega), show k * 5 = 5 * k + 0 by omega, recs_cell hlt (by omega), ← HR9.out]; rfl
      have ha1 : ∀ t : { w' : World // WL w w.heap.size (.slice (some ⟨g, 0, none⟩) rs.length cap7) (.slice (some ⟨g8, 0, none⟩) rs.length cap8) rs w' }, t.1.cell? ⟨g, k * 5 + 1, none⟩ = some (.int .i64 (r9.ty : Int)) := fun t => by rw [t.2.own.cellAt (k * 5 + 1) (by omega), show k * 5 + 1 = 5 * k + 1 by omega, recs_cell hlt (by omega), ← HR9.out]; rfl
      have ha2 : ∀ t : { w' : World // WL w w.heap.size (.slice (some ⟨g, 0, none⟩) rs.length cap7) (.slice (some ⟨g8, 0, none⟩) rs.length cap8) rs w' }, t.1.cell? ⟨g, k * 5 + 2, none⟩ = some (.int .u64 (r9.n : Int)) := fun t => by rw [t.2.own.cellAt (k * 5 + 2) (by omega), show k * 5 + 2 = 5 * k + 2 by omega, recs_cell hlt (by omega), ← HR9.out]; rfl
      have ha3 : ∀ t : { w' : World // WL w w.heap.size (.slice (some ⟨g, 0, none⟩) rs.length cap7) (.slice (some ⟨g8, 0, none⟩) rs.length cap8) rs w' }, t.1.cell? ⟨g, k * 5 + 3, none⟩ = some (.string ⟨r9.s.toArray⟩) := fun t => by rw [t.2.own.cellAt (k * 5 + 3) (by omega), show k * 5 + 3 = 5 * k + 3 by omega, recs_cell hlt (by omega), ← HR9.out]; rfl
      have ha4 : ∀ t : { w' : World // WL w w.heap.size (.slice (some ⟨g, 0, none⟩) rs.length cap7) (.slice (some ⟨g8, 0, none⟩) rs.length cap8) rs w' }, t.1.cell? ⟨g, k * 5 + 4, none⟩ = some (.string ⟨r9.raw.toArray⟩) := fun t => by rw [t.2.own.cellAt (k * 5 + 4) (by omega), show k * 5 + 4 = 5 * k + 4 by omega, recs_cell hlt (by omega), ← HR9.out]; rfl
      have hb0 : ∀ t : { w' : World // WL w w.heap.size (.slice (some ⟨g, 0, none⟩) rs.length cap7) (.slice (some ⟨g8, 0, none⟩) rs.length cap8) rs w' }, t.1.cell? ⟨g8, k * 5, none⟩ = some (.int .i64 (r9.num : Int)) := fun t => by rw [t.2.rown.cellAt (k * 5) (by omega), show k * 5 = 5 * k + 0 by omega, recs_cell hlt (by omega), ← HR9.out]; rfl
      have hb1 : ∀ t : { w' : World // WL w w.heap.size (.slice (some ⟨g, 0, none⟩) rs.length cap7) (.slice (some ⟨g8, 0, none⟩) rs.length cap8) rs w' }, t.1.cell? ⟨g8, k * 5 + 1, none⟩ = some (.int .i64 (r9.ty : Int)) := fun t => by rw [t.2.rown.cellAt (k * 5 + 1) (by omega), show k * 5 + 1 = 5 * k + 1 by omega, recs_cell hlt (by omega), ← HR9.out]; rfl
      have hb2 : ∀ t : { w' : World // WL w w.heap.size (.slice (some ⟨g, 0, none⟩) rs.length cap7) (.slice (some ⟨g8, 0, none⟩) rs.length cap8) rs w' }, t.1.cell? ⟨g8, k * 5 + 2, none⟩ = some (.int .u64 (r9.n : Int)) := fun t => by rw [t.2.rown.cellAt (k * 5 + 2) (by omega), show k * 5 + 2 = 5 * k + 2 by omega, recs_cell hlt (by omega), ← HR9.out]; rfl
      have hb3 : ∀ t : { w' : World // WL w w.heap.size (.slice (some ⟨g, 0, none⟩) rs.length cap7) (.slice (some ⟨g8, 0, none⟩) rs.length cap8) rs w' }, t.1.cell? ⟨g8, k * 5 + 3, none⟩ = some (.string ⟨r9.s.toArray⟩) := fun t => by rw [t.2.rown.cellAt (k * 5 + 3) (by omega), show k * 5 + 3 = 5 * k + 3 by omega, recs_cell hlt (by omega), ← HR9.out]; rfl
      have hb4 : ∀ t : { w' : World // WL w w.heap.size (.slice (some ⟨g, 0, none⟩) rs.length cap7) (.slice (some ⟨g8, 0, none⟩) rs.length cap8) rs w' }, t.1.cell? ⟨g8, k * 5 + 4, none⟩ = some (.string ⟨r9.raw.toArray⟩) := fun t => by rw [t.2.rown.cellAt (k * 5 + 4) (by omega), show k * 5 + 4 = 5 * k + 4 by omega, recs_cell hlt (by omega), ← HR9.out]; rfl
      go_wp2_with fail
      refine wp_region_seq (S := fun w' => WL w w.heap.size (.slice (some ⟨g, 0, none⟩) rs.length cap7) (.slice (some ⟨g8, 0, none⟩) rs.length cap8) rs w') [(0, true), (1, true), (2, true), (3, true), (5, true), (6, true), (7, true), (8, true), (4, false), (9, true)] (by kernel_rfl) (by kernel_rfl) (by kernel_rfl) (by kernel_rfl) hI ?_
      iterate 8 (refine seq_take _ rfl (fun K hK => ?_); go_simp; (first | refine hK _ ?_ | (refine ⟨undef, by rw [if_neg (by simp [undef])], ?_⟩; refine hK _ ?_)); clear hK K)
      refine seq_come _ rfl (fun K hK => ?_); go_simp
      refine (plain_any r9 _).mono ?_; rintro e w9 ⟨rfl, hb⟩
      have hI9 := hI.keep hb
      clear hb
      unfold recV
      go_simp; refine hK.out _ _ hI9 ?_; clear hK K
      iterate 1 (refine seq_take _ rfl (fun K hK => ?_); go_simp; (first | refine hK _ ?_ | (refine ⟨undef, by rw [if_neg (by simp [undef])], ?_⟩; refine hK _ ?_)); clear hK K)
      refine seq_done ?_
      have HL10 := Lib.hid hI9
      clear ha0 ha1 ha2 ha3 ha4 hb0 hb1 hb2 hb3 hb4
      go_wp2_with fail
      have hk := HK.out
      go_roundg (gk - 1)
      case measure => omega
      case rel => exact ⟨k + 1, by omega, by simp, HL10.out⟩
    · have HBB := Lib.hid HL9.out.below
      go_wp2_with fail
      refine (first4 wr).mono ?_; rintro e w9 ⟨rfl, hb⟩
      have HB9 := Lib.hid (below_step HBB.out hb)
      clear hb
      go_wp2_with fail
      go_ret
      exact ⟨rfl, HB9.out⟩
set_option maxRecDepth 100000 in
set_option maxHeartbeats 8000000 in
theorem reads_hi_n (s : ByteArray) (p : Int) (d : Int) (w : World) (hs : s.size ≤ 4000) (hd : d ≤ 9223372036854775807) (hg : Glob w) (hn : (s.size : Int) < p) (cc : Nat) (hw : wall s.data.toList d = .error cc) :
    Calls Tryd.prog 4 #[.string s, .int .i64 p, .int .i64 d] w fun e w' => e = .returned (.bool true) ∧ Below w.heap.size w w' := by
  have HG := Lib.hid hg
  have HN := Lib.hid hn
  have HD := Lib.hid hd
  have HW := Lib.hid hw
  have hd0 : decide (4000 < (s.size : Int)) = false := by simp; omega
  have hd1 : decide ((0 : Int) ≤ p) = true := by simp; omega
  have hd2 : decide (p ≤ (s.size : Int)) = false := by simp; omega
  have hd3 : decide (p < 0) = false := by simp; omega
  have hd4 : decide ((s.size : Int) < p) = true := by simp; omega
  clear hg hn hd hw
  go_enter Tryd.func4, Tryd.ntmps4
  go_wp2_with fail
  refine (first4 w).mono ?_; rintro e w1 ⟨rfl, hb⟩
  have HB := Lib.hid hb
  clear hb
  go_wp2_with fail
  refine (next_outside s p d w1 (by have := HN.out; omega)).mono ?_; rintro e w2 ⟨v, rfl, hE⟩
  obtain ⟨T, y, rfl⟩ := hE.iface
  have HE := Lib.hid hE.isErr
  have HB := Lib.hid (below_step HB.out hE.2)
  clear hE
  unfold rec0
  go_wp2_with fail
  refine (rnext_outside s p d _ (by omega) (by have := HN.out; omega)).mono ?_; rintro e w3 ⟨rfl, hb⟩
  have HR := Lib.hid ((RecRow.new w2 #[.int .i64 0, .int .i64 0, .int .u64 0, .string ⟨#[]⟩, .string ⟨#[]⟩]).below hb)
  have HE := Lib.hid (isErr_below (below_step (below_new _ _) hb) HE.out)
  have HB := Lib.hid (below_step (below_step HB.out (below_new _ _)) hb)
  have hlt : w2.heap.size < w3.heap.size := row_lt HR.out.row
  clear hb
  unfold rec0
  go_wp2_with fail
  obtain ⟨w4, hw4⟩ : ∃ w4, w4 = w3.alloc (.cells #[.int .i64 0, .int .i64 0, .int .u64 0, .string ⟨#[]⟩, .string ⟨#[]⟩] 39) := ⟨_, rfl⟩
  rw [← hw4]
  have hI : WR w w2.heap.size w3.heap.size recN (.iface T y) p (some 9) w4.drew := by
    rw [hw4]
    exact WR.keep ⟨HR.out.below (below_new _ _), RRow.new _ _, HG.out.below (below_step HB.out (below_new _ _)), below_step HB.out (below_new _ _), isErr_below (below_new _ _) HE.out⟩ (wr_drew _)
  clear hw4
  have hne : Nonempty { w' : World // WR w w2.heap.size w3.heap.size recN (.iface T y) p (some 9) w' } := ⟨⟨_, hI⟩⟩
  have ha0 : ∀ t : { w' : World // WR w w2.heap.size w3.heap.size recN (.iface T y) p (some 9) w' }, t.1.cell? ⟨w2.heap.size, 0, none⟩ = some (.int .i64 0) := fun t => row_cell t.2.row.row (j := 0) rfl
  have ha1 : ∀ t : { w' : World // WR w w2.heap.size w3.heap.size recN (.iface T y) p (some 9) w' }, t.1.cell? ⟨w2.heap.size, 1, none⟩ = some (.int .i64 0) := fun t => row_cell t.2.row.row (j := 1) rfl
  have ha2 : ∀ t : { w' : World // WR w w2.heap.size w3.heap.size recN (.iface T y) p (some 9) w' }, t.1.cell? ⟨w2.heap.size, 2, none⟩ = some (.int .u64 0) := fun t => row_cell t.2.row.row (j := 2) rfl
  have ha3 : ∀ t : { w' : World // WR w w2.heap.size w3.heap.size recN (.iface T y) p (some 9) w' }, t.1.cell? ⟨w2.heap.size, 3, none⟩ = some (.string ⟨#[]⟩) := fun t => row_cell t.2.row.row (j := 3) rfl
  have ha4 : ∀ t : { w' : World // WR w w2.heap.size w3.heap.size recN (.iface T y) p (some 9) w' }, t.1.cell? ⟨w2.heap.size, 4, none⟩ = some (.string ⟨#[]⟩) := fun t => row_cell t.2.row.row (j := 4) rfl
  have hb0 : ∀ t : { w' : World // WR w w2.heap.size w3.heap.size recN (.iface T y) p (some 9) w' }, t.1.cell? ⟨w3.heap.size, 0, none⟩ = some (.int .i64 0) := fun t => row_cell t.2.rrow.row (j := 0) rfl
  have hb1 : ∀ t : { w' : World // WR w w2.heap.size w3.heap.size recN (.iface T y) p (some 9) w' }, t.1.cell? ⟨w3.heap.size, 1, none⟩ = some (.int .i64 0) := fun t => row_cell t.2.rrow.row (j := 1) rfl
  have hb2 : ∀ t : { w' : World // WR w w2.heap.size w3.heap.size recN (.iface T y) p (some 9) w' }, t.1.cell? ⟨w3.heap.size, 2, none⟩ = some (.int .u64 0) := fun t => row_cell t.2.rrow.row (j := 2) rfl
  have hb3 : ∀ t : { w' : World // WR w w2.heap.size w3.heap.size recN (.iface T y) p (some 9) w' }, t.1.cell? ⟨w3.heap.size, 3, none⟩ = some (.string ⟨#[]⟩) := fun t => row_cell t.2.rrow.row (j := 3) rfl
  have hb4 : ∀ t : { w' : World // WR w w2.heap.size w3.heap.size recN (.iface T y) p (some 9) w' }, t.1.cell? ⟨w3.heap.size, 4, none⟩ = some (.string ⟨#[]⟩) := fun t => row_cell t.2.rrow.row (j := 4) rfl
  refine wp_region_seq (S := fun w' => WR w w2.heap.size w3.heap.size recN (.iface T y) p (some 9) w') [(0, true), (1, true), (2, true), (3, true), (4, true), (5, true), (7, true), (6, false), (8, true), (9, true), (10, true), (11, true), (12, true), (13, true), (14, true), (15, true), (16, true), (17, true), (18, true), (19, true), (20, true), (21, true), (22, true), (23, true), (24, true), (25, true), (26, true), (27, true), (28, true), (29, true), (30, true), (31, true), (32, false), (33, true), (34, true), (35, true), (36, true), (37, true), (38, true), (39, true), (40, true), (41, true), (42, true), (43, true), (44, true), (45, true), (46, true), (47, false), (48, true), (49, true), (50, true)] (by kernel_rfl) (by kernel_rfl) (by kernel_rfl) (by kernel_rfl) hI ?_
  iterate 7 (refine seq_take _ rfl (fun K hK => ?_); go_simp; (first | refine hK _ ?_ | (refine ⟨undef, by rw [if_neg (by simp [undef])], ?_⟩; refine hK _ ?_)); clear hK K)
  refine seq_come _ rfl (fun K hK => ?_); go_simp
  refine (plain_any recN _).mono ?_; rintro e w5 ⟨rfl, hb⟩
  have hI5 := hI.keep hb
  clear hb
  unfold recV recN
  go_simp; refine hK.out _ _ hI5 ?_; clear hK K
  iterate 24 (refine seq_take _ rfl (fun K hK => ?_); go_simp; (first | refine hK _ ?_ | (refine ⟨undef, by rw [if_neg (by simp [undef])], ?_⟩; refine hK _ ?_)); clear hK K)
  refine seq_come _ rfl (fun K hK => ?_); go_simp
  (first | refine hK.out _ _ hI5 ?_ | (rw [if_neg (by simp [undef])]; refine hK.out _ _ hI5 ?_)); clear hK K
  iterate 14 (refine seq_take _ rfl (fun K hK => ?_); go_simp; (first | refine hK _ ?_ | (refine ⟨undef, by rw [if_neg (by simp [undef])], ?_⟩; refine hK _ ?_)); clear hK K)
  refine seq_come _ rfl (fun K hK => ?_); go_simp
  refine (code_any _ _ _ _ hI5.err (root_code _) hI5.glob).mono ?_; rintro e w6 ⟨rfl, hb⟩
  rw [show codeOf (codeV ((9 : Nat) : Int)) = 9 from rfl]
  have hI6 := hI5.keep hb
  clear hb
  go_simp; refine hK.out _ _ hI6 ?_; clear hK K
  iterate 3 (refine seq_take _ rfl (fun K hK => ?_); go_simp; (first | refine hK _ ?_ | (refine ⟨undef, by rw [if_neg (by simp [undef])], ?_⟩; refine hK _ ?_)); clear hK K)
  refine seq_done ?_
  have HB := Lib.hid hI6.below
  have HGG := Lib.hid hI6.glob
  clear ha0 ha1 ha2 ha3 ha4 hb0 hb1 hb2 hb3 hb4
  go_wp2_with fail
  refine (all_any s d _ (by omega)).mono ?_; intro e w7 hpost
  unfold AllPost at hpost
  rw [HW.out] at hpost
  obtain ⟨v7, rfl, q7, hq7, hE⟩ := hpost
  obtain ⟨T7, y7, rfl⟩ := hE.iface
  have HE7 := Lib.hid hE.isErr
  have HGG := Lib.hid (HGG.out.below hE.2)
  have HB := Lib.hid (below_step HB.out hE.2)
  clear hE
  go_wp2_with fail
  refine (rall_any s d w7 (by omega) HD.out).mono ?_; intro e w8 hpost
  unfold RAllPost at hpost
  rw [HW.out] at hpost
  obtain ⟨rfl, hb⟩ := hpost
  have HE8 := Lib.hid (isErr_below hb HE7.out)
  have HGG := Lib.hid (HGG.out.below hb)
  have HB := Lib.hid (below_step HB.out hb)
  clear hb
  go_wp2_with fail
  refine (wrong_any q7 s.size cc _ w8 HE8.out HGG.out hq7 (wal_code _ HW.out)).mono ?_; rintro e w9 ⟨rfl, hb⟩
  have HB := Lib.hid (below_step HB.out hb)
  clear hb
  go_wp2_with fail
  refine wp_loop_rounds 1 ?_
  rw [rounds_succ]
  go_wp2_with fail
  refine (first4 w9).mono ?_; rintro e w10 ⟨rfl, hb⟩
  have HB10 := Lib.hid (below_step HB.out hb)
  clear hb
  go_wp2_with fail
  go_ret
  exact ⟨rfl, HB10.out⟩
end Go.Proofs.YtbhppchdoalahaaDoor
