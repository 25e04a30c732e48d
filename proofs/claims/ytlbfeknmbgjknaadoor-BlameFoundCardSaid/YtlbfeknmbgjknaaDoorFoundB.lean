/-
  hyglaw1.BlameFound: cases B.
-/
import Derived.Test.YtlbfeknmbgjknaaDoorFoundBase
namespace Go.Proofs.YtlbfeknmbgjknaaDoor
open Go.RowKit

set_option maxRecDepth 1000000 in
set_option maxHeartbeats 8000000 in
theorem found_sny (c d : Int) (ao : Option Addr) (cap : Nat) (l : List (Bool × Int)) (w : World) (hi : Wraps w ao l) (hn : l.length ≤ 200) (hcap : l.length ≤ cap) (hc : (c != 0) = true) (hcd : (c != d) = false) (hg : Glob w) (hx : firstOf true l.reverse = none) (nf : Int) (rf : List (Bool × Int)) (hy : firstOf false l.reverse = some (nf, rf)) :
    Calls Tryd.prog 4 #[.int .i64 c, .int .i64 d, .slice ao l.length cap] w fun e w' => e = .returned (.bool true) ∧ Below w.heap.size w w' := by
  have HG := Lib.hid hg
  have HI := Lib.hid hi
  have HX := Lib.hid hx
  have HY := Lib.hid hy
  have hd : decide (200 < (l.length : Int)) = false := by simp; omega
  have hc2 : (c == 0) = false := by simpa using hc
  have HCN := Lib.hid hc
  clear hg hi hc hx hy
  go_enter Tryd.func4, Tryd.ntmps4
  go_wp2_with fail
  refine (first1 w HG.out).mono ?_; rintro e w1 ⟨rfl, hb1⟩
  have HB1 := Lib.hid hb1
  clear hb1
  go_wp2_with fail
  refine (made_some c ao cap l w1 (HI.out.below HB1.out) hn HCN.out).mono ?_; rintro e w2 ⟨v, rfl, he, hb2⟩
  have HE := Lib.hid he
  have HB2 := Lib.hid (below_trans HB1.out hb2)
  have HG2 := Lib.hid (HG.out.below HB2.out)
  obtain ⟨T, y, rfl⟩ := isErr_iface he (code_root c)
  clear he hb2
  go_wp2_with fail
  refine (errIs_code _ _ _ c w2 HE.out (code_root c)).mono ?_; rintro e w3 ⟨rfl, rfl⟩
  rw [show isIt (codeV c) c = true by simp [isIt, codeV]]
  go_wp2_with fail
  have HB0 := Lib.hid (((Below.refl _ w2).alloc (Nat.le_refl _) (.cells #[.pointer none] 36)).alloc (by simp) (.cells #[.pointer none] 37))
  refine (errAs_where _ _ _ w2.heap.size w2 _ HE.out HB0.out (code_root c) (.pointer none) ((Below.heap_alloc _ _ _ (by simp)).trans (heap_alloc_new w2 _)) (HG2.out.below HB0.out)).mono ?_
  intro e w3 hp
  unfold AsWhere at hp
  rw [HX.out] at hp
  obtain ⟨rfl, hu1⟩ := hp
  have HU1 := Lib.hid hu1
  have HB3 := Lib.hid (below_oneUpd HB0.out hu1 (Nat.le_refl _) (by simp; omega))
  have HSZ : (w2.alloc (.cells #[.pointer none] 36)).heap.size = w2.heap.size + 1 := by simp
  have HT3 : Hid (w3.heap[w2.heap.size + 1]? = some (.cells #[.pointer none] 37 (0, 0))) := Lib.hid ((hu1.block (w2.heap.size + 1) (by simp) (by omega)).trans (HSZ ▸ heap_alloc_new (w2.alloc (.cells #[.pointer none] 36)) (.cells #[.pointer none] 37)))
  clear HSZ
  clear hu1
  go_wp2_with fail
  refine (errAs_field _ _ _ (w2.heap.size + 1) w2 w3 HE.out HB3.out (code_root c) (.pointer none) HT3.out (HG2.out.below HB3.out)).mono ?_
  intro e w4 hp
  unfold AsField at hp
  rw [HY.out] at hp
  obtain ⟨af, xf, rfl, hu2, haf, hhf, _⟩ := hp
  have HCF := Lib.hid (show w2.cell? ⟨af, 0, none⟩ = some (.int .i64 nf) by rw [cell_of_row w2 af 0 _ _ _ hhf]; rfl)
  have HAF := Lib.hid haf
  clear haf hhf
  have HF : Hid (FS w l.reverse (.iface T y) c w2.heap.size (.pointer none) (w2.heap.size + 1) (.pointer (some ⟨af, 0, none⟩)) 0 0 af nf w4) := Lib.hid (fs_two HE.out HG2.out HB2.out HU1.out hu2 (.inr rfl) (.inl ⟨HAF.out, HCF.out⟩))
  clear hu2
  go_wp2_with fail
  refine (place_any _ _ _ w4 HF.out.err (code_root c) HF.out.glob).mono ?_; rintro e w5 ⟨rfl, hb5⟩
  rw [show placeN l.reverse = 0 by unfold placeN; rw [HX.out], show placeB l.reverse = false by unfold placeB; rw [HX.out]; rfl]
  have hFS : FS w l.reverse (.iface T y) c w2.heap.size (.pointer none) (w2.heap.size + 1) (.pointer (some ⟨af, 0, none⟩)) 0 0 af nf w5.drew := fs_drew (HF.out.keep hb5)
  clear hb5
  go_wp2_with fail
  have hne : Nonempty { w' : World // FS w l.reverse (.iface T y) c w2.heap.size (.pointer none) (w2.heap.size + 1) (.pointer (some ⟨af, 0, none⟩)) 0 0 af nf w' } := ⟨⟨_, hFS⟩⟩
  have hcw : ∀ t : { w' : World // FS w l.reverse (.iface T y) c w2.heap.size (.pointer none) (w2.heap.size + 1) (.pointer (some ⟨af, 0, none⟩)) 0 0 af nf w' }, t.1.cell? ⟨w2.heap.size, 0, none⟩ = some (.pointer none) := fun t => t.2.cw
  have hcf : ∀ t : { w' : World // FS w l.reverse (.iface T y) c w2.heap.size (.pointer none) (w2.heap.size + 1) (.pointer (some ⟨af, 0, none⟩)) 0 0 af nf w' }, t.1.cell? ⟨w2.heap.size + 1, 0, none⟩ = some (.pointer (some ⟨af, 0, none⟩)) := fun t => t.2.cf
  have hcaf : ∀ t : { w' : World // FS w l.reverse (.iface T y) c w2.heap.size (.pointer none) (w2.heap.size + 1) (.pointer (some ⟨af, 0, none⟩)) 0 0 af nf w' }, t.1.cell? ⟨af, 0, none⟩ = some (.int .i64 nf) := fun t => (t.2.caf.resolve_right (by simp)).2
  have HFL := Lib.hid (fields_some HY.out)
  refine wp_region_seq (S := fun w' => FS w l.reverse (.iface T y) c w2.heap.size (.pointer none) (w2.heap.size + 1) (.pointer (some ⟨af, 0, none⟩)) 0 0 af nf w') [(0, true), (1, true), (2, true), (3, true), (4, true), (5, true), (6, true), (7, true), (8, true), (9, true), (10, true), (11, true), (12, true), (13, true), (14, true), (15, true), (16, true), (17, true), (18, true), (19, true), (20, true), (21, false), (22, true), (23, true), (24, true), (25, true), (26, true), (27, true), (28, true), (29, true), (30, true), (31, true), (32, true), (33, true), (34, true), (35, true), (36, true), (37, false), (38, true), (39, false), (40, true), (41, true), (42, true), (43, true)] (by kernel_rfl) (by kernel_rfl) (by kernel_rfl) (by kernel_rfl) hFS ?_
  iterate 21 (refine seq_take _ rfl (fun K hK => ?_); go_simp; (first | refine hK _ ?_ | (refine ⟨undef, by rw [if_neg (by simp [undef])], ?_⟩; refine hK _ ?_)); clear hK K)
  refine seq_come _ rfl (fun K hK => ?_); go_simp
  refine (fs_nums (by simp; omega) hFS).mono ?_; rintro e w6 ⟨ao6, cap6, rfl, hown6, hFS6⟩
  rw [HFL.out]
  go_simp; refine hK.out _ _ hFS6 ?_; clear hK K
  iterate 15 (refine seq_take _ rfl (fun K hK => ?_); go_simp; (first | refine hK _ ?_ | (refine ⟨undef, by rw [if_neg (by simp [undef])], ?_⟩; refine hK _ ?_)); clear hK K)
  refine seq_come _ rfl (fun K hK => ?_); go_simp
  refine (fs_nums (by simp; omega) hFS6).mono ?_; rintro e w7 ⟨ao7, cap7, rfl, hown7, hFS7⟩
  rw [HFL.out] at hown7 ⊢
  obtain ⟨g7, cc7, hg7, _, _, _, _⟩ := own_some hown7 (by simp)
  simp only [Value.slice.injEq] at hg7
  obtain ⟨rfl, _, rfl⟩ := hg7
  have h70 : w7.cell? ⟨g7, 0, none⟩ = some (.int .i64 nf) := by rw [hown7.cellAt 0 (by simp)]; rfl
  clear hown7
  go_simp; refine hK.out _ _ hFS7 ?_; clear hK K
  iterate 1 (refine seq_take _ rfl (fun K hK => ?_); go_simp; (first | refine hK _ ?_ | (refine ⟨undef, by rw [if_neg (by simp [undef])], ?_⟩; refine hK _ ?_)); clear hK K)
  refine seq_come _ rfl (fun K hK => ?_); go_simp
  refine hK.out _ _ hFS7 ?_; clear hK K
  iterate 4 (refine seq_take _ rfl (fun K hK => ?_); go_simp; (first | refine hK _ ?_ | (refine ⟨undef, by rw [if_neg (by simp [undef])], ?_⟩; refine hK _ ?_)); clear hK K)
  refine seq_done ?_
  have HE7 := Lib.hid hFS7.err
  have HB7 := Lib.hid hFS7.below
  go_wp2_with fail
  have hln : (l.length : Int) ≤ 200 := by omega
  go_loopg [7, 14] l.length (fun k v i wr => i = .int .i64 ((k : Int) - 1) ∧ isErr wr (l.take k).reverse v (codeV c) ∧ Below w.heap.size w wr ∧ k ≤ l.length)
  case atStart => exact ⟨rfl, by rw [List.take_length]; exact HE7.out, HB7.out, Nat.le_refl _⟩
  case round =>
    obtain ⟨rfl, he, hb, hk⟩ := hrel
    have HE := Lib.hid he
    have HB := Lib.hid hb
    clear he hb
    match gk, hk, HE with
    | 0, hk, HE =>
      have he0 : isErr wr [] u7 (codeV c) := by simpa using HE.out
      obtain rfl : u7 = codeV c := he0
      unfold codeV
      go_wp2_with fail
      refine (first1 wr (HG.out.below HB.out)).mono ?_; rintro e w8 ⟨rfl, hb8⟩
      go_wp2_with fail
      refine (code_any [] _ (codeV c) w8 rfl (code_root c) ((HG.out.below HB.out).below hb8)).mono ?_; rintro e w9 ⟨rfl, hb9⟩
      rw [show codeOf (codeV c) = c from rfl]
      go_wp2_with fail
      refine (unwrap_code c w9).mono ?_; rintro e w10 ⟨rfl, rfl⟩
      go_wp2_with fail
      go_ret
      exact ⟨rfl, below_trans HB.out (below_trans hb8 hb9)⟩
    | k + 1, hk, HE =>
      have hlt : k < l.length := by omega
      obtain ⟨x, HXX⟩ : ∃ x, Hid (x = l[k]) := ⟨_, Lib.hid rfl⟩
      have ht : (l.take (k + 1)).reverse = x :: (l.take k).reverse := by rw [List.take_succ_eq_append_getElem hlt, ← HXX.out]; simp
      have HE1 : Hid (isErr wr (x :: (l.take k).reverse) u7 (codeV c)) := Lib.hid (by rw [← ht]; exact HE.out)
      obtain ⟨bb, n⟩ := x
      obtain ⟨T0, y0, rfl⟩ := isErr_iface HE1.out (code_root c)
      clear ht
      have hkk : ((k : Int) + 1 - 1) = k := by omega
      go_wp2_with fail
      refine (unwrap_wrap bb n _ _ _ wr HE1.out).mono ?_; rintro e w8 ⟨v', rfl, hv', rfl⟩
      have HV := Lib.hid hv'
      obtain ⟨T1, y1, rfl⟩ := isErr_iface hv' (code_root c)
      clear hv'
      have hkc : k ≤ cap := by omega
      have htl := tells_true c (.iface T1 y1) ao cap (l.take k) wr ((HI.out.below HB.out).take k) (by simp; omega) HV.out (HG.out.below HB.out)
      rw [show (l.take k).length = k by simp; omega] at htl
      have HTL := Lib.hid htl
      clear htl
      go_wp2_with fail
      refine HTL.out.mono ?_; rintro e w9 ⟨rfl, hb9⟩
      go_wp2_with fail
      go_roundg k
      case measure => omega
      case rel => exact ⟨rfl, isErr_below hb9 HV.out, below_trans HB.out hb9, by omega⟩
set_option maxRecDepth 1000000 in
set_option maxHeartbeats 8000000 in
theorem found_snn (c d : Int) (ao : Option Addr) (cap : Nat) (l : List (Bool × Int)) (w : World) (hi : Wraps w ao l) (hn : l.length ≤ 200) (hcap : l.length ≤ cap) (hc : (c != 0) = true) (hcd : (c != d) = false) (hg : Glob w) (hx : firstOf true l.reverse = none) (hy : firstOf false l.reverse = none) :
    Calls Tryd.prog 4 #[.int .i64 c, .int .i64 d, .slice ao l.length cap] w fun e w' => e = .returned (.bool true) ∧ Below w.heap.size w w' := by
  have HG := Lib.hid hg
  have HI := Lib.hid hi
  have HX := Lib.hid hx
  have HY := Lib.hid hy
  have hd : decide (200 < (l.length : Int)) = false := by simp; omega
  have hc2 : (c == 0) = false := by simpa using hc
  have HCN := Lib.hid hc
  clear hg hi hc hx hy
  go_enter Tryd.func4, Tryd.ntmps4
  go_wp2_with fail
  refine (first1 w HG.out).mono ?_; rintro e w1 ⟨rfl, hb1⟩
  have HB1 := Lib.hid hb1
  clear hb1
  go_wp2_with fail
  refine (made_some c ao cap l w1 (HI.out.below HB1.out) hn HCN.out).mono ?_; rintro e w2 ⟨v, rfl, he, hb2⟩
  have HE := Lib.hid he
  have HB2 := Lib.hid (below_trans HB1.out hb2)
  have HG2 := Lib.hid (HG.out.below HB2.out)
  obtain ⟨T, y, rfl⟩ := isErr_iface he (code_root c)
  clear he hb2
  go_wp2_with fail
  refine (errIs_code _ _ _ c w2 HE.out (code_root c)).mono ?_; rintro e w3 ⟨rfl, rfl⟩
  rw [show isIt (codeV c) c = true by simp [isIt, codeV]]
  go_wp2_with fail
  have HB0 := Lib.hid (((Below.refl _ w2).alloc (Nat.le_refl _) (.cells #[.pointer none] 36)).alloc (by simp) (.cells #[.pointer none] 37))
  refine (errAs_where _ _ _ w2.heap.size w2 _ HE.out HB0.out (code_root c) (.pointer none) ((Below.heap_alloc _ _ _ (by simp)).trans (heap_alloc_new w2 _)) (HG2.out.below HB0.out)).mono ?_
  intro e w3 hp
  unfold AsWhere at hp
  rw [HX.out] at hp
  obtain ⟨rfl, hu1⟩ := hp
  have HU1 := Lib.hid hu1
  have HB3 := Lib.hid (below_oneUpd HB0.out hu1 (Nat.le_refl _) (by simp; omega))
  have HSZ : (w2.alloc (.cells #[.pointer none] 36)).heap.size = w2.heap.size + 1 := by simp
  have HT3 : Hid (w3.heap[w2.heap.size + 1]? = some (.cells #[.pointer none] 37 (0, 0))) := Lib.hid ((hu1.block (w2.heap.size + 1) (by simp) (by omega)).trans (HSZ ▸ heap_alloc_new (w2.alloc (.cells #[.pointer none] 36)) (.cells #[.pointer none] 37)))
  clear HSZ
  clear hu1
  go_wp2_with fail
  refine (errAs_field _ _ _ (w2.heap.size + 1) w2 w3 HE.out HB3.out (code_root c) (.pointer none) HT3.out (HG2.out.below HB3.out)).mono ?_
  intro e w4 hp
  unfold AsField at hp
  rw [HY.out] at hp
  obtain ⟨rfl, hu2⟩ := hp
  have HF : Hid (FS w l.reverse (.iface T y) c w2.heap.size (.pointer none) (w2.heap.size + 1) (.pointer none) 0 0 0 0 w4) := Lib.hid (fs_two HE.out HG2.out HB2.out HU1.out hu2 (.inr rfl) (.inr rfl))
  clear hu2
  go_wp2_with fail
  refine (place_any _ _ _ w4 HF.out.err (code_root c) HF.out.glob).mono ?_; rintro e w5 ⟨rfl, hb5⟩
  rw [show placeN l.reverse = 0 by unfold placeN; rw [HX.out], show placeB l.reverse = false by unfold placeB; rw [HX.out]; rfl]
  have hFS : FS w l.reverse (.iface T y) c w2.heap.size (.pointer none) (w2.heap.size + 1) (.pointer none) 0 0 0 0 w5.drew := fs_drew (HF.out.keep hb5)
  clear hb5
  go_wp2_with fail
  have hne : Nonempty { w' : World // FS w l.reverse (.iface T y) c w2.heap.size (.pointer none) (w2.heap.size + 1) (.pointer none) 0 0 0 0 w' } := ⟨⟨_, hFS⟩⟩
  have hcw : ∀ t : { w' : World // FS w l.reverse (.iface T y) c w2.heap.size (.pointer none) (w2.heap.size + 1) (.pointer none) 0 0 0 0 w' }, t.1.cell? ⟨w2.heap.size, 0, none⟩ = some (.pointer none) := fun t => t.2.cw
  have hcf : ∀ t : { w' : World // FS w l.reverse (.iface T y) c w2.heap.size (.pointer none) (w2.heap.size + 1) (.pointer none) 0 0 0 0 w' }, t.1.cell? ⟨w2.heap.size + 1, 0, none⟩ = some (.pointer none) := fun t => t.2.cf
  have HFL := Lib.hid (fields_none HY.out)
  refine wp_region_seq (S := fun w' => FS w l.reverse (.iface T y) c w2.heap.size (.pointer none) (w2.heap.size + 1) (.pointer none) 0 0 0 0 w') [(0, true), (1, true), (2, true), (3, true), (4, true), (5, true), (6, true), (7, true), (8, true), (9, true), (10, true), (11, true), (12, true), (13, true), (14, true), (15, true), (16, true), (17, true), (18, true), (19, true), (20, true), (21, false), (22, true), (23, true), (24, true), (25, true), (26, true), (27, true), (28, true), (29, true), (30, true), (31, true), (32, true), (33, true), (34, true), (35, true), (36, true), (37, false), (38, true), (39, true), (40, true), (41, true), (42, true), (43, true)] (by kernel_rfl) (by kernel_rfl) (by kernel_rfl) (by kernel_rfl) hFS ?_
  iterate 21 (refine seq_take _ rfl (fun K hK => ?_); go_simp; (first | refine hK _ ?_ | (refine ⟨undef, by rw [if_neg (by simp [undef])], ?_⟩; refine hK _ ?_)); clear hK K)
  refine seq_come _ rfl (fun K hK => ?_); go_simp
  refine (fs_nums (by simp; omega) hFS).mono ?_; rintro e w6 ⟨ao6, cap6, rfl, hown6, hFS6⟩
  rw [HFL.out]
  go_simp; refine hK.out _ _ hFS6 ?_; clear hK K
  iterate 15 (refine seq_take _ rfl (fun K hK => ?_); go_simp; (first | refine hK _ ?_ | (refine ⟨undef, by rw [if_neg (by simp [undef])], ?_⟩; refine hK _ ?_)); clear hK K)
  refine seq_come _ rfl (fun K hK => ?_); go_simp
  (first | refine hK.out _ _ hFS6 ?_ | (rw [if_neg (by simp [undef])]; refine hK.out _ _ hFS6 ?_)); clear hK K
  iterate 6 (refine seq_take _ rfl (fun K hK => ?_); go_simp; (first | refine hK _ ?_ | (refine ⟨undef, by rw [if_neg (by simp [undef])], ?_⟩; refine hK _ ?_)); clear hK K)
  refine seq_done ?_
  have HE7 := Lib.hid hFS6.err
  have HB7 := Lib.hid hFS6.below
  go_wp2_with fail
  have hln : (l.length : Int) ≤ 200 := by omega
  go_loopg [7, 14] l.length (fun k v i wr => i = .int .i64 ((k : Int) - 1) ∧ isErr wr (l.take k).reverse v (codeV c) ∧ Below w.heap.size w wr ∧ k ≤ l.length)
  case atStart => exact ⟨rfl, by rw [List.take_length]; exact HE7.out, HB7.out, Nat.le_refl _⟩
  case round =>
    obtain ⟨rfl, he, hb, hk⟩ := hrel
    have HE := Lib.hid he
    have HB := Lib.hid hb
    clear he hb
    match gk, hk, HE with
    | 0, hk, HE =>
      have he0 : isErr wr [] u7 (codeV c) := by simpa using HE.out
      obtain rfl : u7 = codeV c := he0
      unfold codeV
      go_wp2_with fail
      refine (first1 wr (HG.out.below HB.out)).mono ?_; rintro e w8 ⟨rfl, hb8⟩
      go_wp2_with fail
      refine (code_any [] _ (codeV c) w8 rfl (code_root c) ((HG.out.below HB.out).below hb8)).mono ?_; rintro e w9 ⟨rfl, hb9⟩
      rw [show codeOf (codeV c) = c from rfl]
      go_wp2_with fail
      refine (unwrap_code c w9).mono ?_; rintro e w10 ⟨rfl, rfl⟩
      go_wp2_with fail
      go_ret
      exact ⟨rfl, below_trans HB.out (below_trans hb8 hb9)⟩
    | k + 1, hk, HE =>
      have hlt : k < l.length := by omega
      obtain ⟨x, HXX⟩ : ∃ x, Hid (x = l[k]) := ⟨_, Lib.hid rfl⟩
      have ht : (l.take (k + 1)).reverse = x :: (l.take k).reverse := by rw [List.take_succ_eq_append_getElem hlt, ← HXX.out]; simp
      have HE1 : Hid (isErr wr (x :: (l.take k).reverse) u7 (codeV c)) := Lib.hid (by rw [← ht]; exact HE.out)
      obtain ⟨bb, n⟩ := x
      obtain ⟨T0, y0, rfl⟩ := isErr_iface HE1.out (code_root c)
      clear ht
      have hkk : ((k : Int) + 1 - 1) = k := by omega
      go_wp2_with fail
      refine (unwrap_wrap bb n _ _ _ wr HE1.out).mono ?_; rintro e w8 ⟨v', rfl, hv', rfl⟩
      have HV := Lib.hid hv'
      obtain ⟨T1, y1, rfl⟩ := isErr_iface hv' (code_root c)
      clear hv'
      have hkc : k ≤ cap := by omega
      have htl := tells_true c (.iface T1 y1) ao cap (l.take k) wr ((HI.out.below HB.out).take k) (by simp; omega) HV.out (HG.out.below HB.out)
      rw [show (l.take k).length = k by simp; omega] at htl
      have HTL := Lib.hid htl
      clear htl
      go_wp2_with fail
      refine HTL.out.mono ?_; rintro e w9 ⟨rfl, hb9⟩
      go_wp2_with fail
      go_roundg k
      case measure => omega
      case rel => exact ⟨rfl, isErr_below hb9 HV.out, below_trans HB.out hb9, by omega⟩
end Go.Proofs.YtlbfeknmbgjknaaDoor
