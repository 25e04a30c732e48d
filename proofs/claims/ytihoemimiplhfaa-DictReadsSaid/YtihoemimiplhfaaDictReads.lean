/-
  hyglaw23.DictReads: for any bytes the law returns true.
-/
import Derived.Test.YtihoemimiplhfaaDictRefD
namespace Go.Proofs.Ytihoemimiplhfaa
open Go.RowKit Go.Maps

theorem texts_lenr (ao bo : Option Addr) (cap bcap : Nat) (l : List (List UInt8)) (n m : Nat) (w : World) (hn : n = l.length) (hm : m = l.length) (ha : Strs w ao l) (hb : Strs w bo l) (hl : l.length ≤ 1000000000) :
    Calls Try.prog 15 #[.slice ao n cap, .slice bo m bcap] w fun e w' => e = .returned (.bool true) ∧ Below w.heap.size w w' := by
  subst hn; subst hm; exact texts_same ao bo cap bcap l w ha hb hl
theorem rrdict_ok (s : ByteArray) (w : World) (hs : s.size ≤ 4000) {D : List (List UInt8)} (h : Hid (GoodD s D)) :
    Calls Try.prog 14 #[.string s] w fun e w' => Below w.heap.size w w' ∧ ∃ p, e = .returned (.tuple #[.pointer (some ⟨p, 0, none⟩), .bool true]) ∧ Hid (DRefAt w' p D) :=
  (rrdict_any s w hs).mono fun e w' ⟨hb, h2⟩ => by
    refine ⟨hb, ?_⟩
    rcases h2 with ⟨D', hD', p, h3, h4⟩ | ⟨hn, _⟩
    · have := good_oneD (by omega) h.out hD'
      subst this
      exact ⟨p, h3, h4⟩
    · exact absurd h.out (hn D)
theorem rrdict_no (s : ByteArray) (w : World) (hs : s.size ≤ 4000) (h : Hid (∀ D, ¬ GoodD s D)) :
    Calls Try.prog 14 #[.string s] w fun e w' => Below w.heap.size w w' ∧ e = .returned (.tuple #[.pointer none, .bool false]) :=
  (rrdict_any s w hs).mono fun e w' ⟨hb, h2⟩ => by
    refine ⟨hb, ?_⟩
    rcases h2 with ⟨D', hD', _⟩ | ⟨_, h3⟩
    · exact absurd hD' (h.out D')
    · exact h3
set_option maxRecDepth 1000000 in
set_option maxHeartbeats 4000000 in
theorem dreads_long (s : ByteArray) (w : World) (hs : 4000 < s.size) (hm : s.size ≤ 9223372036854775807) :
    Calls Try.prog 5 #[.string s] w fun e w' => e = .returned (.bool true) ∧ Below w.heap.size w w' := by
  go_enter Try.func5, Try.ntmps5
  go_wp2_with fail
  refine (first23 w).mono ?_; rintro e w1 ⟨rfl, hb1⟩
  have HB1 := Lib.hid hb1
  clear hb1
  go_wp2_with fail
  refine (first23 w1).mono ?_; rintro e w2 ⟨rfl, hb2⟩
  have HB2 := Lib.hid (dstepd HB1.out hb2)
  clear hb2
  go_wp2_with fail
  go_ret
  exact ⟨rfl, HB2.out⟩
set_option maxRecDepth 1000000 in
set_option maxHeartbeats 4000000 in
theorem dreads_no (s : ByteArray) (w : World) (hs : s.size ≤ 4000) (hr : Hid (∀ D, ¬ GoodD s D)) :
    Calls Try.prog 5 #[.string s] w fun e w' => e = .returned (.bool true) ∧ Below w.heap.size w w' := by
  go_enter Try.func5, Try.ntmps5
  go_wp2_with fail
  refine (first23 w).mono ?_; rintro e w1 ⟨rfl, hb1⟩
  have HB1 := Lib.hid hb1
  clear hb1
  go_wp2_with fail
  refine (dread_no s _ (by omega) hr).mono ?_; rintro e w2 ⟨hb2, x, rfl⟩
  have HB2 := Lib.hid (dstepd HB1.out hb2)
  clear hb2
  go_wp2_with fail
  refine (rrdict_no s _ hs hr).mono ?_; rintro e w3 ⟨hb3, rfl⟩
  have HB3 := Lib.hid (dstepd HB2.out hb3)
  have HBd : Hid (Below w.heap.size w w3.drew) := Lib.hid (dstepd HB3.out (below_drew0 w3))
  clear hb3
  go_wp2_with fail
  refine wp_region_seq (S := fun _ => True) [(0, false), (1, true), (2, true), (3, true), (4, true), (5, true), (7, true), (8, true), (9, true), (10, true), (6, false), (11, false), (12, true), (13, true), (14, true)] (by kernel_rfl) (by kernel_rfl) (by kernel_rfl) (by kernel_rfl) trivial ?_
  refine seq_come _ rfl (fun K hK => ?_); go_simp
  refine (first23 _).mono ?_; rintro e w4 ⟨rfl, hb4⟩
  have HB4 := Lib.hid (dstepd HBd.out hb4)
  clear hb4
  go_simp; refine hK.out _ _ trivial ?_; clear hK K
  iterate 9 (refine seq_take _ rfl (fun K hK => ?_); go_simp; (first | refine hK _ ?_ | (refine ⟨undef, by rw [if_neg (by simp [undef])], ?_⟩; refine hK _ ?_)); clear hK K)
  refine seq_come _ rfl (fun K hK => ?_); go_simp
  (first | refine hK.out _ _ trivial ?_ | (rw [if_neg (by simp [undef])]; refine hK.out _ _ trivial ?_)); clear hK K
  refine seq_come _ rfl (fun K hK => ?_); go_simp
  (first | refine hK.out _ _ trivial ?_ | (rw [if_neg (by simp [undef])]; refine hK.out _ _ trivial ?_)); clear hK K
  iterate 3 (refine seq_take _ rfl (fun K hK => ?_); go_simp; (first | refine hK _ ?_ | (refine ⟨undef, by rw [if_neg (by simp [undef])], ?_⟩; refine hK _ ?_)); clear hK K)
  refine seq_done ?_
  go_wp2_with fail
  go_ret
  exact ⟨rfl, HB4.out⟩
set_option maxRecDepth 1000000 in
set_option maxHeartbeats 4000000 in
theorem dreads_ok (s : ByteArray) (w : World) (hs : s.size ≤ 4000) {D : List (List UInt8)} (hg : Hid (GoodD s D)) (hl : D.length ≤ 4000) :
    Calls Try.prog 5 #[.string s] w fun e w' => e = .returned (.bool true) ∧ Below w.heap.size w w' := by
  go_enter Try.func5, Try.ntmps5
  go_wp2_with fail
  refine (first23 w).mono ?_; rintro e w1 ⟨rfl, hb1⟩
  have HB1 := Lib.hid hb1
  clear hb1
  go_wp2_with fail
  refine (dread_ok s _ (by omega) hg).mono ?_; rintro e w2 ⟨hb2, b, hbb, rfl, HD2⟩
  have HB2 := Lib.hid (dstepd HB1.out hb2)
  clear hb2 hbb
  go_wp2_with fail
  refine (rrdict_ok s _ hs hg).mono ?_; rintro e w3 ⟨hb3, p, rfl, HR3⟩
  have HB3 := Lib.hid (dstepd HB2.out hb3)
  have HD3 := Lib.hid (dat_below HD2.out hb3)
  have HBd : Hid (Below w.heap.size w w3.drew) := Lib.hid (dstepd HB3.out (below_drew0 w3))
  have HDd : Hid (DAt w3.drew b D) := Lib.hid (dat_below HD3.out (below_drew0 w3))
  obtain ⟨v, hh1, hh2⟩ := HR3.out
  obtain ⟨ao, cap, rfl⟩ := own_slice hh2
  have HSd : Hid (Strs w3.drew ao D) := Lib.hid ((strs_of_own (cap := cap) (base := p + 1) (e := 9) hh2).below (below_drew0 w3))
  have hSd : w3.drew.cell? ⟨p, 0, none⟩ = some (.slice ao D.length cap) := row_cell (w := w3.drew) hh1 (j := 0) rfl
  have HPd : Hid (p < w3.drew.heap.size) := Lib.hid (row_lt (w := w3.drew) hh1)
  have hneS : Nonempty { w' : World // w'.cell? ⟨p, 0, none⟩ = some (.slice ao D.length cap) } := ⟨⟨_, hSd⟩⟩
  have hxS : ∀ t : { w' : World // w'.cell? ⟨p, 0, none⟩ = some (.slice ao D.length cap) }, t.1.cell? ⟨p, 0, none⟩ = some (.slice ao D.length cap) := fun t => t.2
  clear hb3 hh1 hh2
  go_wp2_with fail
  refine wp_region_seq (S := fun w' => w'.cell? ⟨p, 0, none⟩ = some (.slice ao D.length cap)) [(0, false), (1, true), (2, true), (3, true), (4, true), (5, true), (7, true), (8, true), (9, true), (10, true), (6, false), (11, false), (12, true), (13, true), (14, true)] (by kernel_rfl) (by kernel_rfl) (by kernel_rfl) (by kernel_rfl) hSd ?_
  refine seq_come _ rfl (fun K hK => ?_); go_simp
  refine (first23 _).mono ?_; rintro e w4 ⟨rfl, hb4⟩
  have HB4 := Lib.hid (dstepd HBd.out hb4)
  have HD4 := Lib.hid (dat_below HDd.out hb4)
  have HS4 := Lib.hid (HSd.out.below hb4)
  have hS4 : w4.cell? ⟨p, 0, none⟩ = some (.slice ao D.length cap) := (hb4.cell (p := ⟨p, 0, none⟩) HPd.out).trans hSd
  have HP4 : Hid (p < w4.heap.size) := Lib.hid (Nat.lt_of_lt_of_le HPd.out hb4.size)
  clear hb4
  go_simp; refine hK.out _ _ hS4 ?_; clear hK K
  iterate 9 (refine seq_take _ rfl (fun K hK => ?_); go_simp; (first | refine hK _ ?_ | (refine ⟨undef, by rw [if_neg (by simp [undef])], ?_⟩; refine hK _ ?_)); clear hK K)
  refine seq_come _ rfl (fun K hK => ?_); go_simp
  refine (dall_any b D _ HD4 (by omega)).mono ?_; rintro e w5 ⟨hb5, ao5, cap5, rfl, HS5⟩
  have HB5 := Lib.hid (dstepd HB4.out hb5)
  have HT5 := Lib.hid (HS4.out.below hb5)
  have hS5 : w5.cell? ⟨p, 0, none⟩ = some (.slice ao D.length cap) := (hb5.cell (p := ⟨p, 0, none⟩) HP4.out).trans hS4
  have HP5 : Hid (p < w5.heap.size) := Lib.hid (Nat.lt_of_lt_of_le HP4.out hb5.size)
  clear hb5
  go_simp; refine hK.out _ _ hS5 ?_; clear hK K
  refine seq_come _ rfl (fun K hK => ?_); go_simp
  refine (texts_lenr ao5 ao cap5 cap D _ _ _ rfl rfl HS5.out HT5.out (by omega)).mono ?_; rintro e w6 ⟨rfl, hb6⟩
  have HB6 := Lib.hid (dstepd HB5.out hb6)
  have hS6 : w6.cell? ⟨p, 0, none⟩ = some (.slice ao D.length cap) := (hb6.cell (p := ⟨p, 0, none⟩) HP5.out).trans hS5
  clear hb6
  go_simp; refine hK.out _ _ hS6 ?_; clear hK K
  iterate 3 (refine seq_take _ rfl (fun K hK => ?_); go_simp; (first | refine hK _ ?_ | (refine ⟨undef, by rw [if_neg (by simp [undef])], ?_⟩; refine hK _ ?_)); clear hK K)
  refine seq_done ?_
  go_wp2_with fail
  go_ret
  exact ⟨rfl, HB6.out⟩
theorem dreads_any (s : ByteArray) (w : World) (hm : s.size ≤ 9223372036854775807) :
    Calls Try.prog 5 #[.string s] w fun e w' => e = .returned (.bool true) ∧ Below w.heap.size w w' := by
  by_cases h1 : 4000 < s.size
  · exact dreads_long s w h1 hm
  by_cases h3 : ∃ D, GoodD s D
  · obtain ⟨D, hD⟩ := h3
    have hl := good_len hD
    have hl2 := encs_length D
    unfold encD at hl
    rw [List.length_append] at hl
    exact dreads_ok s w (by omega) (Lib.hid hD) (by omega)
  · exact dreads_no s w (by omega) (Lib.hid fun D hD => h3 ⟨D, hD⟩)
end Go.Proofs.Ytihoemimiplhfaa
