/-
  hyglaw23.DictOne: for any bytes the law returns true.
-/
import Derived.Test.YtihoemimiplhfaaDictLaw
namespace Go.Proofs.Ytihoemimiplhfaa
open Go.RowKit Go.Maps

set_option maxRecDepth 1000000 in
set_option maxHeartbeats 4000000 in
theorem done_long (s : ByteArray) (w : World) (hs : 4000 < s.size) (hm : s.size ≤ 9223372036854775807) :
    Calls Try.prog 7 #[.string s] w fun e w' => e = .returned (.bool true) ∧ Below w.heap.size w w' := by
  go_enter Try.func7, Try.ntmps7
  go_wp2_with fail
  refine (first23 w).mono ?_; rintro e w1 ⟨rfl, hb1⟩
  have HB1 := Lib.hid hb1
  clear hb1
  go_wp2_with fail
  refine (first23 w1).mono ?_; rintro e w2 ⟨rfl, hb2⟩
  have HB2 := Lib.hid (dstepd HB1.out hb2)
  clear hb2
  go_wp2_with fail
  go_ret
  exact ⟨rfl, HB2.out⟩
set_option maxRecDepth 1000000 in
set_option maxHeartbeats 4000000 in
theorem done_no (s : ByteArray) (w : World) (hs : s.size ≤ 4000) (hr : Hid (∀ D, ¬ GoodD s D)) :
    Calls Try.prog 7 #[.string s] w fun e w' => e = .returned (.bool true) ∧ Below w.heap.size w w' := by
  go_enter Try.func7, Try.ntmps7
  go_wp2_with fail
  refine (first23 w).mono ?_; rintro e w1 ⟨rfl, hb1⟩
  have HB1 := Lib.hid hb1
  clear hb1
  go_wp2_with fail
  refine (dread_no s _ (by omega) hr).mono ?_; rintro e w2 ⟨hb2, x, rfl⟩
  have HB2 := Lib.hid (dstepd HB1.out hb2)
  clear hb2
  go_wp2_with fail
  refine (first23 _).mono ?_; rintro e w3 ⟨rfl, hb3⟩
  have HB3 := Lib.hid (dstepd HB2.out hb3)
  clear hb3
  go_wp2_with fail
  go_ret
  exact ⟨rfl, HB3.out⟩
set_option maxRecDepth 1000000 in
set_option maxHeartbeats 4000000 in
theorem done_ok (s sx sc : ByteArray) (w : World) (hs : s.size ≤ 4000) (h0 : 0 < s.size) {D : List (List UInt8)} (hg : Hid (GoodD s D)) (hl : D.length ≤ 4000) (he : (encs D).length ≤ 10000000) (hT : Hid (encD D = s.data.toList)) (hsx : s ++ ⟨#[0]⟩ = sx) (hsxz : sx.size ≤ 4001) (hsc : s.extract 0 (s.size - 1) = sc) (hscz : sc.size ≤ 4000)
    (H1 : Hid (∀ D, ¬ GoodD sx D)) (H2 : Hid (∀ D, ¬ GoodD sc D)) :
    Calls Try.prog 7 #[.string s] w fun e w' => e = .returned (.bool true) ∧ Below w.heap.size w w' := by
  have HSX := Lib.hid hsx
  have HSC := Lib.hid hsc
  clear hsx hsc
  go_enter Try.func7, Try.ntmps7
  go_wp2_with fail
  refine (first23 w).mono ?_; rintro e w1 ⟨rfl, hb1⟩
  have HB1 := Lib.hid hb1
  clear hb1
  go_wp2_with fail
  refine (dread_ok s _ (by omega) hg).mono ?_; rintro e w2 ⟨hb2, b, hbb, rfl, HD2⟩
  have HB2 := Lib.hid (dstepd HB1.out hb2)
  clear hb2 hbb
  go_wp2_with fail
  refine (dall_any b D _ HD2 (by omega)).mono ?_; rintro e w3 ⟨hb3, ao, cap, rfl, HS3⟩
  have HB3 := Lib.hid (dstepd HB2.out hb3)
  have HD3 := Lib.hid (dat_below HD2.out hb3)
  clear hb3
  go_wp2_with fail
  go_loopg [6] D.length (fun k i wr => ∃ (j : Nat), j + k = D.length ∧ i = .int .i64 j ∧ Below w3.heap.size w3 wr)
  case atStart => exact ⟨0, by omega, rfl, Below.refl _ _⟩
  case round =>
    obtain ⟨j, hj, rfl, hbr⟩ := hrel
    have HB := Lib.hid hbr
    have HJ := Lib.hid hj
    clear hbr hj
    by_cases hlt : j < D.length
    · obtain ⟨gk0, HGK⟩ : ∃ gk0, Hid (gk = gk0) := ⟨_, Lib.hid rfl⟩
      go_wp2_with fail
      go_loopg [7] j (fun k i wr => ∃ (m : Nat), m + k = j ∧ i = .int .i64 m ∧ Below w3.heap.size w3 wr)
      case atStart => exact ⟨0, by omega, rfl, HB.out⟩
      case round =>
        obtain ⟨m, hm, rfl, hbr2⟩ := hrel
        have HB4 := Lib.hid hbr2
        have HM := Lib.hid hm
        clear hbr2 hm
        by_cases hmj : m < j
        · obtain ⟨g, off, rfl, hg1, hc1⟩ := (HS3.out.below HB4.out).at hlt
          obtain ⟨g2, off2, hao, hg2, hc2⟩ := (HS3.out.below HB4.out).at (show m < D.length by omega)
          simp only [Option.some.injEq, Addr.mk.injEq, and_true] at hao
          obtain ⟨rfl, rfl⟩ := hao
          have hne : D[j] ≠ D[m] := fun e => by
            have := (List.getElem_inj hg.out.2.1).1 e
            omega
          have hml : m < D.length := by omega
          obtain ⟨X, hX⟩ : ∃ X : ByteArray, (⟨D[j].toArray⟩ : ByteArray) = X := ⟨_, rfl⟩
          obtain ⟨Y, hY⟩ : ∃ Y : ByteArray, (⟨D[m].toArray⟩ : ByteArray) = Y := ⟨_, rfl⟩
          have hxy : (X.toList == Y.toList) = false := by
            rw [beq_eq_false_iff_ne, ByteArray.toList_eq, ByteArray.toList_eq, ← hX, ← hY]
            simpa using hne
          unfold strV at hc1 hc2
          rw [hX] at hc1
          rw [hY] at hc2
          clear hne hX hY
          have hI : Below wr.heap.size wr wr.drew := (Below.refl _ _).drew
          have hne : Nonempty { w' : World // Below wr.heap.size wr w' } := ⟨⟨_, hI⟩⟩
          have hc3 : ∀ t : { w' : World // Below wr.heap.size wr w' }, t.1.cell? ⟨g, off + j, none⟩ = some (.string X) := fun t => (t.2.cell (p := ⟨g, off + j, none⟩) hg1).trans hc1
          have hc4 : ∀ t : { w' : World // Below wr.heap.size wr w' }, t.1.cell? ⟨g, off + m, none⟩ = some (.string Y) := fun t => (t.2.cell (p := ⟨g, off + m, none⟩) hg2).trans hc2
          go_wp2_with fail
          refine wp_region_seq (S := fun w' => Below wr.heap.size wr w') [(0, true), (1, true), (2, true), (3, true), (4, true), (5, true), (6, true), (7, true), (8, true)] (by kernel_rfl) (by kernel_rfl) (by kernel_rfl) (by kernel_rfl) hI ?_
          iterate 9 (refine seq_take _ rfl (fun K hK => ?_); go_simp; refine hK _ ?_; clear hK K)
          refine seq_done ?_
          clear hc3 hc4
          go_wp2_with fail
          have hm := HM.out
          go_roundg (gk - 1)
          case measure => omega
          case rel => exact ⟨m + 1, by omega, by simp, HB4.out.trans (hI.mono HB4.out.size)⟩
        · have hgk0 := HGK.out
          have hj := HJ.out
          go_wp2_with fail
          go_roundg (gk0 - 1)
          case measure => omega
          case rel => exact ⟨j + 1, by omega, by simp, HB4.out⟩
    · have HBB := Lib.hid (dstepd HB3.out HB.out)
      have HD4 := Lib.hid (dat_below HD3.out HB.out)
      have hz : ((s.size : Int) == 0) = false := beq_eq_false_iff_ne.2 (by omega)
      go_wp2_with fail
      refine (dput_any b D _ HD4 (by omega) he hT).mono ?_; rintro e w5 ⟨rfl, hb5⟩
      rw [ba_list]
      have HB5 := Lib.hid (dstepd HBB.out hb5)
      clear hb5
      have hsx := HSX.out
      have hsc := HSC.out
      go_wp2_with fail
      refine (dread_no sc _ (by omega) H2).mono ?_; rintro e w6 ⟨hb6, x1, rfl⟩
      have HB6 := Lib.hid (dstepd HB5.out hb6)
      clear hb6
      go_wp2_with fail
      refine (dread_no sx _ (by omega) H1).mono ?_; rintro e w7 ⟨hb7, x2, rfl⟩
      have HB7 := Lib.hid (dstepd HB6.out hb7)
      clear hb7
      go_wp2_with fail
      refine (first23 _).mono ?_; rintro e w8 ⟨rfl, hb8⟩
      have HB8 := Lib.hid (dstepd HB7.out hb8)
      clear hb8
      go_wp2_with fail
      go_ret
      exact ⟨rfl, HB8.out⟩
theorem done_any (s : ByteArray) (w : World) (hm : s.size ≤ 9223372036854775807) :
    Calls Try.prog 7 #[.string s] w fun e w' => e = .returned (.bool true) ∧ Below w.heap.size w w' := by
  by_cases h1 : 4000 < s.size
  · exact done_long s w h1 hm
  by_cases h3 : ∃ D, GoodD s D
  · obtain ⟨D, hD⟩ := h3
    have hl := good_len hD
    have hp := good_pos hD
    have hl2 := encs_length D
    unfold encD at hl
    rw [List.length_append] at hl
    have hsx : (s ++ (⟨#[0]⟩ : ByteArray)).data.toList = s.data.toList ++ [0] := by simp
    have hsxz : (s ++ (⟨#[0]⟩ : ByteArray)).size = s.size + 1 := by rw [ByteArray.size_append]; rfl
    have hsc : (s.extract 0 (s.size - 1)).data.toList = s.data.toList.dropLast := by
      rw [ByteArray.data_extract]
      simp [List.dropLast_eq_take]
    have hscz : (s.extract 0 (s.size - 1)).size = s.size - 1 := by rw [ByteArray.size_extract]; omega
    have hne : s.data.toList ≠ [] := fun e => by
      have := congrArg List.length e
      simp at this
      rw [ByteArray.size, this] at hp
      simp at hp
    refine done_ok s _ _ w (by omega) hp (Lib.hid hD) (by omega) (by omega) (Lib.hid hD.1.symm) rfl (by omega) rfl (by omega) (Lib.hid fun D' h' => no_moreD (by omega) hsx hD h') (Lib.hid fun D' h' => no_moreD (x := s.data.toList.getLast hne) (by omega) ?_ h' hD)
    rw [hsc]
    exact (List.dropLast_concat_getLast hne).symm
  · exact done_no s w (by omega) (Lib.hid fun D hD => h3 ⟨D, hD⟩)
end Go.Proofs.Ytihoemimiplhfaa
