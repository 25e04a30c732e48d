/-
  hyglaw23: what the examples fix; all texts of a Dict.
-/
import Derived.Test.YtihoemimiplhfaaDictRead
namespace Go.Proofs.Ytihoemimiplhfaa
open Go.RowKit Go.Maps

theorem dstepd {a b c : World} (h1 : Below a.heap.size a b) (h2 : Below b.heap.size b c) : Below a.heap.size a c := h1.trans (h2.mono h1.size)
theorem encs_front : ∀ (D D' : List (List UInt8)) (r : List UInt8), D.length = D'.length → (encs D).length < 2 ^ 63 → (encs D').length < 2 ^ 63 → encs D' = encs D ++ r → D' = D ∧ r = []
  | [], [], r, _, _, _, h => ⟨rfl, by simpa [encs] using h.symm⟩
  | [], _ :: _, r, h, _, _, _ => by simp at h
  | _ :: _, [], r, h, _, _, _ => by simp at h
  | t :: T, t' :: T', r, hl, h1, h2, h => by
    have e1 : encs (t :: T) = vput t.length ++ (t ++ encs T) := by unfold encs; rw [List.flatMap_cons]; unfold encT; rw [List.append_assoc]
    have e2 : encs (t' :: T') = vput t'.length ++ (t' ++ encs T') := by unfold encs; rw [List.flatMap_cons]; unfold encT; rw [List.append_assoc]
    rw [e1] at h1 h
    rw [e2] at h2 h
    simp only [List.length_append] at h1 h2
    have v1 := vget_mid (l := vput t'.length ++ (t' ++ encs T')) (a := []) (b := t' ++ encs T') (n := t'.length) (by omega) rfl
    have v2 := vget_mid (l := vput t.length ++ (t ++ encs T) ++ r) (a := []) (b := (t ++ encs T) ++ r) (n := t.length) (by omega) (by simp)
    rw [h, v2] at v1
    simp only [Except.ok.injEq, Prod.mk.injEq] at v1
    have hn : t.length = t'.length := v1.1
    rw [← hn, List.append_assoc, List.append_cancel_left_eq, List.append_assoc] at h
    obtain ⟨h3, h4⟩ := List.append_inj h hn.symm
    obtain ⟨h5, h6⟩ := encs_front T T' r (by simpa using hl) (by omega) (by omega) h4
    exact ⟨by rw [h3, h5], h6⟩
theorem encD_front {D D' : List (List UInt8)} {r : List UInt8} (h1 : (encD D).length < 2 ^ 63) (h2 : (encD D').length < 2 ^ 63) (h : encD D' = encD D ++ r) : D' = D ∧ r = [] := by
  unfold encD at h1 h2 h
  have l1 := encs_length D
  have l2 := encs_length D'
  simp only [List.length_append] at h1 h2
  have v1 := vget_mid (l := vput D'.length ++ encs D') (a := []) (b := encs D') (n := D'.length) (by omega) rfl
  have v2 := vget_mid (l := vput D.length ++ encs D ++ r) (a := []) (b := encs D ++ r) (n := D.length) (by omega) (by simp)
  rw [h, v2] at v1
  simp only [Except.ok.injEq, Prod.mk.injEq] at v1
  have hn : D.length = D'.length := v1.1
  rw [← hn, List.append_assoc, List.append_cancel_left_eq] at h
  exact encs_front D D' r hn (by omega) (by omega) h
theorem good_len {s : ByteArray} {D : List (List UInt8)} (h : GoodD s D) : (encD D).length = s.size := by rw [← h.1]; simp
theorem good_oneD {s : ByteArray} (hs : s.size ≤ 1000000) {D D' : List (List UInt8)} (h : GoodD s D) (h' : GoodD s D') : D' = D := by
  have l1 := good_len h
  have l2 := good_len h'
  exact (encD_front (D := D) (D' := D') (r := []) (by omega) (by omega) (by rw [List.append_nil, ← h.1, ← h'.1])).1
theorem no_moreD {s s' : ByteArray} {x : UInt8} (hs : s.size ≤ 1000000) (he : s'.data.toList = s.data.toList ++ [x]) {D D' : List (List UInt8)} (h : GoodD s D) (h' : GoodD s' D') : False := by
  have l1 := good_len h
  have l2 := good_len h'
  have hz : s'.size = s.size + 1 := by
    have := congrArg List.length he
    simpa using this
  have := (encD_front (D := D) (D' := D') (r := [x]) (by omega) (by omega) (by rw [← h.1, ← h'.1, he])).2
  simp at this
theorem good_pos {s : ByteArray} {D : List (List UInt8)} (h : GoodD s D) : 0 < s.size := by
  have l1 := good_len h
  have := (vput_length D.length).1
  unfold encD at l1
  rw [List.length_append] at l1
  omega
theorem dread_ok (s : ByteArray) (w : World) (hs : s.size ≤ 100000) {D : List (List UInt8)} (h : Hid (GoodD s D)) :
    Calls Try.prog 13 #[.string s] w fun e w' => Below w.heap.size w w' ∧ ∃ b, w.heap.size ≤ b ∧ e = .returned (.tuple #[.pointer (some ⟨b + 1, 0, none⟩), .nilIface]) ∧ Hid (DAt w' b D) :=
  (dread_any s w hs).mono fun e w' ⟨hb, h2⟩ => by
    refine ⟨hb, ?_⟩
    rcases h2 with ⟨D', hD', b, h3, h4, h5⟩ | ⟨hn, _⟩
    · have := good_oneD (by omega) h.out hD'
      subst this
      exact ⟨b, h3, h4, h5⟩
    · exact absurd h.out (hn D)
theorem dread_no (s : ByteArray) (w : World) (hs : s.size ≤ 100000) (h : Hid (∀ D, ¬ GoodD s D)) :
    Calls Try.prog 13 #[.string s] w fun e w' => Below w.heap.size w w' ∧ ∃ x, e = .returned (.tuple #[.pointer none, .iface 88 x]) :=
  (dread_any s w hs).mono fun e w' ⟨hb, h2⟩ => by
    refine ⟨hb, ?_⟩
    rcases h2 with ⟨D', hD', _⟩ | ⟨_, h3⟩
    · exact absurd hD' (h.out D')
    · exact h3
set_option maxRecDepth 1000000 in
set_option maxHeartbeats 4000000 in
theorem first23 (w : World) : Calls Try.prog 12 #[] w fun e w' => e = .returned (.bool true) ∧ Below w.heap.size w w' := by
  have HT : Hid (encD [[97], [98]] = [2, 1, 97, 1, 98]) := Lib.hid (by decide +kernel)
  go_enter Try.func12, Try.ntmps12
  go_wp2_with fail
  refine (dnew_any _).mono ?_; rintro e w1 ⟨rfl, HD1, hb1⟩
  have HB1 := Lib.hid hb1
  obtain ⟨b, hb⟩ : ∃ b, w.heap.size = b := ⟨_, rfl⟩
  rw [hb] at HD1 ⊢
  have HBB : Hid (w.heap.size ≤ b) := Lib.hid (by omega)
  clear hb1 hb
  go_wp2_with fail
  refine (dadd_new b [] [97] _ HD1 (by simp) (by simp) (by simp)).mono ?_; rintro e w2 ⟨rfl, HD2, hb2⟩
  have HB2 := Lib.hid (HB1.out.trans (hb2.mono HBB.out))
  clear hb2
  simp only [List.nil_append] at HD2
  go_wp2_with fail
  refine (dadd_new b [[97]] [98] _ HD2 (by decide) (by simp) (by simp)).mono ?_; rintro e w3 ⟨rfl, HD3, hb3⟩
  have HB3 := Lib.hid (HB2.out.trans (hb3.mono HBB.out))
  clear hb3
  go_wp2_with fail
  refine (dadd_old b [[97], [98]] 0 [97] _ HD3 (Lib.hid rfl) (by simp)).mono ?_; rintro e w' ⟨rfl, rfl⟩
  go_wp2_with fail
  refine (dlen_any b [[97], [98]] _ HD3).mono ?_; rintro e w' ⟨rfl, rfl⟩
  go_wp2_with fail
  refine (dput_any b [[97], [98]] _ HD3 (by simp) (by decide +kernel) HT).mono ?_; rintro e w4 ⟨rfl, hb4⟩
  have HB4 := Lib.hid (dstepd HB3.out hb4)
  have HD4 := Lib.hid (dat_below HD3.out hb4)
  clear hb4
  go_wp2_with fail
  refine (dget_out b [[97], [98]] 2 _ HD4 (by simp)).mono ?_; rintro e w' ⟨rfl, rfl⟩
  go_wp2_with fail
  go_ret
  exact ⟨rfl, HB4.out⟩
set_option maxRecDepth 1000000 in
set_option maxHeartbeats 4000000 in
theorem dall_any (b : Nat) (D : List (List UInt8)) (w : World) (h : Hid (DAt w b D)) (hl : D.length ≤ 100000) :
    Calls Try.prog 16 #[.pointer (some ⟨b + 1, 0, none⟩)] w fun e w' => Below w.heap.size w w' ∧ ∃ ao cap, e = .returned (.slice ao D.length cap) ∧ Hid (Strs w' ao D) := by
  go_enter Try.func16, Try.ntmps16
  go_wp2_with fail
  go_loopg [3, 4] D.length (fun k v i wr => ∃ (j : Nat), j + k = D.length ∧ i = .int .i64 j ∧ wr.ownsRow w.heap.size 9 1 v j ((D.take j).map strV) ∧ Below w.heap.size w wr)
  case atStart => exact ⟨0, by omega, rfl, World.ownsRow_nil _ _ _ _, Below.refl _ _⟩
  case round =>
    obtain ⟨j, hj, rfl, hown, hbr⟩ := hrel
    have HB := Lib.hid hbr
    have HJ := Lib.hid hj
    have HDr := Lib.hid (dat_below h.out hbr)
    have hbs : w.heap.size ≤ wr.heap.size := hbr.size
    clear hbr hj
    go_wp2_with fail
    refine (dlen_any b D _ HDr).mono ?_; rintro e w' ⟨rfl, rfl⟩
    by_cases hlt : j < D.length
    · obtain ⟨t, ht⟩ : ∃ t, D[j] = t := ⟨_, rfl⟩
      have HI : Hid (D[j]? = some t) := Lib.hid (by rw [List.getElem?_eq_getElem hlt, ht])
      have HTK : Hid (D.take (j + 1) = D.take j ++ [t]) := Lib.hid (by rw [List.take_succ_eq_append_getElem hlt, ht])
      clear ht
      go_wp2_with fail
      refine (dget_in b D j t _ HDr HI).mono ?_; rintro e w' ⟨rfl, rfl⟩
      unfold strV
      go_wp2_with (at_builtin; refine wpList_app1 (c := 1) (cs := [.string ⟨t.toArray⟩]) rfl _ _ 41 rfl Try.elStr (by decide) hown rfl (by show Value.slice (some ⟨wr.heap.size, 0, none⟩) 1 1 = _; simp) rfl (by simp [Value.oneCell']) (by unfold maxLen; omega) (by omega) hbs ?_; intro v' w2 hown2 hgrow)
      have HB2 : Hid (Below w.heap.size w w2) := Lib.hid (HB.out.grown hgrow hbs (fun k hk => (hown.lt _ hk).1))
      have HO2 : Hid (w2.ownsRow w.heap.size 9 1 v' (j + 1) ((D.take (j + 1)).map strV)) := Lib.hid (by rw [HTK.out, List.map_append]; exact hown2)
      clear hown hown2 hgrow
      go_wp2_with fail
      have hj := HJ.out
      go_roundg (gk - 1)
      case measure => omega
      case rel => exact ⟨j + 1, by omega, by simp, HO2.out, HB2.out⟩
    · obtain rfl : j = D.length := by have := HJ.out; omega
      rw [List.take_length] at hown
      obtain ⟨ao, cap, rfl⟩ := own_slice hown
      have HS : Hid (Strs wr ao D) := Lib.hid (strs_of_own hown)
      clear hown
      go_wp2_with fail
      go_ret
      exact ⟨HB.out, ao, cap, rfl, HS⟩
end Go.Proofs.Ytihoemimiplhfaa
