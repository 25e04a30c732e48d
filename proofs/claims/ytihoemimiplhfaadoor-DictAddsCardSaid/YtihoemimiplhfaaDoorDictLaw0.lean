/-
  hyglaw23: what the examples fix; all texts of a Dict.
-/
import Derived.Test.YtihoemimiplhfaaDoorDictPut
namespace Go.Proofs.YtihoemimiplhfaaDoor
open Go.RowKit Go.Maps

theorem dstepd {a b c : World} (h1 : Below a.heap.size a b) (h2 : Below b.heap.size b c) : Below a.heap.size a c := h1.trans (h2.mono h1.size)
set_option maxRecDepth 1000000 in
set_option maxHeartbeats 4000000 in
theorem first23 (w : World) : Calls Tryd.prog 19 #[] w fun e w' => e = .returned (.bool true) ∧ Below w.heap.size w w' := by
  have HT : Hid (encD [[97], [98]] = [2, 1, 97, 1, 98]) := Lib.hid (by decide +kernel)
  go_enter Tryd.func19, Tryd.ntmps19
  go_wp2_with fail
  refine (dnew_any _).mono ?_; rintro e w1 ⟨rfl, HD1, hb1⟩
  have HB1 := Lib.hid hb1
  obtain ⟨b, hb⟩ : ∃ b, w.heap.size = b := ⟨_, rfl⟩
  rw [hb] at HD1 ⊢
  have HBB : Hid (w.heap.size ≤ b) := Lib.hid (by omega)
  clear hb1 hb
  go_wp2_with fail
  refine (dadd_new b [] [97] _ HD1 (by simp) (by simp) (by simp)).mono ?_; rintro e w2 ⟨rfl, HD2, hb2⟩
  have HB2 := Lib.hid (HB1.out.trans (hb2.mono HBB.out))
  clear hb2
  simp only [List.nil_append] at HD2
  go_wp2_with fail
  refine (dadd_new b [[97]] [98] _ HD2 (by decide) (by simp) (by simp)).mono ?_; rintro e w3 ⟨rfl, HD3, hb3⟩
  have HB3 := Lib.hid (HB2.out.trans (hb3.mono HBB.out))
  clear hb3
  go_wp2_with fail
  refine (dadd_old b [[97], [98]] 0 [97] _ HD3 (Lib.hid rfl) (by simp)).mono ?_; rintro e w' ⟨rfl, rfl⟩
  go_wp2_with fail
  refine (dlen_any b [[97], [98]] _ HD3).mono ?_; rintro e w' ⟨rfl, rfl⟩
  go_wp2_with fail
  refine (dput_any b [[97], [98]] _ HD3 (by simp) (by decide +kernel) HT).mono ?_; rintro e w4 ⟨rfl, hb4⟩
  have HB4 := Lib.hid (dstepd HB3.out hb4)
  have HD4 := Lib.hid (dat_below HD3.out hb4)
  clear hb4
  go_wp2_with fail
  refine (dget_out b [[97], [98]] 2 _ HD4 (by simp)).mono ?_; rintro e w' ⟨rfl, rfl⟩
  go_wp2_with fail
  go_ret
  exact ⟨rfl, HB4.out⟩
set_option maxRecDepth 1000000 in
set_option maxHeartbeats 4000000 in
theorem dall_any (b : Nat) (D : List (List UInt8)) (w : World) (h : Hid (DAt w b D)) (hl : D.length ≤ 100000) :
    Calls Tryd.prog 29 #[.pointer (some ⟨b + 1, 0, none⟩)] w fun e w' => Below w.heap.size w w' ∧ ∃ ao cap, e = .returned (.slice ao D.length cap) ∧ Hid (Strs w' ao D) := by
  go_enter Tryd.func29, Tryd.ntmps29
  go_wp2_with fail
  go_loopg [3, 4] D.length (fun k v i wr => ∃ (j : Nat), j + k = D.length ∧ i = .int .i64 j ∧ wr.ownsRow w.heap.size 9 1 v j ((D.take j).map strV) ∧ Below w.heap.size w wr)
  case atStart => exact ⟨0, by omega, rfl, World.ownsRow_nil _ _ _ _, Below.refl _ _⟩
  case round =>
    obtain ⟨j, hj, rfl, hown, hbr⟩ := hrel
    have HB := Lib.hid hbr
    have HJ := Lib.hid hj
    have HDr := Lib.hid (dat_below h.out hbr)
    have hbs : w.heap.size ≤ wr.heap.size := hbr.size
    clear hbr hj
    go_wp2_with fail
    refine (dlen_any b D _ HDr).mono ?_; rintro e w' ⟨rfl, rfl⟩
    by_cases hlt : j < D.length
    · obtain ⟨t, ht⟩ : ∃ t, D[j] = t := ⟨_, rfl⟩
      have HI : Hid (D[j]? = some t) := Lib.hid (by rw [List.getElem?_eq_getElem hlt, ht])
      have HTK : Hid (D.take (j + 1) = D.take j ++ [t]) := Lib.hid (by rw [List.take_succ_eq_append_getElem hlt, ht])
      clear ht
      go_wp2_with fail
      refine (dget_in b D j t _ HDr HI).mono ?_; rintro e w' ⟨rfl, rfl⟩
      unfold strV
      go_wp2_with (at_builtin; refine wpList_app1 (c := 1) (cs := [.string ⟨t.toArray⟩]) rfl _ _ 42 rfl Tryd.elStr (by decide) hown rfl (by show Value.slice (some ⟨wr.heap.size, 0, none⟩) 1 1 = _; simp) rfl (by simp [Value.oneCell']) (by unfold maxLen; omega) (by omega) hbs ?_; intro v' w2 hown2 hgrow)
      have HB2 : Hid (Below w.heap.size w w2) := Lib.hid (HB.out.grown hgrow hbs (fun k hk => (hown.lt _ hk).1))
      have HO2 : Hid (w2.ownsRow w.heap.size 9 1 v' (j + 1) ((D.take (j + 1)).map strV)) := Lib.hid (by rw [HTK.out, List.map_append]; exact hown2)
      clear hown hown2 hgrow
      go_wp2_with fail
      have hj := HJ.out
      go_roundg (gk - 1)
      case measure => omega
      case rel => exact ⟨j + 1, by omega, by simp, HO2.out, HB2.out⟩
    · obtain rfl : j = D.length := by have := HJ.out; omega
      rw [List.take_length] at hown
      obtain ⟨ao, cap, rfl⟩ := own_slice hown
      have HS : Hid (Strs wr ao D) := Lib.hid (strs_of_own hown)
      clear hown
      go_wp2_with fail
      go_ret
      exact ⟨HB.out, ao, cap, rfl, HS⟩
end Go.Proofs.YtihoemimiplhfaaDoor
