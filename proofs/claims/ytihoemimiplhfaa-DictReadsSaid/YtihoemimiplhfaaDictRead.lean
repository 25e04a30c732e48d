/-
  dict.Read.
-/
import Derived.Test.YtihoemimiplhfaaDictMath
namespace Go.Proofs.Ytihoemimiplhfaa
open Go.RowKit Go.Maps

theorem dat_upd {S : Nat → Prop} {w w' : World} {b : Nat} {D : List (List UInt8)} (h : DAt w b D) (hu : Upd S w w') (hS : ∀ k, b ≤ k → ¬ S k) : DAt w' b D := by
  obtain ⟨v, M, h1, h2, h3, h4, h5⟩ := h
  obtain ⟨es, clock, g1, g2⟩ := h3
  refine ⟨v, M, (hu.block _ (row_lt h1) (hS _ (by omega))).trans h1, hu.own h2 (fun k hk h => hS k (by have := (h2.lt k hk).1; omega) h), ⟨es, clock, (hu.block _ (row_lt g1) (hS _ (Nat.le_refl _))).trans g1, g2⟩, h4, h5⟩
theorem sform_any (r : Nat) (s : ByteArray) (i : Nat) (f : Value) (w : World) (h : SR r s i f w) :
    Calls Try.prog 37 #[.pointer (some ⟨r, 0, none⟩)] w fun e w' => e = .returned f ∧ w = w' := by
  have hc2 : w.cell? ⟨r, 2, none⟩ = some f := row_cell h (j := 2) rfl
  clear h
  go_enter Try.func37, Try.ntmps37
  go_wp2_with fail
  go_ret
  exact ⟨rfl, rfl⟩
/-- what Read answers, and what it leaves -/
def DRPost (s : ByteArray) (w : World) (e : Ending) (w' : World) : Prop :=
  Below w.heap.size w w' ∧ ((∃ D, GoodD s D ∧ ∃ b, w.heap.size ≤ b ∧ e = .returned (.tuple #[.pointer (some ⟨b + 1, 0, none⟩), .nilIface]) ∧ Hid (DAt w' b D)) ∨
    ((∀ D, ¬ GoodD s D) ∧ ∃ x, e = .returned (.tuple #[.pointer none, .iface 88 x])))
theorem dr_bad {s : ByteArray} {w w' : World} (hb : Below w.heap.size w w') (h : ∀ D, ¬ GoodD s D) (x : Value) : DRPost s w (.returned (.tuple #[.pointer none, .iface 88 x])) w' := ⟨hb, .inr ⟨h, x, rfl⟩⟩
set_option maxRecDepth 1000000 in
set_option maxHeartbeats 8000000 in
theorem dread_any (s : ByteArray) (w : World) (hs : s.size ≤ 100000) :
    Calls Try.prog 13 #[.string s] w (DRPost s w) := by
  go_enter Try.func13, Try.ntmps13
  go_wp2_with fail
  refine (snew_any s w).mono ?_; rintro e w1 ⟨rfl, hsr1, hb1⟩
  have HB1 := Lib.hid hb1
  have HS1 := Lib.hid hsr1
  obtain ⟨r, hr⟩ : ∃ r, w.heap.size = r := ⟨_, rfl⟩
  rw [hr] at HS1 ⊢
  have HRW : Hid (w.heap.size ≤ r) := Lib.hid (by omega)
  clear hb1 hsr1 hr
  go_wp2_with fail
  cases hv : vget s.data.toList ((0 : Nat) : Int) with
  | error c =>
    have HE : Hid (∀ D, ¬ GoodD s D) := Lib.hid (drat_none hv)
    have HV := Lib.hid hv
    clear hv
    refine (snum_err r s 0 _ _ HS1.out (by unfold maxLen; omega) HV.out).mono ?_; rintro e w2 ⟨⟨x, rfl⟩, hb2⟩
    have HB2 := Lib.hid (HB1.out.trans (hb2.mono HB1.out.size))
    clear hb2
    go_wp2_with fail
    go_ret2
    exact dr_bad HB2.out HE.out x
  | ok nq =>
  obtain ⟨cnt, q0⟩ := nq
  obtain ⟨g1, g2, g3, _, _⟩ := vget_inv hv
  rw [show s.data.toList.length = s.size by simp] at g2
  obtain ⟨gg, hgg⟩ : ∃ gg, decide ((vput cnt).length < q0 - 0) = gg := ⟨_, rfl⟩
  have HX0 := Lib.hid (drat_start hv hgg)
  have HV := Lib.hid hv
  have HGG := Lib.hid hgg
  clear hv hgg
  refine (snum_ok r s 0 false .nilIface _ HS1.out rfl (by unfold maxLen; omega) HV.out g3 (by omega) g2 HGG).mono ?_; rintro e w2 ⟨rfl, f2, hf2, hs2, hu2⟩
  have HB2 : Hid (Below w.heap.size w w2) := Lib.hid (HB1.out.trans (hu2.below HB1.out.size (fun k _ hk => by have := HRW.out; omega)))
  have HS2 := Lib.hid hs2
  have HF2 : Hid (FV gg f2) := Lib.hid (by simpa using hf2)
  clear hf2 hs2 hu2
  go_wp2_with fail
  refine (dnew_any _).mono ?_; rintro e w3 ⟨rfl, HD3, hb3⟩
  have HB3 := Lib.hid (HB2.out.trans (hb3.mono HB2.out.size))
  have HS3 := Lib.hid (HS2.out.below hb3)
  have hrb := row_lt HS2.out
  obtain ⟨b0, hb0⟩ : ∃ b0, w2.heap.size = b0 := ⟨_, rfl⟩
  rw [hb0] at HD3 hrb ⊢
  have HRB : Hid (r < b0) := Lib.hid hrb
  clear hb3 hb0 hrb
  go_wp2_with fail
  go_loopg [8] (s.size - q0) (fun k i wr => ∃ (j : Nat) (texts : List (List UInt8)) (q : Nat) (b : Bool) (f : Value) (D : List (List UInt8)), q + k = s.size ∧ i = .int .u64 j ∧ j ≤ cnt ∧ Hid (DRAt s cnt j texts q b) ∧ Hid (FV b f) ∧ Hid (SR r s q f wr) ∧ Hid (DAt wr b0 D) ∧
    Hid (b = false → D = texts) ∧ D.length ≤ j ∧ Hid (∀ t ∈ D, t.length ≤ s.size) ∧ Below w.heap.size w wr)
  case atStart => exact ⟨0, [], q0, gg, f2, [], by omega, rfl, by omega, HX0, HF2, HS3, HD3, Lib.hid (fun _ => rfl), by simp, Lib.hid (by simp), HB3.out⟩
  case round =>
    obtain ⟨j, texts, q, b, f, D, hqk, rfl, hjc, HX, HF, HS, HD, HDT, hDj, HTL, hbr⟩ := hrel
    have HB := Lib.hid hbr
    have HQ := Lib.hid hqk
    have hjq := HX.out.jq
    clear hbr hqk
    by_cases hlt : j < cnt
    · have hj9 : j ≤ 100000 := by have := HX.out.le; omega
      cases hv : vget s.data.toList (q : Int) with
      | error c =>
        have HE : Hid (∀ D, ¬ GoodD s D) := Lib.hid (drat_err (by omega) HX.out hlt hv)
        have HV := Lib.hid hv
        clear hv
        go_wp2_with fail
        refine (stext_none r s q f _ HS.out (by unfold maxLen; omega) HV.out).mono ?_; rintro e w4 ⟨⟨x, rfl⟩, hu4⟩
        have HB4 : Hid (Below w.heap.size w w4) := Lib.hid (HB.out.trans (hu4.below HB.out.size (fun k _ hk => by have := HRW.out; omega)))
        clear hu4
        go_wp2_with fail
        go_ret2
        exact dr_bad HB4.out HE.out x
      | ok nq2 =>
      obtain ⟨n, qn⟩ := nq2
      obtain ⟨k1, k2, k3, _, _⟩ := vget_inv hv
      rw [show s.data.toList.length = s.size by simp] at k2
      obtain ⟨g, hg⟩ : ∃ g, decide ((vput n).length < qn - q) = g := ⟨_, rfl⟩
      have HV := Lib.hid hv
      have HG := Lib.hid hg
      clear hv hg
      go_wp2_with fail
      refine (stext_two r s q b f _ HS.out HF.out (by omega) HV.out k3 (by omega) k2 HG).mono ?_; rintro e w4 ⟨hu4, ⟨hov, x, rfl⟩ | ⟨hno, rfl, f4, hf4, HS4⟩⟩
      · have HE : Hid (∀ D, ¬ GoodD s D) := Lib.hid (drat_over (by omega) HX.out hlt HV.out hov)
        have HB4 : Hid (Below w.heap.size w w4) := Lib.hid (HB.out.trans (hu4.below HB.out.size (fun k _ hk => by have := HRW.out; omega)))
        clear hu4
        go_wp2_with fail
        go_ret2
        exact dr_bad HB4.out HE.out x
      have HB4 : Hid (Below w.heap.size w w4) := Lib.hid (HB.out.trans (hu4.below HB.out.size (fun k _ hk => by have := HRW.out; omega)))
      have HD4 : Hid (DAt w4 b0 D) := Lib.hid (dat_upd HD.out hu4 (fun k hk e => by have := HRB.out; omega))
      have HF4 := Lib.hid hf4
      obtain ⟨t, ht⟩ : ∃ t, (s.data.toList.drop qn).take n = t := ⟨_, rfl⟩
      have htl : t.length ≤ s.size := by rw [← ht, List.length_take]; omega
      rw [ht]
      have HT := Lib.hid ht
      clear hu4 hf4 ht
      go_wp2_with fail
      refine (dlen_any b0 D _ HD4).mono ?_; rintro e w' ⟨rfl, rfl⟩
      go_wp2_with fail
      by_cases hin : t ∈ D
      · have HX5 : Hid (DRAt s cnt (j + 1) (texts ++ [t]) (qn + n) (b || g || true)) := Lib.hid (drat_next (by omega) HX.out hlt HV.out hno HT.out HG.out (fun hb => by
          have := HDT.out hb
          rw [← this]
          simp [hin]))
        obtain ⟨i0, hi0, he0⟩ := List.getElem_of_mem hin
        have HI : Hid (D[i0]? = some t) := Lib.hid (by rw [List.getElem?_eq_getElem hi0, he0])
        have hne : ((i0 : Int) != (D.length : Int)) = true := by simp; omega
        clear he0 hin
        refine (dadd_old b0 D i0 t _ HD4 HI (by omega)).mono ?_; rintro e w' ⟨rfl, rfl⟩
        go_wp2_with fail
        refine (sfault_any r s (qn + n) (b || g) f4 _ HS4.out HF4.out).mono ?_; rintro e w5 ⟨rfl, f5, hf5, hs5, hu5⟩
        have HB5 : Hid (Below w.heap.size w w5) := Lib.hid (HB4.out.trans (hu5.below HB4.out.size (fun k _ hk => by have := HRW.out; omega)))
        have HD5 : Hid (DAt w5 b0 D) := Lib.hid (dat_upd HD4.out hu5 (fun k hk e => by have := HRB.out; omega))
        have HF5 : Hid (FV (b || g || true) f5) := Lib.hid (by simpa using hf5)
        have HS5 := Lib.hid hs5
        have HDT5 : Hid ((b || g || true) = false → D = texts ++ [t]) := Lib.hid (fun h => by simp at h)
        clear hu5 hs5 hf5
        go_wp2_with fail
        have hqk := HQ.out
        go_roundg (s.size - (qn + n))
        case measure => omega
        case rel => exact ⟨j + 1, texts ++ [t], qn + n, _, f5, D, by omega, by simp, by omega, HX5, HF5, HS5, HD5, HDT5, by omega, HTL, HB5.out⟩
      · have HX5 : Hid (DRAt s cnt (j + 1) (texts ++ [t]) (qn + n) (b || g || false)) := Lib.hid (drat_next (by omega) HX.out hlt HV.out hno HT.out HG.out (fun hb => by
          have := HDT.out hb
          rw [← this]
          simp [hin]))
        have hne : ((D.length : Int) != (D.length : Int)) = false := by simp
        have HDT5 : Hid ((b || g || false) = false → D ++ [t] = texts ++ [t]) := Lib.hid (fun h => by
          simp only [Bool.or_eq_false_iff] at h
          rw [HDT.out h.1.1])
        have HTL5 : Hid (∀ u ∈ D ++ [t], u.length ≤ s.size) := Lib.hid (fun u hu => by
          rcases List.mem_append.1 hu with hu | hu
          · exact HTL.out u hu
          · rw [List.mem_singleton] at hu; subst hu; exact htl)
        refine (dadd_new b0 D t _ HD4 hin (by omega) (by omega)).mono ?_; rintro e w5 ⟨rfl, HD5, hb5⟩
        have HB5 : Hid (Below w.heap.size w w5) := Lib.hid (HB4.out.trans (hb5.mono (by have := HRW.out; have := HRB.out; omega)))
        have HS5 : Hid (SR r s (qn + n) f4 w5) := Lib.hid ((hb5.block r HRB.out).trans HS4.out)
        have HF5 : Hid (FV (b || g || false) f4) := Lib.hid (by simpa using HF4.out)
        clear hb5 hin
        go_wp2_with fail
        have hqk := HQ.out
        go_roundg (s.size - (qn + n))
        case measure => omega
        case rel => exact ⟨j + 1, texts ++ [t], qn + n, _, f4, D ++ [t], by omega, by simp, by omega, HX5, HF5, HS5, HD5, HDT5, by simp; omega, HTL5, HB5.out⟩
    · obtain rfl : j = cnt := by omega
      have HEND := Lib.hid (drat_end HX.out)
      obtain ⟨gg2, hgg2⟩ : ∃ gg2, decide (q < s.size) = gg2 := ⟨_, rfl⟩
      have HGG2 := Lib.hid hgg2
      have hi1 : ¬ (j : Int) < (j : Int) := by omega
      clear hgg2
      go_wp2_with fail
      refine (slong_at r s q f _ HS.out HGG2).mono ?_; rintro e w4 ⟨⟨f4, rfl, hf4⟩, hb4⟩
      have HB4 := Lib.hid (HB.out.trans (hb4.mono HB.out.size))
      have HS4 := Lib.hid (HS.out.below hb4)
      have HD4 := Lib.hid (dat_below HD.out hb4)
      clear hb4
      cases gg2 with
      | true =>
        obtain ⟨x, rfl⟩ := hf4.yes
        have HE : Hid (∀ D, ¬ GoodD s D) := Lib.hid (HEND.out.2 (.inr (.inl (of_decide_eq_true HGG2.out))))
        clear hf4
        go_wp2_with fail
        go_ret2
        exact dr_bad HB4.out HE.out x
      | false =>
      obtain rfl := hf4.no
      have HQS : Hid (¬ q < s.size) := Lib.hid (of_decide_eq_false HGG2.out)
      clear hf4
      by_cases hbig : 20000 < j
      · have HE : Hid (∀ D, ¬ GoodD s D) := Lib.hid (HEND.out.2 (.inr (.inr hbig)))
        go_wp2_with fail
        refine (swrong_any r s q f 9 _ HS4.out).mono ?_; rintro e w5 ⟨⟨x, rfl⟩, hb5⟩
        have HB5 := Lib.hid (HB4.out.trans (hb5.mono HB4.out.size))
        clear hb5
        go_wp2_with fail
        go_ret2
        exact dr_bad HB5.out HE.out x
      · go_wp2_with fail
        refine (sform_any r s q f _ HS4.out).mono ?_; rintro e w' ⟨rfl, rfl⟩
        cases b with
        | true =>
          obtain ⟨x, rfl⟩ := HF.out.yes
          have HE : Hid (∀ D, ¬ GoodD s D) := Lib.hid (HEND.out.2 (.inl rfl))
          go_wp2_with fail
          go_ret2
          exact dr_bad HB4.out HE.out x
        | false =>
          obtain rfl := HF.out.no
          have HGO : Hid (GoodD s texts) := Lib.hid (HEND.out.1 rfl HQS.out (by omega))
          have HDD : Hid (DAt w4 b0 texts) := Lib.hid (by have h1 := HD4.out; rw [HDT.out (by simp)] at h1; exact h1)
          have HBB : Hid (w.heap.size ≤ b0) := Lib.hid (by have := HRW.out; have := HRB.out; omega)
          go_wp2_with fail
          go_ret2
          exact ⟨HB4.out, .inl ⟨texts, HGO.out, b0, HBB.out, rfl, HDD⟩⟩
end Go.Proofs.Ytihoemimiplhfaa
