/-
  hyglaw23.DictBack: for any texts the law returns true.
-/
import Derived.Test.YtihoemimiplhfaaDictFew
namespace Go.Proofs.Ytihoemimiplhfaa
open Go.RowKit Go.Maps

/-- the texts, each one once -/
def dadd (D : List (List UInt8)) (t : List UInt8) : List (List UInt8) := if t ∈ D then D else D ++ [t]
def lenSum (l : List (List UInt8)) : Nat := (l.map fun t => t.length + 10).sum
theorem lenSum_snoc (l : List (List UInt8)) (t : List UInt8) : lenSum (l ++ [t]) = lenSum l + (t.length + 10) := by simp [lenSum]
theorem lenSum_few : ∀ (l : List (List UInt8)), (∀ t ∈ l, t.length ≤ 20000) → lenSum l = capSum l + 10 * l.length
  | [], _ => by simp [lenSum, capSum]
  | t :: l, h => by
    have ih := lenSum_few l (fun u hu => h u (List.mem_cons_of_mem _ hu))
    have h1 := h t (List.mem_cons_self ..)
    simp only [lenSum, capSum, List.map_cons, List.sum_cons, List.length_cons] at *
    omega
theorem capSum_mem {l : List (List UInt8)} {t : List UInt8} (h : t ∈ l) : min t.length 20001 ≤ capSum l := by
  obtain ⟨a, b, rfl⟩ := List.append_of_mem h
  simp only [capSum, List.map_append, List.map_cons, List.sum_append, List.sum_cons]
  omega
theorem lenSum_take_le (l : List (List UInt8)) (j : Nat) : lenSum (l.take j) ≤ lenSum l := by
  conv => rhs; rw [← List.take_append_drop j l]
  simp only [lenSum, List.map_append, List.sum_append]
  omega
/-- what Adds have left: all that was added is there -/
structure Added (l : List (List UInt8)) (j : Nat) (D : List (List UInt8)) : Prop where
  all : ∀ t ∈ l.take j, t ∈ D
  len : D.length ≤ j
  sum : (encs D).length ≤ lenSum (l.take j)
theorem added_start (l : List (List UInt8)) : Added l 0 [] := ⟨by simp, by simp, by simp [encs]⟩
theorem added_old {l : List (List UInt8)} {j : Nat} {D : List (List UInt8)} (h : Added l j D) (hj : j < l.length) (hm : l[j] ∈ D) : Added l (j + 1) D := by
  have e := List.take_succ_eq_append_getElem hj
  refine ⟨fun t ht => ?_, by have := h.len; omega, by rw [e, lenSum_snoc]; have := h.sum; omega⟩
  rw [e] at ht
  rcases List.mem_append.1 ht with ht | ht
  · exact h.all t ht
  · rw [List.mem_singleton] at ht; subst ht; exact hm
theorem added_new {l : List (List UInt8)} {j : Nat} {D : List (List UInt8)} (h : Added l j D) (hj : j < l.length) : Added l (j + 1) (D ++ [l[j]]) := by
  have e := List.take_succ_eq_append_getElem hj
  have hv := (vput_length l[j].length).2
  refine ⟨fun t ht => ?_, by have := h.len; simp; omega, ?_⟩
  · rw [e] at ht
    rcases List.mem_append.1 ht with ht | ht
    · exact List.mem_append_left _ (h.all t ht)
    · exact List.mem_append_right _ ht
  · rw [e, lenSum_snoc, encs_snoc, List.length_append, List.length_append]
    have := h.sum
    omega
/-- one more Add -/
theorem dadd_get {D : List (List UInt8)} {t : List UInt8} (h : t ∈ D) : ∃ i, D[i]? = some t ∧ i < D.length := by
  obtain ⟨i, hi, he⟩ := List.getElem_of_mem h
  exact ⟨i, by rw [List.getElem?_eq_getElem hi, he], hi⟩
theorem texts_len (ao bo : Option Addr) (cap bcap : Nat) (l : List (List UInt8)) (n m : Nat) (w : World) (hn : n = l.length) (hm : m = l.length) (ha : Strs w ao l) (hb : Strs w bo l) (hl : l.length ≤ 1000000000) :
    Calls Try.prog 15 #[.slice ao n cap, .slice bo m bcap] w fun e w' => e = .returned (.bool true) ∧ Below w.heap.size w w' := by
  subst hn; subst hm; exact texts_same ao bo cap bcap l w ha hb hl
set_option maxRecDepth 1000000 in
set_option maxHeartbeats 4000000 in
theorem dback_few (ao : Option Addr) (cap : Nat) (l : List (List UInt8)) (more : ByteArray) (w : World) (hN : Strs w ao l) (hm : l.length ≤ 9223372036854775807) (hlt : Hid (∀ t ∈ l, t.length ≤ 9223372036854775807)) (hmm : more.size ≤ 9223372036854775807) (hr : fewB l = false ∨ (fewB l = true ∧ 1000 < more.size)) :
    Calls Try.prog 6 #[.slice ao l.length cap, .string more] w fun e w' => e = .returned (.bool true) ∧ Below w.heap.size w w' := by
  have HN := Lib.hid hN
  clear hN
  rcases hr with hr | ⟨hr, hms⟩
  · have HR := Lib.hid hr
    clear hr
    go_enter Try.func6, Try.ntmps6
    go_wp2_with fail
    refine (first23 w).mono ?_; rintro e w1 ⟨rfl, hb1⟩
    have HB1 := Lib.hid hb1
    clear hb1
    go_wp2_with fail
    refine (dnew_any _).mono ?_; rintro e w2 ⟨rfl, HD2, hb2⟩
    have HB2 := Lib.hid (dstepd HB1.out hb2)
    clear hb2
    go_wp2_with fail
    refine (few_any ao cap l _ (HN.out.below HB2.out) hm hlt HR).mono ?_; rintro e w3 ⟨rfl, hb3⟩
    have HB3 := Lib.hid (dstepd HB2.out hb3)
    clear hb3
    go_wp2_with fail
    refine (first23 _).mono ?_; rintro e w4 ⟨rfl, hb4⟩
    have HB4 := Lib.hid (dstepd HB3.out hb4)
    clear hb4
    go_wp2_with fail
    go_ret
    exact ⟨rfl, HB4.out⟩
  · have HR := Lib.hid hr
    have d1 : decide ((more.size : Int) > 1000) = true := decide_eq_true (by omega)
    clear hr
    go_enter Try.func6, Try.ntmps6
    go_wp2_with fail
    refine (first23 w).mono ?_; rintro e w1 ⟨rfl, hb1⟩
    have HB1 := Lib.hid hb1
    clear hb1
    go_wp2_with fail
    refine (dnew_any _).mono ?_; rintro e w2 ⟨rfl, HD2, hb2⟩
    have HB2 := Lib.hid (dstepd HB1.out hb2)
    clear hb2
    go_wp2_with fail
    refine (few_any ao cap l _ (HN.out.below HB2.out) hm hlt HR).mono ?_; rintro e w3 ⟨rfl, hb3⟩
    have HB3 := Lib.hid (dstepd HB2.out hb3)
    clear hb3
    go_wp2_with fail
    refine (first23 _).mono ?_; rintro e w4 ⟨rfl, hb4⟩
    have HB4 := Lib.hid (dstepd HB3.out hb4)
    clear hb4
    go_wp2_with fail
    go_ret
    exact ⟨rfl, HB4.out⟩
/-- the end of the law: more is added, and all is put -/
structure BackIn (l : List (List UInt8)) (more : ByteArray) : Prop where
  few : fewB l = true
  le : l.length ≤ 300
  each : ∀ t ∈ l, t.length ≤ 20000
  sum : lenSum l ≤ 30000
  more : more.size ≤ 1000
theorem back_in {l : List (List UInt8)} {more : ByteArray} (h : fewB l = true) (hm : more.size ≤ 1000) : BackIn l more := by
  have h0 := h
  unfold fewB at h
  simp only [Bool.and_eq_true, decide_eq_true_eq] at h
  obtain ⟨h1, h2⟩ := h
  rw [List.take_of_length_le (by omega)] at h2
  have he : ∀ t ∈ l, t.length ≤ 20000 := fun t ht => by have := capSum_mem ht; omega
  refine ⟨h0, h1, he, ?_, hm⟩
  rw [lenSum_few l he]
  omega
set_option maxRecDepth 1000000 in
set_option maxHeartbeats 8000000 in
theorem dback_walk (ao : Option Addr) (cap : Nat) (l : List (List UInt8)) (mt : List UInt8) (more : ByteArray) (w : World) (hN : Strs w ao l) (hmt : Hid (more = ⟨mt.toArray⟩)) (hin : Hid (BackIn l more)) :
    Calls Try.prog 6 #[.slice ao l.length cap, .string more] w fun e w' => e = .returned (.bool true) ∧ Below w.heap.size w w' := by
  have HN := Lib.hid hN
  have hl3 := hin.out.le
  have hms := hin.out.more
  have HLT : Hid (∀ t ∈ l, t.length ≤ 9223372036854775807) := Lib.hid (fun t ht => by have := hin.out.each t ht; omega)
  have HR := Lib.hid hin.out.few
  have d1 : decide ((more.size : Int) > 1000) = false := decide_eq_false (by omega)
  clear hN
  go_enter Try.func6, Try.ntmps6
  go_wp2_with fail
  refine (first23 w).mono ?_; rintro e w1 ⟨rfl, hb1⟩
  have HB1 := Lib.hid hb1
  clear hb1
  go_wp2_with fail
  refine (dnew_any _).mono ?_; rintro e w2 ⟨rfl, HD2, hb2⟩
  have HB2 := Lib.hid (dstepd HB1.out hb2)
  obtain ⟨b, hb⟩ : ∃ b, w1.heap.size = b := ⟨_, rfl⟩
  have HWB : Hid (w.heap.size ≤ b) := Lib.hid (by have := HB1.out.size; omega)
  rw [hb] at HD2 ⊢
  clear hb2 hb
  go_wp2_with fail
  refine (few_any ao cap l _ (HN.out.below HB2.out) (by omega) HLT HR).mono ?_; rintro e w3 ⟨rfl, hb3⟩
  have HB3 := Lib.hid (dstepd HB2.out hb3)
  have HD3 := Lib.hid (dat_below HD2.out hb3)
  clear hb3
  go_wp2_with fail
  go_loopg [6] l.length (fun k i wr => ∃ (j : Nat) (D : List (List UInt8)), j + k = l.length ∧ i = .int .i64 j ∧ Hid (Added l j D) ∧ Hid (DAt wr b D) ∧ Below w.heap.size w wr)
  case atStart => exact ⟨0, [], by omega, rfl, Lib.hid (added_start l), HD3, HB3.out⟩
  case round =>
    obtain ⟨j, D, hj, rfl, HA, HD, hbr⟩ := hrel
    have HB := Lib.hid hbr
    have HJ := Lib.hid hj
    have hDl := HA.out.len
    clear hbr hj
    by_cases hlt : j < l.length
    · obtain ⟨g, off, rfl, hg1, hcell⟩ := (HN.out.below HB.out).at hlt
      obtain ⟨t, ht⟩ : ∃ t, l[j] = t := ⟨_, rfl⟩
      have htl : t.length ≤ 20000 := ht ▸ hin.out.each _ (List.getElem_mem hlt)
      rw [ht] at hcell
      have hi1 : (j : Int) < (l.length : Int) := by omega
      have hcs : wr.cell? ⟨g, off + j, none⟩ = some (strV t) := hcell
      obtain ⟨X, hX⟩ : ∃ X : ByteArray, (⟨t.toArray⟩ : ByteArray) = X := ⟨_, rfl⟩
      have hXV : strV t = .string X := by unfold strV; rw [hX]
      rw [hXV] at hcell hcs
      have HXV := Lib.hid hXV
      have HLJ : Hid (strV l[j] = .string X) := Lib.hid (by rw [ht]; exact hXV)
      by_cases hmem : t ∈ D
      · obtain ⟨i0, hi0, hil⟩ := dadd_get hmem
        have HI := Lib.hid hi0
        have HA2 := Lib.hid (added_old HA.out hlt (by rw [ht]; exact hmem))
        have hnle : ¬ ((i0 : Int) > (j : Int)) := by omega
        clear hmem ht hX hXV
        go_wp2_with fail
        rw [← HXV.out]
        refine (dadd_old b D i0 t _ HD HI (by omega)).mono ?_; rintro e w' ⟨rfl, rfl⟩
        go_wp2_with fail
        refine (dget_in b D i0 t _ HD HI).mono ?_; rintro e w' ⟨rfl, rfl⟩
        rw [HXV.out]
        go_wp2_with fail
        have hj := HJ.out
        go_roundg (gk - 1)
        case measure => omega
        case rel => exact ⟨j + 1, D, by omega, by simp, HA2, HD, HB.out⟩
      · have HA2 : Hid (Added l (j + 1) (D ++ [t])) := Lib.hid (by have := added_new HA.out hlt; rw [ht] at this; exact this)
        have HI : Hid ((D ++ [t])[D.length]? = some t) := Lib.hid (by simp)
        clear ht hX hXV
        go_wp2_with fail
        rw [← HXV.out]
        refine (dadd_new b D t _ HD hmem (by omega) (by omega)).mono ?_; rintro e w4 ⟨rfl, HD4, hb4⟩
        have HB4 := Lib.hid (HB.out.trans (hb4.mono HWB.out))
        have hcs4 : w4.cell? ⟨g, off + j, none⟩ = some (.string X) := by
          have h9 := (HN.out.below HB4.out).at hlt
          obtain ⟨g', off', h10, _, h12⟩ := h9
          simp only [Option.some.injEq, Addr.mk.injEq, and_true] at h10
          obtain ⟨rfl, rfl⟩ := h10
          rw [h12, HLJ.out]
        clear hb4 hmem hcell hcs
        go_wp2_with fail
        refine (dget_in b (D ++ [t]) D.length t _ HD4 HI).mono ?_; rintro e w' ⟨rfl, rfl⟩
        rw [HXV.out]
        go_wp2_with fail
        have hj := HJ.out
        go_roundg (gk - 1)
        case measure => omega
        case rel => exact ⟨j + 1, D ++ [t], by omega, by simp, HA2, HD4, HB4.out⟩
    · obtain rfl : j = l.length := by have := HJ.out; omega
      have hall : ∀ t ∈ l, t ∈ D := by have := HA.out.all; rw [List.take_length] at this; exact this
      have hsum := HA.out.sum
      rw [List.take_length] at hsum
      have hls := hin.out.sum
      have hvl := (vput_length D.length).2
      obtain ⟨T, hT⟩ : ∃ T, encD D = T := ⟨_, rfl⟩
      have hTl : T.length ≤ 31000 := by rw [← hT]; unfold encD; rw [List.length_append]; omega
      obtain ⟨s, hs⟩ : ∃ s : ByteArray, (⟨T.toArray⟩ : ByteArray) = s := ⟨_, rfl⟩
      have hss : s.size ≤ 31000 := by rw [← hs, str_size]; exact hTl
      have HG : Hid (GoodD s D) := Lib.hid ⟨by rw [← hs, hT], by obtain ⟨_, _, _, _, _, _, h9⟩ := HD.out; exact h9, by omega⟩
      have HT := Lib.hid hT
      have HS := Lib.hid hs
      have HALL := Lib.hid hall
      have he3 : (encs D).length ≤ 30000 := by omega
      have HBr : Hid (w.heap.size ≤ wr.heap.size) := Lib.hid HB.out.size
      clear hall hsum hls hvl hT hs hTl
      go_wp2_with fail
      refine (dput_any b D _ HD (by omega) (by omega) HT).mono ?_; rintro e w4 ⟨rfl, hb4⟩
      rw [HS.out]
      have HB4 := Lib.hid (dstepd HB.out hb4)
      have HD4 := Lib.hid (dat_below HD.out hb4)
      clear hb4
      go_wp2_with fail
      refine (dread_ok s _ (by omega) HG).mono ?_; rintro e w5 ⟨hb5, b2, hb2', rfl, HX5⟩
      have HB5 := Lib.hid (dstepd HB4.out hb5)
      have HD5 := Lib.hid (dat_below HD4.out hb5)
      have HWB2 : Hid (w.heap.size ≤ b2) := Lib.hid (by have := HB4.out.size; omega)
      clear hb5 hb2'
      go_wp2_with fail
      refine (dall_any b2 D _ HX5 (by omega)).mono ?_; rintro e w6 ⟨hb6, ao6, cap6, rfl, HS6⟩
      have HB6 := Lib.hid (dstepd HB5.out hb6)
      have HD6 := Lib.hid (dat_below HD5.out hb6)
      have HX6 := Lib.hid (dat_below HX5.out hb6)
      clear hb6
      go_wp2_with fail
      refine (dall_any b D _ HD6 (by omega)).mono ?_; rintro e w7 ⟨hb7, ao7, cap7, rfl, HS7⟩
      have HB7 := Lib.hid (dstepd HB6.out hb7)
      have HD7 := Lib.hid (dat_below HD6.out hb7)
      have HX7 := Lib.hid (dat_below HX6.out hb7)
      have HS67 := Lib.hid (HS6.out.below hb7)
      clear hb7
      go_wp2_with fail
      refine (texts_len ao6 ao7 cap6 cap7 D _ _ _ rfl rfl HS67.out HS7.out (by omega)).mono ?_; rintro e w8 ⟨rfl, hb8⟩
      have HB8 := Lib.hid (dstepd HB7.out hb8)
      have HD8 := Lib.hid (dat_below HD7.out hb8)
      have HX8 := Lib.hid (dat_below HX7.out hb8)
      clear hb8
      go_wp2_with fail
      go_loopg [14] l.length (fun k i wr => ∃ (j : Nat), j + k = l.length ∧ i = .int .i64 j ∧ Below w8.heap.size w8 wr)
      case atStart => exact ⟨0, by omega, rfl, Below.refl _ _⟩
      case round =>
        obtain ⟨m, hm, rfl, hbm⟩ := hrel
        have HBm := Lib.hid (dstepd HB8.out hbm)
        have HDm := Lib.hid (dat_below HD8.out hbm)
        have HXm := Lib.hid (dat_below HX8.out hbm)
        have HB8m := Lib.hid hbm
        have HM := Lib.hid hm
        clear hbm hm
        by_cases hml : m < l.length
        · obtain ⟨g, off, rfl, hg1, hcell⟩ := (HN.out.below HBm.out).at hml
          obtain ⟨t, ht⟩ : ∃ t, l[m] = t := ⟨_, rfl⟩
          have htl : t.length ≤ 20000 := ht ▸ hin.out.each _ (List.getElem_mem hml)
          obtain ⟨i0, hi0, hil⟩ := dadd_get (HALL.out l[m] (List.getElem_mem hml))
          rw [ht] at hcell hi0
          have HI := Lib.hid hi0
          obtain ⟨X, hX⟩ : ∃ X : ByteArray, (⟨t.toArray⟩ : ByteArray) = X := ⟨_, rfl⟩
          have hXV : strV t = .string X := by unfold strV; rw [hX]
          rw [hXV] at hcell
          have HXV := Lib.hid hXV
          have hi1 : (m : Int) < (l.length : Int) := by omega
          have hI : Below wr.heap.size wr wr.drew := (Below.refl _ _).drew
          have HDd := Lib.hid (dat_below HDm.out hI)
          have HXd := Lib.hid (dat_below HXm.out hI)
          have hne : Nonempty { w' : World // Below wr.heap.size wr w' } := ⟨⟨_, hI⟩⟩
          have hc3 : ∀ t : { w' : World // Below wr.heap.size wr w' }, t.1.cell? ⟨g, off + m, none⟩ = some (.string X) := fun t => (t.2.cell (p := ⟨g, off + m, none⟩) hg1).trans hcell
          clear hX hXV ht hi0
          go_wp2_with fail
          refine wp_region_seq (S := fun w' => Below wr.heap.size wr w') [(0, true), (1, true), (2, true), (3, true), (4, true), (6, true), (7, true), (8, true), (9, true), (10, true), (5, false), (11, false), (12, true)] (by kernel_rfl) (by kernel_rfl) (by kernel_rfl) (by kernel_rfl) hI ?_
          iterate 10 (refine seq_take _ rfl (fun K hK => ?_); go_simp; refine hK _ ?_; clear hK K)
          refine seq_come _ rfl (fun K hK => ?_); go_simp
          rw [← HXV.out]
          refine (dadd_old b2 D i0 t _ HXd HI (by omega)).mono ?_; rintro e w' ⟨rfl, rfl⟩
          go_simp; refine hK.out _ _ hI ?_; clear hK K
          refine seq_come _ rfl (fun K hK => ?_); go_simp
          refine (dadd_old b D i0 t _ HDd HI (by omega)).mono ?_; rintro e w' ⟨rfl, rfl⟩
          go_simp; refine hK.out _ _ hI ?_; clear hK K
          refine seq_take _ rfl (fun K hK => ?_); go_simp; refine hK _ ?_; clear hK K
          refine seq_done ?_
          clear hc3
          go_wp2_with fail
          have hm := HM.out
          go_roundg (gk - 1)
          case measure => omega
          case rel => exact ⟨m + 1, by omega, by simp, HB8m.out.trans (hI.mono HB8m.out.size)⟩
        · have hme := hmt.out
          have hmtl : mt.length ≤ 1000 := by rw [← str_size mt, ← hme]; exact hms
          have hmV : (.string more : Value) = strV mt := by unfold strV; rw [hme]
          have HMV := Lib.hid hmV
          clear hme hmV
          go_wp2_with fail
          refine (dlen_any b2 D _ HXm).mono ?_; rintro e w' ⟨rfl, rfl⟩
          by_cases hmem : mt ∈ D
          · obtain ⟨n0, hn0, hnl⟩ := dadd_get hmem
            have HI := Lib.hid hn0
            have e1 : decide ((n0 : Int) ≤ (D.length : Int)) = true := decide_eq_true (by omega)
            have e2 : ((n0 : Int) == (D.length : Int)) = false := beq_eq_false_iff_ne.2 (by omega)
            have e3 : ((D.length : Int) == (D.length : Int) + 1) = false := beq_eq_false_iff_ne.2 (by omega)
            have e4 : decide ((n0 : Int) < (D.length : Int)) = true := decide_eq_true (by omega)
            clear hn0 hmem
            go_wp2_with fail
            rw [HMV.out]
            refine (dadd_old b2 D n0 mt _ HXm HI (by omega)).mono ?_; rintro e w' ⟨rfl, rfl⟩
            go_wp2_with fail
            refine (dput_any b2 D _ HXm (by omega) (by omega) HT).mono ?_; rintro e w9 ⟨rfl, hb9⟩
            rw [HS.out]
            have HB9 := Lib.hid (dstepd HBm.out hb9)
            have HX9 := Lib.hid (dat_below HXm.out hb9)
            clear hb9
            go_wp2_with fail
            refine (first23 _).mono ?_; rintro e w10 ⟨rfl, hb10⟩
            have HB10 := Lib.hid (dstepd HB9.out hb10)
            have HX10 := Lib.hid (dat_below HX9.out hb10)
            clear hb10
            go_wp2_with fail
            refine (dlen_any b2 D _ HX10).mono ?_; rintro e w' ⟨rfl, rfl⟩
            go_wp2_with fail
            go_ret
            exact ⟨rfl, HB10.out⟩
          · have e1 : decide ((D.length : Int) ≤ (D.length : Int)) = true := decide_eq_true (by omega)
            have e2 : ((D.length : Int) == (D.length : Int)) = true := beq_self_eq_true _
            have e4 : decide ((D.length : Int) < (D.length : Int)) = false := decide_eq_false (by omega)
            have hD1 : ((D ++ [mt]).length : Int) = (D.length : Int) + 1 := by simp
            obtain ⟨T2, hT2⟩ : ∃ T2, encD (D ++ [mt]) = T2 := ⟨_, rfl⟩
            obtain ⟨s2, hs2⟩ : ∃ s2 : ByteArray, (⟨T2.toArray⟩ : ByteArray) = s2 := ⟨_, rfl⟩
            have hne2 : (s2.toList == s.toList) = false := by
              rw [beq_eq_false_iff_ne, ByteArray.toList_eq, ByteArray.toList_eq, ← hs2, ← HS.out, ← hT2, ← HT.out]
              intro h
              simp only at h
              have h2 := (encD_front (D := D) (D' := D ++ [mt]) (r := []) (by unfold encD; rw [List.length_append]; have := (vput_length D.length).2; omega) (by
                rw [h]; unfold encD; rw [List.length_append]; have := (vput_length D.length).2; omega) (by rw [List.append_nil]; exact h)).1
              have := congrArg List.length h2
              simp at this
            have HT2 := Lib.hid hT2
            have HS2 := Lib.hid hs2
            have hes : (encs (D ++ [mt])).length ≤ 40000 := by
              rw [encs_snoc, List.length_append, List.length_append]
              have := (vput_length mt.length).2
              omega
            clear hT2 hs2
            go_wp2_with fail
            rw [HMV.out]
            refine (dadd_new b2 D mt _ HXm hmem (by omega) (by omega)).mono ?_; rintro e w9 ⟨rfl, HX9, hb9⟩
            have HB9 := Lib.hid (HBm.out.trans (hb9.mono HWB2.out))
            clear hb9 hmem
            go_wp2_with fail
            refine (dput_any b2 (D ++ [mt]) _ HX9 (by simp; omega) (by omega) HT2).mono ?_; rintro e w10 ⟨rfl, hb10⟩
            rw [HS2.out]
            have HB10 := Lib.hid (dstepd HB9.out hb10)
            have HX10 := Lib.hid (dat_below HX9.out hb10)
            clear hb10
            go_wp2_with fail
            refine (first23 _).mono ?_; rintro e w11 ⟨rfl, hb11⟩
            have HB11 := Lib.hid (dstepd HB10.out hb11)
            have HX11 := Lib.hid (dat_below HX10.out hb11)
            clear hb11
            go_wp2_with fail
            refine (dlen_any b2 (D ++ [mt]) _ HX11).mono ?_; rintro e w' ⟨rfl, rfl⟩
            rw [hD1]
            have e3 : ((D.length : Int) + 1 == (D.length : Int) + 1) = true := beq_self_eq_true _
            go_wp2_with fail
            go_ret
            exact ⟨rfl, HB11.out⟩
theorem dback_any (ao : Option Addr) (cap : Nat) (l : List (List UInt8)) (more : ByteArray) (w : World) (hN : Strs w ao l) (hm : l.length ≤ 9223372036854775807) (hlt : ∀ t ∈ l, t.length ≤ 9223372036854775807) (hmm : more.size ≤ 9223372036854775807) :
    Calls Try.prog 6 #[.slice ao l.length cap, .string more] w fun e w' => e = .returned (.bool true) ∧ Below w.heap.size w w' := by
  cases hf : fewB l with
  | false => exact dback_few ao cap l more w hN hm (Lib.hid hlt) hmm (.inl hf)
  | true =>
    by_cases h1 : 1000 < more.size
    · exact dback_few ao cap l more w hN hm (Lib.hid hlt) hmm (.inr ⟨hf, h1⟩)
    · exact dback_walk ao cap l more.data.toList more w hN (Lib.hid (by simp)) (Lib.hid (back_in hf (by omega)))
end Go.Proofs.Ytihoemimiplhfaa
