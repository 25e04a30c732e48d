/-
  hyglaw19.IdentBack.
-/
import Derived.Test.YtdokbooggbiciaaDoorIdentParts
import Derived.Test.YtdokbooggbiciaaDoorStrsApp
namespace Go.Proofs.YtdokbooggbiciaaDoor
open Go.RowKit

theorem encs_cut {L C : List (List UInt8)} {k : Nat} (hk : k < (encs L).length) (hl : (encs L).length < 2 ^ 63) (h : (encs L).take k = encs C) : C.length < L.length := by
  rcases Nat.lt_or_ge C.length L.length with h1 | h1
  · exact h1
  · exfalso
    have e1 : encs L = encs (C.take L.length) ++ (encs (C.drop L.length) ++ (encs L).drop k) := by
      rw [← List.append_assoc, ← encs_append, List.take_append_drop, ← h, List.take_append_drop]
    have hl2 : (encs (C.take L.length)).length < 2 ^ 63 := by
      have := encs_take_le C L.length
      rw [← h, List.length_take] at this
      omega
    have h3 := (encs_front (C.take L.length) L _ (by rw [List.length_take]; omega) hl2 hl e1).2
    have h4 := congrArg List.length h3
    simp only [List.length_append, List.length_drop, List.length_nil] at h4
    omega
set_option maxRecDepth 1000000 in
set_option maxHeartbeats 8000000 in
theorem iback_walk (ao bo : Option Addr) (cap bcap : Nat) (l m : List (List UInt8)) (cut : Int) (w : World) (hg : Glob w) (hN : Strs w ao l) (hM : Strs w bo m) (hin : Hid (FewIn l)) (him : Hid (FewIn m)) (hc0 : 0 ≤ cut) (hc1 : cut ≤ 9223372036854775807) (hnl : Hid (ao = none → cap = 0)) (hnm : Hid (bo = none → bcap = 0)) :
    Calls Tryd.prog 4 #[.slice ao l.length cap, .slice bo m.length bcap, .int .i64 cut] w fun e w' => e = .returned (.bool true) ∧ Below w.heap.size w w' := by
  have HN := Lib.hid hN
  have HM := Lib.hid hM
  have HG := Lib.hid hg
  have hl3 := hin.out.le
  have hm3 := him.out.le
  have HLT : Hid (∀ t ∈ l, t.length ≤ 9223372036854775807) := Lib.hid (fun t ht => by have := hin.out.each t ht; omega)
  have HMT : Hid (∀ t ∈ m, t.length ≤ 9223372036854775807) := Lib.hid (fun t ht => by have := him.out.each t ht; omega)
  have HR := Lib.hid hin.out.few
  have HRM := Lib.hid him.out.few
  clear hN hM hg
  go_enter Tryd.func4, Tryd.ntmps4
  go_wp2_with fail
  refine (first19 w HG.out).mono ?_; rintro e w1 ⟨rfl, hb1⟩
  have HB1 := Lib.hid hb1
  clear hb1
  go_wp2_with fail
  refine (few_any ao cap l _ (HN.out.below HB1.out) (by omega) HLT HR).mono ?_; rintro e w2 ⟨rfl, hb2⟩
  have HB2 := Lib.hid (dstepd HB1.out hb2)
  clear hb2
  go_wp2_with fail
  refine (few_any bo bcap m _ (HM.out.below HB2.out) (by omega) HMT HRM).mono ?_; rintro e w3 ⟨rfl, hb3⟩
  have HB3 := Lib.hid (dstepd HB2.out hb3)
  clear hb3
  obtain ⟨S, hS⟩ : ∃ S, encs l = S := ⟨_, rfl⟩
  obtain ⟨T, hT⟩ : ∃ T, encs m = T := ⟨_, rfl⟩
  have hSl : S.length ≤ 22000 := by rw [← hS]; exact hin.out.sum
  have hTl : T.length ≤ 22000 := by rw [← hT]; exact him.out.sum
  have HS := Lib.hid hS
  have HT := Lib.hid hT
  clear hS hT
  go_wp2_with fail
  refine (ijoin_any ao cap l _ (Lib.hid (HN.out.below HB3.out)) (by omega) (by rw [HS.out]; omega) HS).mono ?_; rintro e w4 ⟨rfl, hb4⟩
  have HB4 := Lib.hid (dstepd HB3.out hb4)
  clear hb4
  go_wp2_with fail
  refine (ijoin_any bo bcap m _ (Lib.hid (HM.out.below HB4.out)) (by omega) (by rw [HT.out]; omega) HT).mono ?_; rintro e w5 ⟨rfl, hb5⟩
  have HB5 := Lib.hid (dstepd HB4.out hb5)
  clear hb5
  obtain ⟨s, hs⟩ : ∃ s : ByteArray, (⟨S.toArray⟩ : ByteArray) = s := ⟨_, rfl⟩
  obtain ⟨t, ht⟩ : ∃ t : ByteArray, (⟨T.toArray⟩ : ByteArray) = t := ⟨_, rfl⟩
  have hss : s.size = S.length := by rw [← hs, str_size]
  have hts : t.size = T.length := by rw [← ht, str_size]
  have HSS := Lib.hid hs
  have HTT := Lib.hid ht
  rw [hs, ht]
  clear hs ht
  go_wp2_with fail
  refine (iparts_any s _ (by omega)).mono ?_; intro e w6 hpost
  obtain ⟨hb6, hcase⟩ := hpost
  have HB6 := Lib.hid (dstepd HB5.out hb6)
  clear hb6
  have HSD : Hid (s.data.toList = encs l) := Lib.hid (by rw [← HSS.out, str_data, HS.out])
  have HTD : Hid (t.data.toList = encs m) := Lib.hid (by rw [← HTT.out, str_data, HT.out])
  rcases hcase with ⟨L, hL, ao6, cap6, rfl, HS6⟩ | ⟨hno, _⟩
  case inr => exact absurd HSD.out (hno l)
  have hEq : L = l := encs_inj L l (by rw [← hL]; simp; omega) (by rw [← hL, HSD.out])
  subst hEq
  clear hL
  have hov : ¬ 9223372036854775807 < s.size + t.size := by omega
  obtain ⟨st, hst⟩ : ∃ st, s ++ t = st := ⟨_, rfl⟩
  have HST := Lib.hid hst
  go_wp2_with fail
  have hsts : st.size = s.size + t.size := by rw [← hst, ByteArray.size_append]
  refine (iparts_any st _ (by omega)).mono ?_; intro e w7 hpost
  obtain ⟨hb7, hcase⟩ := hpost
  have HB7 := Lib.hid (dstepd HB6.out hb7)
  have HS7 := Lib.hid (HS6.out.below hb7)
  have HSTD : Hid (st.data.toList = encs (L ++ m)) := Lib.hid (by rw [← HST.out, ByteArray.data_append, Array.toList_append, HSD.out, HTD.out, encs_append])
  clear hb7 hst hov
  rcases hcase with ⟨L2, hL2, ao7, cap7, rfl, HT7⟩ | ⟨hno, _⟩
  case inr => exact absurd HSTD.out (hno (L ++ m))
  have hEq : L2 = L ++ m := encs_inj L2 (L ++ m) (by rw [← hL2]; simp; omega) (by rw [← hL2, HSTD.out])
  subst hEq
  obtain ⟨LM, hLM⟩ : ∃ LM, L ++ m = LM := ⟨_, rfl⟩
  have HLM := Lib.hid hLM
  have hlen : LM.length = L.length + m.length := by rw [← hLM]; exact List.length_append
  have HLEN := Lib.hid hlen
  have hlm4 : LM.length ≤ 400 := by omega
  rw [hLM] at HT7 HSTD ⊢
  clear hLM hlen
  clear hL2
  go_wp2_with fail
  refine (texts_any ao6 ao cap6 cap L L _ HS7 (Lib.hid (HN.out.below HB7.out)) (by omega) (Lib.hid (decide_eq_true rfl))).mono ?_; rintro e w8 ⟨rfl, hb8⟩
  have HB8 := Lib.hid (dstepd HB7.out hb8)
  have HT8 := Lib.hid (HT7.out.below hb8)
  clear hb8
  go_wp2_with (first
    | (at_builtin; refine wpList_unguardS rfl ?_; refine wpList_app_strs _ _ 22 rfl rfl Tryd.elStr (owns_zeroS w8 9 w8.heap.size (Nat.le_refl _)) rfl ((HN.out.below HB8.out).below (below_new0 w8 _)) hnl.out rfl (by unfold maxLen; omega) (by omega) (by simp) ?_; intro v9 w9 hown9 hgrow9; have HB9 : Hid (Below w8.heap.size w8 w9) := Lib.hid ((below_new0 w8 _).grown hgrow9 (by simp) (fun k hk => by simp [Value.ownBlock] at hk; omega)))
    | (at_builtin; refine wpList_unguardS rfl ?_; refine wpList_app_strs _ _ 22 rfl rfl Tryd.elStr hown9 rfl ((HM.out.below HB8.out).below HB9.out) hnm.out rfl (by unfold maxLen; omega) (by omega) (HB9.out.size) ?_; intro v10 w10 hown10 hgrow10))
  have HB8x := Lib.hid (HB9.out.grown hgrow10 HB9.out.size (fun k hk => (hown9.lt _ hk).1))
  have HB10 : Hid (Below w.heap.size w w10) := Lib.hid (dstepd HB8.out HB8x.out)
  have HT10 := Lib.hid (HT8.out.below HB8x.out)
  rw [Nat.zero_add, ← HLEN.out, List.nil_append, ← List.map_append, HLM.out] at hown10
  obtain ⟨ao10, cap10, rfl⟩ := own_slice hown10
  have HS10 : Hid (Strs w10 ao10 LM) := Lib.hid (strs_of_own hown10)
  clear hown9 hown10 hgrow9 hgrow10
  refine (texts_any ao7 ao10 cap7 cap10 LM LM _ HT10 HS10 (by omega) (Lib.hid (decide_eq_true rfl))).mono ?_; rintro e w11 ⟨rfl, hb11⟩
  have HB11 := Lib.hid (dstepd HB10.out hb11)
  clear hb11
  have HEQ : Hid (s = t ↔ L = m) := Lib.hid ⟨fun h => encs_inj L m (by rw [← HSD.out]; simp; omega) (by rw [← HSD.out, ← HTD.out, h]), fun h => by rw [← HSS.out, ← HTT.out, ← HS.out, ← HT.out, h]⟩
  by_cases hst : s = t
  case pos =>
    have hLm := Lib.hid (HEQ.out.1 hst)
    subst hst
    have hbb : (s.toList == s.toList) = true := by simp
    clear HEQ
    go_wp2_with fail
    refine (texts_any ao bo cap bcap L m _ (Lib.hid (HN.out.below HB11.out)) (Lib.hid (HM.out.below HB11.out)) (by omega) (Lib.hid (decide_eq_true hLm.out))).mono ?_; rintro e w12 ⟨rfl, hb12⟩
    have HB12 := Lib.hid (dstepd HB11.out hb12)
    clear hb12 hLm hbb
    by_cases h0 : s.size = 0
    · have hL0 : Hid (L.length = 0) := Lib.hid (by
        have := encs_length L
        rw [← HSD.out] at this
        simp at this
        omega)
      have hL0' := hL0.out
      have d0 : ((s.size : Int) == 0) = true := by rw [beq_iff_eq]; omega
      have d1 : ((L.length : Int) == 0) = true := by rw [beq_iff_eq]; omega
      clear hc0 hc1 hL0'
      go_wp2_with fail
      refine (first19 _ (HG.out.below HB12.out)).mono ?_; rintro e w13 ⟨rfl, hb13⟩
      have HB13 := Lib.hid (dstepd HB12.out hb13)
      clear hb13
      go_wp2_with fail
      go_ret
      exact ⟨rfl, HB13.out⟩
    · obtain ⟨c, hc⟩ : ∃ c : Nat, (c : Int) = cut := ⟨cut.toNat, by omega⟩
      subst hc
      have hks : c % S.length < S.length := Nat.mod_lt _ (by omega)
      have d0 : ((s.size : Int) == 0) = false := by rw [beq_eq_false_iff_ne]; omega
      have h0' : ¬ (s.size : Int) = 0 := by omega
      go_wp2_with fail
      obtain ⟨k, hk⟩ : ∃ k, c % S.length = k := ⟨_, rfl⟩
      rw [hk] at hks ⊢
      obtain ⟨X, hX⟩ : ∃ X, s.extract 0 k = X := ⟨_, rfl⟩
      have hXs : X.size = k := by rw [← hX]; simp [ByteArray.size_extract]; omega
      have HXD : Hid (X.data.toList = (encs L).take k) := Lib.hid (by rw [← HSD.out, ← hX]; simp [ByteArray.data_extract])
      have HKS : Hid (k < (encs L).length) := Lib.hid (by rw [HS.out]; exact hks)
      rw [hX]
      clear hX hk d0 h0'
      refine (iparts_any X _ (by omega)).mono ?_; intro e w13 hpost
      obtain ⟨hb13, hcase⟩ := hpost
      have HB13 := Lib.hid (dstepd HB12.out hb13)
      clear hb13
      rcases hcase with ⟨C, hC, ao13, cap13, rfl, HS13⟩ | ⟨hno, x, rfl⟩
      · have hCL : C.length < L.length := encs_cut HKS.out (by rw [← HSD.out]; simp; omega) (by rw [← HXD.out, hC])
        have d2 : decide ((C.length : Int) < (L.length : Int)) = true := decide_eq_true (by omega)
        clear hC
        go_wp2_with fail
        refine (first19 _ (HG.out.below HB13.out)).mono ?_; rintro e w14 ⟨rfl, hb14⟩
        have HB14 := Lib.hid (dstepd HB13.out hb14)
        clear hb14
        go_wp2_with fail
        go_ret
        exact ⟨rfl, HB14.out⟩
      · clear hno
        go_wp2_with fail
        refine (first19 _ (HG.out.below HB13.out)).mono ?_; rintro e w14 ⟨rfl, hb14⟩
        have HB14 := Lib.hid (dstepd HB13.out hb14)
        clear hb14
        go_wp2_with fail
        go_ret
        exact ⟨rfl, HB14.out⟩
  case neg =>
    have hLm : Hid (L ≠ m) := Lib.hid (fun h => hst (HEQ.out.2 h))
    have hbb : (s.toList == t.toList) = false := by
      rw [beq_eq_false_iff_ne, ByteArray.toList_eq, ByteArray.toList_eq]
      intro h
      exact hst (ByteArray.ext (Array.ext' h))
    clear HEQ hst
    go_wp2_with fail
    refine (texts_any ao bo cap bcap L m _ (Lib.hid (HN.out.below HB11.out)) (Lib.hid (HM.out.below HB11.out)) (by omega) (Lib.hid (decide_eq_false hLm.out))).mono ?_; rintro e w12 ⟨rfl, hb12⟩
    have HB12 := Lib.hid (dstepd HB11.out hb12)
    clear hb12 hLm hbb
    by_cases h0 : s.size = 0
    · have hL0 : Hid (L.length = 0) := Lib.hid (by
        have := encs_length L
        rw [← HSD.out] at this
        simp at this
        omega)
      have hL0' := hL0.out
      have d0 : ((s.size : Int) == 0) = true := by rw [beq_iff_eq]; omega
      have d1 : ((L.length : Int) == 0) = true := by rw [beq_iff_eq]; omega
      clear hc0 hc1 hL0'
      go_wp2_with fail
      refine (first19 _ (HG.out.below HB12.out)).mono ?_; rintro e w13 ⟨rfl, hb13⟩
      have HB13 := Lib.hid (dstepd HB12.out hb13)
      clear hb13
      go_wp2_with fail
      go_ret
      exact ⟨rfl, HB13.out⟩
    · obtain ⟨c, hc⟩ : ∃ c : Nat, (c : Int) = cut := ⟨cut.toNat, by omega⟩
      subst hc
      have hks : c % S.length < S.length := Nat.mod_lt _ (by omega)
      have d0 : ((s.size : Int) == 0) = false := by rw [beq_eq_false_iff_ne]; omega
      have h0' : ¬ (s.size : Int) = 0 := by omega
      go_wp2_with fail
      obtain ⟨k, hk⟩ : ∃ k, c % S.length = k := ⟨_, rfl⟩
      rw [hk] at hks ⊢
      obtain ⟨X, hX⟩ : ∃ X, s.extract 0 k = X := ⟨_, rfl⟩
      have hXs : X.size = k := by rw [← hX]; simp [ByteArray.size_extract]; omega
      have HXD : Hid (X.data.toList = (encs L).take k) := Lib.hid (by rw [← HSD.out, ← hX]; simp [ByteArray.data_extract])
      have HKS : Hid (k < (encs L).length) := Lib.hid (by rw [HS.out]; exact hks)
      rw [hX]
      clear hX hk d0 h0'
      refine (iparts_any X _ (by omega)).mono ?_; intro e w13 hpost
      obtain ⟨hb13, hcase⟩ := hpost
      have HB13 := Lib.hid (dstepd HB12.out hb13)
      clear hb13
      rcases hcase with ⟨C, hC, ao13, cap13, rfl, HS13⟩ | ⟨hno, x, rfl⟩
      · have hCL : C.length < L.length := encs_cut HKS.out (by rw [← HSD.out]; simp; omega) (by rw [← HXD.out, hC])
        have d2 : decide ((C.length : Int) < (L.length : Int)) = true := decide_eq_true (by omega)
        clear hC
        go_wp2_with fail
        refine (first19 _ (HG.out.below HB13.out)).mono ?_; rintro e w14 ⟨rfl, hb14⟩
        have HB14 := Lib.hid (dstepd HB13.out hb14)
        clear hb14
        go_wp2_with fail
        go_ret
        exact ⟨rfl, HB14.out⟩
      · clear hno
        go_wp2_with fail
        refine (first19 _ (HG.out.below HB13.out)).mono ?_; rintro e w14 ⟨rfl, hb14⟩
        have HB14 := Lib.hid (dstepd HB13.out hb14)
        clear hb14
        go_wp2_with fail
        go_ret
        exact ⟨rfl, HB14.out⟩
set_option maxRecDepth 1000000 in
set_option maxHeartbeats 8000000 in
theorem iback_few (ao bo : Option Addr) (cap bcap : Nat) (l m : List (List UInt8)) (cut : Int) (w : World) (hg : Glob w) (hN : Strs w ao l) (hM : Strs w bo m) (hl : l.length ≤ 9223372036854775807) (hm : m.length ≤ 9223372036854775807) (hlt : Hid (∀ t ∈ l, t.length ≤ 9223372036854775807)) (hmt : Hid (∀ t ∈ m, t.length ≤ 9223372036854775807)) (hr : fewB l = false ∨ fewB m = false ∨ cut < 0) :
    Calls Tryd.prog 4 #[.slice ao l.length cap, .slice bo m.length bcap, .int .i64 cut] w fun e w' => e = .returned (.bool true) ∧ Below w.heap.size w w' := by
  have HN := Lib.hid hN
  have HM := Lib.hid hM
  have HG := Lib.hid hg
  have HRR := Lib.hid hr
  clear hN hM hg hr
  go_enter Tryd.func4, Tryd.ntmps4
  go_wp2_with fail
  refine (first19 w HG.out).mono ?_; rintro e w1 ⟨rfl, hb1⟩
  have HB1 := Lib.hid hb1
  clear hb1
  obtain ⟨g, hgg⟩ : ∃ g, fewB l = g := ⟨_, rfl⟩
  have HR := Lib.hid hgg
  clear hgg
  go_wp2_with fail
  refine (few_any ao cap l _ (HN.out.below HB1.out) hl hlt HR).mono ?_; rintro e w2 ⟨rfl, hb2⟩
  have HB2 := Lib.hid (dstepd HB1.out hb2)
  clear hb2
  cases g with
  | false =>
    go_wp2_with fail
    refine (first19 _ (HG.out.below HB2.out)).mono ?_; rintro e w3 ⟨rfl, hb3⟩
    have HB3 := Lib.hid (dstepd HB2.out hb3)
    clear hb3
    go_wp2_with fail
    go_ret
    exact ⟨rfl, HB3.out⟩
  | true =>
    obtain ⟨g2, hgg⟩ : ∃ g, fewB m = g := ⟨_, rfl⟩
    have HR2 := Lib.hid hgg
    clear hgg
    go_wp2_with fail
    refine (few_any bo bcap m _ (HM.out.below HB2.out) hm hmt HR2).mono ?_; rintro e w3 ⟨rfl, hb3⟩
    have HB3 := Lib.hid (dstepd HB2.out hb3)
    clear hb3
    cases g2 with
    | false =>
      go_wp2_with fail
      refine (first19 _ (HG.out.below HB3.out)).mono ?_; rintro e w4 ⟨rfl, hb4⟩
      have HB4 := Lib.hid (dstepd HB3.out hb4)
      clear hb4
      go_wp2_with fail
      go_ret
      exact ⟨rfl, HB4.out⟩
    | true =>
      have hc : cut < 0 := by
        rcases HRR.out with h | h | h
        · rw [HR.out] at h; cases h
        · rw [HR2.out] at h; cases h
        · exact h
      have d1 : decide (cut < 0) = true := decide_eq_true hc
      go_wp2_with fail
      refine (first19 _ (HG.out.below HB3.out)).mono ?_; rintro e w4 ⟨rfl, hb4⟩
      have HB4 := Lib.hid (dstepd HB3.out hb4)
      clear hb4
      go_wp2_with fail
      go_ret
      exact ⟨rfl, HB4.out⟩
theorem iback_any (ao bo : Option Addr) (cap bcap : Nat) (l m : List (List UInt8)) (cut : Int) (w : World) (hg : Glob w) (hN : Strs w ao l) (hM : Strs w bo m) (hl : l.length ≤ 9223372036854775807) (hm : m.length ≤ 9223372036854775807) (hlt : ∀ t ∈ l, t.length ≤ 9223372036854775807) (hmt : ∀ t ∈ m, t.length ≤ 9223372036854775807) (hc : cut ≤ 9223372036854775807) (hnl : ao = none → cap = 0) (hnm : bo = none → bcap = 0) :
    Calls Tryd.prog 4 #[.slice ao l.length cap, .slice bo m.length bcap, .int .i64 cut] w fun e w' => e = .returned (.bool true) ∧ Below w.heap.size w w' := by
  by_cases h : fewB l = true ∧ fewB m = true ∧ 0 ≤ cut
  · exact iback_walk ao bo cap bcap l m cut w hg hN hM (Lib.hid (few_in h.1)) (Lib.hid (few_in h.2.1)) h.2.2 hc (Lib.hid hnl) (Lib.hid hnm)
  · refine iback_few ao bo cap bcap l m cut w hg hN hM hl hm (Lib.hid hlt) (Lib.hid hmt) ?_
    cases h1 : fewB l with
    | false => exact .inl rfl
    | true =>
      cases h2 : fewB m with
      | false => exact .inr (.inl rfl)
      | true => exact .inr (.inr (by simp only [h1, h2, true_and] at h; omega))
end Go.Proofs.YtdokbooggbiciaaDoor
