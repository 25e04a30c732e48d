/-
  hygref18.Dict.Add, hygref18.ReadDict.
-/
import Derived.Test.YtihoemimiplhfaaDictRefR
namespace Go.Proofs.Ytihoemimiplhfaa
open Go.RowKit Go.Maps

theorem encs_inj : ∀ (D D' : List (List UInt8)), (encs D).length < 2 ^ 63 → encs D = encs D' → D = D'
  | [], [], _, _ => rfl
  | [], t :: T, _, h => by
    have h1 := (vput_length t.length).1
    have h2 := congrArg List.length h
    unfold encs at h2
    rw [List.flatMap_cons] at h2
    unfold encT at h2
    simp only [List.flatMap_nil, List.length_nil, List.length_append] at h2
    omega
  | t :: T, [], _, h => by
    have h1 := (vput_length t.length).1
    have h2 := congrArg List.length h
    unfold encs at h2
    rw [List.flatMap_cons] at h2
    unfold encT at h2
    simp only [List.flatMap_nil, List.length_nil, List.length_append] at h2
    omega
  | t :: T, t' :: T', hb, h => by
    have e1 : encs (t :: T) = vput t.length ++ (t ++ encs T) := by unfold encs; rw [List.flatMap_cons]; unfold encT; rw [List.append_assoc]
    have e2 : encs (t' :: T') = vput t'.length ++ (t' ++ encs T') := by unfold encs; rw [List.flatMap_cons]; unfold encT; rw [List.append_assoc]
    have hb2 : (encs (t' :: T')).length < 2 ^ 63 := by rw [← h]; exact hb
    rw [e1] at hb h
    rw [e2] at h hb2
    simp only [List.length_append] at hb hb2
    have v1 := vget_mid (l := vput t'.length ++ (t' ++ encs T')) (a := []) (b := t' ++ encs T') (n := t'.length) (by omega) rfl
    have v2 := vget_mid (l := vput t.length ++ (t ++ encs T)) (a := []) (b := t ++ encs T) (n := t.length) (by omega) rfl
    rw [h, v1] at v2
    simp only [Except.ok.injEq, Prod.mk.injEq] at v2
    have hn : t'.length = t.length := v2.1
    rw [hn, List.append_cancel_left_eq] at h
    obtain ⟨h3, h4⟩ := List.append_inj h hn.symm
    rw [h3, encs_inj T T' (by omega) h4]
/-- the reference's Dict at block p -/
def DRefAt (w : World) (p : Nat) (D : List (List UInt8)) : Prop := ∃ v, w.heap[p]? = some (.cells #[v] 44 (0, 0)) ∧ w.ownsRow (p + 1) 9 1 v D.length (D.map strV)
theorem dref_below {w w' : World} {p : Nat} {D : List (List UInt8)} (h : DRefAt w p D) (hb : Below w.heap.size w w') : DRefAt w' p D := by
  obtain ⟨v, h1, h2⟩ := h
  exact ⟨v, (hb.block _ (row_lt h1)).trans h1, (Upd.of_new (S := fun _ => False) hb).own h2 (fun _ _ h => h)⟩
theorem dref_new (w : World) : DRefAt (w.alloc (.cells #[.slice none 0 0] 44)) w.heap.size [] := ⟨_, heap_alloc_new w _, World.ownsRow_nil _ _ _ _⟩
set_option maxRecDepth 1000000 in
set_option maxHeartbeats 4000000 in
theorem rdadd_any (p : Nat) (D : List (List UInt8)) (t : List UInt8) (w : World) (h : Hid (DRefAt w p D)) (hD : D.length ≤ 1000000) :
    Calls Try.prog 41 #[.pointer (some ⟨p, 0, none⟩), strV t] w fun e w' =>
      (∃ i, D[i]? = some t ∧ e = .returned (.int .i64 (i : Nat)) ∧ Below w.heap.size w w') ∨ (t ∉ D ∧ e = .returned (.int .i64 (D.length : Int)) ∧ Hid (DRefAt w' p (D ++ [t])) ∧ Below p w w') := by
  obtain ⟨Y, hY⟩ : ∃ Y : ByteArray, (⟨t.toArray⟩ : ByteArray) = Y := ⟨_, rfl⟩
  have hYV : strV t = .string Y := by unfold strV; rw [hY]
  rw [hYV]
  have HY := Lib.hid hY
  clear hY hYV
  go_enter Try.func41, Try.ntmps41
  go_wp2_with fail
  go_loopg [5] D.length (fun k i wr => ∃ (j : Nat), j + k = D.length ∧ i = .int .i64 j ∧ Hid (∀ m, m < j → D[m]? ≠ some t) ∧ Below w.heap.size w wr)
  case atStart => exact ⟨0, by omega, rfl, Lib.hid (fun m hm => by omega), Below.refl _ _⟩
  case round =>
    obtain ⟨j, hj, rfl, HM, hbr⟩ := hrel
    have HB := Lib.hid hbr
    have HJ := Lib.hid hj
    obtain ⟨v, h1, h2⟩ := dref_below h.out hbr
    obtain ⟨ao, cap, rfl⟩ := own_slice h2
    have hc0 : wr.cell? ⟨p, 0, none⟩ = some (.slice ao D.length cap) := row_cell h1 (j := 0) rfl
    have hpw : p + 1 ≤ wr.heap.size := row_lt h1
    have H1 := Lib.hid h1
    have HSt : Hid (Strs wr ao D) := Lib.hid (strs_of_own h2)
    clear hbr hj h1
    by_cases hlt : j < D.length
    · obtain ⟨g, off, rfl, hg1, hcell⟩ := HSt.out.at hlt
      obtain ⟨X, hX⟩ : ∃ X : ByteArray, (⟨D[j].toArray⟩ : ByteArray) = X := ⟨_, rfl⟩
      have hXV : strV D[j] = .string X := by unfold strV; rw [hX]
      rw [hXV] at hcell
      have hi1 : (j : Int) < (D.length : Int) := by omega
      by_cases he : D[j] = t
      · have hxy : X = Y := by rw [← hX, ← HY.out, he]
        have HI : Hid (D[j]? = some t) := Lib.hid (by rw [List.getElem?_eq_getElem hlt, he])
        subst hxy
        clear he hX hXV h2
        go_wp2_with fail
        go_ret
        exact .inl ⟨j, HI.out, rfl, HB.out⟩
      · have hxy : (X.toList == Y.toList) = false := by
          rw [beq_eq_false_iff_ne, ByteArray.toList_eq, ByteArray.toList_eq, ← hX, ← HY.out]
          simpa using he
        have HM2 : Hid (∀ m, m < j + 1 → D[m]? ≠ some t) := Lib.hid (fun m hm => by
          by_cases hmj : m = j
          · subst hmj; rw [List.getElem?_eq_getElem hlt]; simpa using he
          · exact HM.out m (by omega))
        clear he hX hXV h2
        go_wp2_with fail
        have hj := HJ.out
        go_roundg (gk - 1)
        case measure => omega
        case rel => exact ⟨j + 1, by omega, by simp, HM2, HB.out⟩
    · have hni : t ∉ D := fun hm => by
        obtain ⟨m, hm1, hm2⟩ := List.getElem_of_mem hm
        have hj := HJ.out
        exact HM.out m (by omega) (by rw [List.getElem?_eq_getElem hm1, hm2])
      have HNI := Lib.hid hni
      have HP : Hid (p < w.heap.size) := Lib.hid (by obtain ⟨_, h9, _⟩ := h.out; exact row_lt h9)
      have HH2 := Lib.hid h2
      clear hni
      go_wp2_with (at_builtin; refine wpList_app1 (c := 1) (cs := [.string Y]) rfl _ _ 41 rfl Try.elStr (by decide) h2 rfl (by show Value.slice (some ⟨wr.heap.size, 0, none⟩) 1 1 = _; simp) rfl (by simp [Value.oneCell']) (by unfold maxLen; omega) (by omega) hpw ?_; intro v' w2 hown2 hgrow2; obtain ⟨ao2, cap2, rfl⟩ := own_slice hown2; have H1'' : Hid (w2.heap[p]? = some (.cells #[.slice ao D.length cap] 44 (0, 0))) := Lib.hid ((hgrow2.block _ (row_lt H1.out) (fun e => by have h7 := (HH2.out.lt _ e.symm).1; omega)).trans H1.out); have hc0'' : w2.cell? ⟨p, 0, none⟩ = some (.slice ao D.length cap) := row_cell H1''.out (j := 0) rfl; have hfz : w2.frozen? ⟨p, 0, none⟩ = false := row_thaw H1''.out 0)
      go_ret
      have hu2 : Below p wr w2 := (Upd.of_grown hgrow2).below (by omega) (fun k _ hk => by have h7 := (HH2.out.lt _ hk).1; omega)
      have HU3 := Upd.set w2 ⟨p, 0, none⟩ (.slice ao2 (D.length + 1) cap2)
      have hu3 : Below p w2 (w2.setCell ⟨p, 0, none⟩ (.slice ao2 (D.length + 1) cap2)) := HU3.below (by have := hu2.size; omega) (fun k _ hk => by subst hk; exact Nat.le_refl _)
      refine .inr ⟨HNI.out, ?_, Lib.hid ⟨.slice ao2 (D.length + 1) cap2, row_set H1''.out 0 _, ?_⟩, ((HB.out.mono (Nat.le_of_lt HP.out)).trans hu2).trans hu3⟩
      · first | rfl | simp
      · have h8 := HU3.own hown2 (fun k hk e => by have h7 := (hown2.lt k hk).1; have e : k = p := e; omega)
        have e9 : (D ++ [t]).map strV = D.map strV ++ [.string Y] := by rw [List.map_append]; unfold strV; rw [← HY.out]; rfl
        rw [e9]
        simpa using h8
theorem good_parts {s : ByteArray} {D : List (List UInt8)} (h : GoodD s D) : s.data.toList.drop (vput D.length).length = encs D := by
  rw [h.1]
  unfold encD
  simp
def RRDPost (s : ByteArray) (w : World) (e : Ending) (w' : World) : Prop :=
  Below w.heap.size w w' ∧ ((∃ D, GoodD s D ∧ ∃ p, e = .returned (.tuple #[.pointer (some ⟨p, 0, none⟩), .bool true]) ∧ Hid (DRefAt w' p D)) ∨ ((∀ D, ¬ GoodD s D) ∧ e = .returned (.tuple #[.pointer none, .bool false])))
theorem rrd_bad {s : ByteArray} {w w' : World} (hb : Below w.heap.size w w') (h : ∀ D, ¬ GoodD s D) : RRDPost s w (.returned (.tuple #[.pointer none, .bool false])) w' := ⟨hb, .inr ⟨h, rfl⟩⟩
set_option maxRecDepth 1000000 in
set_option maxHeartbeats 8000000 in
theorem rrdict_any (s : ByteArray) (w : World) (hs : s.size ≤ 4000) : Calls Try.prog 14 #[.string s] w (RRDPost s w) := by
  have hB0 : Below w.heap.size w w.drew := below_drew0 w
  go_enter Try.func14, Try.ntmps14
  go_wp2_with fail
  cases hv : vget s.data.toList ((0 : Nat) : Int) with
  | error c =>
    have hc0 : ((c : Int) != 0) = true := by have := vget_codes hv; simp; omega
    have HE : Hid (∀ D, ¬ GoodD s D) := Lib.hid (drat_none hv)
    have HV := Lib.hid hv
    clear hv
    refine (rg_err s ((0 : Nat) : Int) _ (by omega) HV.out).mono ?_; rintro e w' ⟨rfl, rfl⟩
    go_wp2_with fail
    refine wp_region_seq (S := fun _ => True) [(0, true), (1, true), (2, true), (3, true), (4, true), (5, true), (6, true), (7, true), (9, true), (10, true), (11, true), (8, false), (12, true), (13, true)] (by kernel_rfl) (by kernel_rfl) (by kernel_rfl) (by kernel_rfl) trivial ?_
    iterate 11 (refine seq_take _ rfl (fun K hK => ?_); go_simp; (first | refine hK _ ?_ | (refine ⟨undef, by rw [if_neg (by simp [undef])], ?_⟩; refine hK _ ?_)); clear hK K)
    refine seq_come _ rfl (fun K hK => ?_); go_simp
    (first | refine hK.out _ _ trivial ?_ | (rw [if_neg (by simp [undef])]; refine hK.out _ _ trivial ?_)); clear hK K
    iterate 2 (refine seq_take _ rfl (fun K hK => ?_); go_simp; (first | refine hK _ ?_ | (refine ⟨undef, by rw [if_neg (by simp [undef])], ?_⟩; refine hK _ ?_)); clear hK K)
    refine seq_done ?_
    go_wp2_with fail
    go_ret2
    exact rrd_bad hB0 HE.out
  | ok nq =>
  obtain ⟨n, q⟩ := nq
  obtain ⟨k1, k2, k3, _, _⟩ := vget_inv hv
  rw [show s.data.toList.length = s.size by simp] at k2
  obtain ⟨g, hg⟩ : ∃ g, decide ((vput n).length < q - 0) = g := ⟨_, rfl⟩
  have HX := Lib.hid (drat_start hv hg)
  have HG := Lib.hid hg
  have HV := Lib.hid hv
  have HEX := Lib.hid (extract_num hv)
  have hg5 := (vget_inv hv).2.2.2.2
  have hg4 := (vget_inv hv).2.2.2.1
  clear hv hg
  refine (rg_ok s ((0 : Nat) : Int) _ (by omega) HV.out).mono ?_; rintro e w' ⟨rfl, rfl⟩
  go_wp2_with fail
  have hS0 := hB0
  by_cases hbig : 20000 < n
  · have HE : Hid (∀ D, ¬ GoodD s D) := Lib.hid (fun D hD => by
      have h1 := (HX.out.good D hD).1
      have := hD.2.2
      omega)
    have hbi : decide ((n : Int) > 20000) = true := decide_eq_true (by omega)
    clear hg5 hg4
    refine wp_region_seq (S := fun _ => True) [(0, true), (1, true), (2, true), (3, true), (4, true), (5, true), (6, true), (7, true), (9, true), (10, true), (11, true), (8, false), (12, true), (13, true)] (by kernel_rfl) (by kernel_rfl) (by kernel_rfl) (by kernel_rfl) trivial ?_
    iterate 11 (refine seq_take _ rfl (fun K hK => ?_); go_simp; (first | refine hK _ ?_ | (refine ⟨undef, by rw [if_neg (by simp [undef])], ?_⟩; refine hK _ ?_)); clear hK K)
    refine seq_come _ rfl (fun K hK => ?_); go_simp
    (first | refine hK.out _ _ trivial ?_ | (rw [if_neg (by simp [undef])]; refine hK.out _ _ trivial ?_)); clear hK K
    iterate 2 (refine seq_take _ rfl (fun K hK => ?_); go_simp; (first | refine hK _ ?_ | (refine ⟨undef, by rw [if_neg (by simp [undef])], ?_⟩; refine hK _ ?_)); clear hK K)
    refine seq_done ?_
    go_wp2_with fail
    go_ret2
    exact rrd_bad hB0 HE.out
  have hbi : decide ((n : Int) > 20000) = false := decide_eq_false (by omega)
  obtain ⟨E, hE⟩ : ∃ E, s.extract 0 q = E := ⟨_, rfl⟩
  obtain ⟨V, hV⟩ : ∃ V, (⟨(vput n).toArray⟩ : ByteArray) = V := ⟨_, rfl⟩
  have HVV := Lib.hid hV
  by_cases hcan : (vput n).length = q - 0
  case neg =>
    have HE : Hid (∀ D, ¬ GoodD s D) := Lib.hid (fun D hD => by
      have h1 := (HX.out.good D hD).2.1
      rw [h1] at HG
      have := of_decide_eq_false HG.out
      omega)
    have hne : (V.toList == E.toList) = false := by
      rw [beq_eq_false_iff_ne, ByteArray.toList_eq, ByteArray.toList_eq]
      intro h
      exact hcan (HEX.out.1 (by rw [hE, hV]; exact (ByteArray.ext (Array.ext' h)).symm))
    clear hV hcan HEX hg5 hg4
    refine wp_region_seq (S := fun _ => True) [(0, true), (1, true), (2, true), (3, true), (4, true), (5, true), (6, true), (7, true), (9, true), (10, true), (11, true), (8, false), (12, true), (13, true)] (by kernel_rfl) (by kernel_rfl) (by kernel_rfl) (by kernel_rfl) trivial ?_
    iterate 11 (refine seq_take _ rfl (fun K hK => ?_); go_simp; (first | refine hK _ ?_ | (refine ⟨undef, by rw [if_neg (by simp [undef])], ?_⟩; refine hK _ ?_)); clear hK K)
    refine seq_come _ rfl (fun K hK => ?_); go_simp
    refine (rvint_at n _ (by omega)).mono ?_; rintro e w1 ⟨rfl, hb1⟩
    rw [HVV.out]
    have hS1 : Below w.heap.size w w1 := hS0.trans (hb1.mono hS0.size)
    clear hb1
    go_simp; refine hK.out _ _ trivial ?_; clear hK K
    iterate 2 (refine seq_take _ rfl (fun K hK => ?_); go_simp; (first | refine hK _ ?_ | (refine ⟨undef, by rw [if_neg (by simp [undef])], ?_⟩; refine hK _ ?_)); clear hK K)
    refine seq_done ?_
    go_wp2_with fail
    go_ret2
    exact rrd_bad hS1 HE.out
  case pos =>
  have hEV : E = V := by rw [← hE, ← hV]; exact HEX.out.2 hcan
  subst hEV
  have hq0 : q = (vput n).length := by omega
  obtain ⟨K, hK⟩ : ∃ K, s.extract q s.size = K := ⟨_, rfl⟩
  have hKd : K.data.toList = s.data.toList.drop q := by
    rw [← hK]
    have h1 := extract_mid s q (s.size - q)
    rw [show q + (s.size - q) = s.size by omega] at h1
    rw [h1]
    exact List.take_of_length_le (by simp)
  have hKs : K.size ≤ 4000 := by rw [← hK, ByteArray.size_extract]; omega
  have HTK : Hid (s.data.toList = vput n ++ K.data.toList) := Lib.hid (by
    rw [hKd]
    have h1 := hg5 hcan
    simp only [List.take_zero, List.nil_append] at h1
    rw [← h1, List.take_append_drop])
  have HGP : Hid (∀ D, GoodD s D → K.data.toList = encs D ∧ n = D.length) := Lib.hid (fun D hD => by
    have h1 := (HX.out.good D hD).1
    refine ⟨?_, h1⟩
    rw [hKd, hq0, h1]
    exact good_parts hD)
  clear hV hcan HEX hg5 hg4 hq0 hKd
  refine wp_region_seq (S := fun _ => True) [(0, true), (1, true), (2, true), (3, true), (4, true), (5, true), (6, true), (7, true), (9, true), (10, true), (11, true), (8, false), (12, true), (13, true)] (by kernel_rfl) (by kernel_rfl) (by kernel_rfl) (by kernel_rfl) trivial ?_
  iterate 11 (refine seq_take _ rfl (fun K hK => ?_); go_simp; (first | refine hK _ ?_ | (refine ⟨undef, by rw [if_neg (by simp [undef])], ?_⟩; refine hK _ ?_)); clear hK K)
  refine seq_come _ rfl (fun K hK => ?_); go_simp
  refine (rvint_at n _ (by omega)).mono ?_; rintro e w1 ⟨rfl, hb1⟩
  rw [HVV.out]
  have hS1 : Below w.heap.size w w1 := hS0.trans (hb1.mono hS0.size)
  clear hb1
  go_simp; refine hK.out _ _ trivial ?_; clear hK K
  iterate 2 (refine seq_take _ rfl (fun K hK => ?_); go_simp; (first | refine hK _ ?_ | (refine ⟨undef, by rw [if_neg (by simp [undef])], ?_⟩; refine hK _ ?_)); clear hK K)
  refine seq_done ?_
  have HB1 := Lib.hid hS1
  clear hS1 hS0 hB0
  go_wp2_with fail
  refine (rparts_any K _ (by omega)).mono ?_; rintro e w2 ⟨hb2, ⟨L, hL, ao, cap, rfl, HS2⟩ | ⟨hno, rfl⟩⟩
  case inr =>
    have HB2 := Lib.hid (dstepd HB1.out hb2)
    have HE : Hid (∀ D, ¬ GoodD s D) := Lib.hid (fun D hD => hno D (HGP.out D hD).1)
    clear hb2 hno
    go_wp2_with fail
    go_ret2
    exact rrd_bad HB2.out HE.out
  have HB2 := Lib.hid (dstepd HB1.out hb2)
  have hLb := encs_length L
  have hLs : (encs L).length ≤ 4000 := by rw [← hL]; simpa using hKs
  have HU : Hid (∀ D, GoodD s D → D = L ∧ n = L.length) := Lib.hid (fun D hD => by
    obtain ⟨h1, h2⟩ := HGP.out D hD
    rw [hL] at h1
    have := encs_inj L D (by omega) h1
    subst this
    exact ⟨rfl, h2⟩)
  have HML : Hid (∀ t ∈ L, t.length ≤ 4000) := Lib.hid (fun t ht => by have := encs_mem ht; omega)
  have HLL := Lib.hid hL
  clear hb2 hL
  by_cases hln : L.length = n
  case neg =>
    have HE : Hid (∀ D, ¬ GoodD s D) := Lib.hid (fun D hD => hln (HU.out D hD).2.symm)
    have hne : ((L.length : Int) != (n : Int)) = true := by simp; omega
    go_wp2_with fail
    go_ret2
    exact rrd_bad HB2.out HE.out
  case pos =>
  have hne : ((L.length : Int) != (n : Int)) = false := by simp; omega
  have HLN := Lib.hid hln
  clear hln
  go_wp2_with fail
  have HBn := Lib.hid (dstepd HB2.out (below_new0 w2 (.cells #[.slice none 0 0] 44)))
  have HDn := Lib.hid (dref_new w2)
  obtain ⟨p, hp⟩ : ∃ p, w2.heap.size = p := ⟨_, rfl⟩
  have HWP : Hid (w.heap.size ≤ p) := Lib.hid (by have := HB2.out.size; omega)
  have HSn := Lib.hid (HS2.out.below (below_new0 w2 (.cells #[.slice none 0 0] 44)))
  obtain ⟨w3, hw3⟩ : ∃ w3, w2.alloc (.cells #[.slice none 0 0] 44) = w3 := ⟨_, rfl⟩
  rw [hw3] at HBn HDn HSn ⊢
  rw [hp] at HDn ⊢
  have HP3 : Hid (w2.heap.size = p) := Lib.hid hp
  clear hw3 hp
  go_loopg [10] L.length (fun k i wr => ∃ (j : Nat), j + k = L.length ∧ i = .int .i64 j ∧ Hid ((L.take j).Nodup) ∧ Hid (DRefAt wr p (L.take j)) ∧ Hid (Strs wr ao L) ∧ Below w.heap.size w wr)
  case atStart => exact ⟨0, by omega, rfl, Lib.hid (by simp), HDn, HSn, HBn.out⟩
  case round =>
    obtain ⟨j, hj, rfl, HND, HD, HSr, hbr⟩ := hrel
    have HB := Lib.hid hbr
    have HJ := Lib.hid hj
    clear hbr hj
    by_cases hlt : j < L.length
    · obtain ⟨gb, off, rfl, hg1, hcell⟩ := HSr.out.at hlt
      obtain ⟨t, ht⟩ : ∃ t, L[j] = t := ⟨_, rfl⟩
      rw [ht] at hcell
      have htk : L.take (j + 1) = L.take j ++ [t] := by rw [List.take_succ_eq_append_getElem hlt, ht]
      have hi1 : (j : Int) < (L.length : Int) := by omega
      obtain ⟨X, hX⟩ : ∃ X : ByteArray, (⟨t.toArray⟩ : ByteArray) = X := ⟨_, rfl⟩
      have hXV : strV t = .string X := by unfold strV; rw [hX]
      rw [hXV] at hcell
      have HXV := Lib.hid hXV
      have HTK2 := Lib.hid htk
      have hlenj : (L.take j).length = j := by rw [List.length_take]; omega
      have HLJ := Lib.hid hlenj
      clear ht htk hX hXV hlenj
      go_wp2_with fail
      rw [← HXV.out]
      refine (rdadd_any p (L.take j) t _ HD (by rw [HLJ.out]; omega)).mono ?_; rintro e w4 (⟨i, hi, rfl, hb4⟩ | ⟨hni, rfl, HD4, hb4⟩)
      · have hil : i < j := by obtain ⟨h8, _⟩ := List.getElem?_eq_some_iff.1 hi; rw [HLJ.out] at h8; exact h8
        have HE : Hid (∀ D, ¬ GoodD s D) := Lib.hid (fun D hD => by
          have h1 := (HU.out D hD).1
          have h2 := hD.2.1
          rw [h1] at h2
          have h3 : (L.take (j + 1)).Nodup := h2.sublist (List.take_sublist _ _)
          rw [HTK2.out] at h3
          have h4 := (List.nodup_append.1 h3).2.2 t (List.mem_of_getElem? hi) t (by simp)
          exact h4 rfl)
        have hne2 : ((i : Int) != (j : Int)) = true := by simp; omega
        have HB4 := Lib.hid (dstepd HB.out hb4)
        clear hi hb4
        go_wp2_with fail
        go_ret2
        exact rrd_bad HB4.out HE.out
      · rw [HLJ.out]
        have hne2 : ((j : Int) != (j : Int)) = false := by simp
        have HB4 := Lib.hid (HB.out.trans (hb4.mono HWP.out))
        have HND4 : Hid ((L.take (j + 1)).Nodup) := Lib.hid (by
          rw [HTK2.out]
          exact List.nodup_append.2 ⟨HND.out, by simp, fun x hx y hy e => hni (by rw [List.mem_singleton] at hy; rw [← hy, ← e]; exact hx)⟩)
        have HD5 : Hid (DRefAt w4 p (L.take (j + 1))) := Lib.hid (by rw [HTK2.out]; exact HD4.out)
        have HS4 : Hid (Strs w4 (some ⟨gb, off, none⟩) L) := Lib.hid (by
          have hgp : gb < p := by
            obtain ⟨g2, off2, h10, h11, _⟩ := HS2.out.at hlt
            simp only [Option.some.injEq, Addr.mk.injEq, and_true] at h10
            obtain ⟨rfl, rfl⟩ := h10
            have := HP3.out
            omega
          intro hnn
          obtain ⟨g3, off3, h10, h11, h12⟩ := HSr.out hnn
          simp only [Option.some.injEq, Addr.mk.injEq, and_true] at h10
          obtain ⟨rfl, rfl⟩ := h10
          exact ⟨gb, off, rfl, Nat.lt_of_lt_of_le h11 (by have := hb4.size; exact this), fun m hm => (hb4.cell (p := ⟨gb, off + m, none⟩) hgp).trans (h12 m hm)⟩)
        clear hb4 hni
        go_wp2_with fail
        have hj := HJ.out
        go_roundg (gk - 1)
        case measure => omega
        case rel => exact ⟨j + 1, by omega, by simp, HND4, HD5, HS4, HB4.out⟩
    · have hjl : j = L.length := by have := HJ.out; omega
      have HGD : Hid (GoodD s L) := Lib.hid (by
        refine ⟨?_, by have := HND.out; rw [hjl, List.take_length] at this; exact this, by have := HLN.out; omega⟩
        rw [HTK.out, HLL.out, ← HLN.out]; rfl)
      have HD6 : Hid (DRefAt wr p L) := Lib.hid (by have := HD.out; rw [hjl, List.take_length] at this; exact this)
      clear hjl
      go_wp2_with fail
      go_ret2
      exact ⟨HB.out, .inl ⟨L, HGD.out, p, rfl, HD6⟩⟩
end Go.Proofs.Ytihoemimiplhfaa
