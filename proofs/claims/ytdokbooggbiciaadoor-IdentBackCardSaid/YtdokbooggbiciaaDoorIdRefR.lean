/-
  hygref18.Parts.
-/
import Derived.Test.YtdokbooggbiciaaDoorEnc
import Derived.Test.YtdokbooggbiciaaDoorIdStrict
import Derived.Test.YtdokbooggbiciaaDoorRVint
import Derived.Test.YtdokbooggbiciaaDoorRefGet2
namespace Go.Proofs.YtdokbooggbiciaaDoor
open Go.RowKit

/-- as Parts goes on -/
structure PRAt (s : ByteArray) (j : Nat) (out : List (List UInt8)) (q : Nat) : Prop where
  len : out.length = j
  le : q ≤ s.size
  jq : j ≤ q
  at_ : s.data.toList.take q = encs out
  good : ∀ L, s.data.toList = encs L → out = L.take j ∧ q = (encs (L.take j)).length
theorem prat_start (s : ByteArray) : PRAt s 0 [] 0 := ⟨rfl, by omega, by omega, by simp [encs], fun L _ => ⟨rfl, by simp [encs]⟩⟩
theorem prat_len {s : ByteArray} : s.data.toList.length = s.size := by simp
theorem prat_more {s : ByteArray} {j q : Nat} {out : List (List UInt8)} (hs : s.size ≤ 1000000000) (h : PRAt s j out q) (hq : q < s.size) {L : List (List UInt8)} (hL : s.data.toList = encs L) : ∃ hl : j < L.length, vget s.data.toList (q : Int) = .ok (L[j].length, q + (vput L[j].length).length) ∧ q + (vput L[j].length).length + L[j].length ≤ s.size ∧ (s.data.toList.drop (q + (vput L[j].length).length)).take L[j].length = L[j] := by
  obtain ⟨h3, h4⟩ := h.good L hL
  have hlen := @prat_len s
  have hl : j < L.length := by
    rcases Nat.lt_or_ge j L.length with hl | hl
    · exact hl
    · rw [List.take_of_length_le hl, ← hL, hlen] at h4
      omega
  have he := encs_split hl
  rw [← hL] at he
  have hsz := congrArg List.length he
  rw [hlen] at hsz
  simp only [List.length_append] at hsz
  refine ⟨hl, ?_, by omega, ?_⟩
  · have := vget_mid (l := s.data.toList) (n := L[j].length) (by omega) he
    rw [← h4] at this
    exact this
  · rw [he, ← List.append_assoc, List.drop_append_of_le_length (by simp only [List.length_append]; omega), List.drop_of_length_le (by simp only [List.length_append]; omega)]
    simp
theorem prat_err {s : ByteArray} {j q c : Nat} {out : List (List UInt8)} (hs : s.size ≤ 1000000000) (h : PRAt s j out q) (hq : q < s.size) (hv : vget s.data.toList (q : Int) = .error c) (L : List (List UInt8)) : s.data.toList ≠ encs L := fun hL => by
  obtain ⟨hl, h2, _⟩ := prat_more hs h hq hL
  rw [hv] at h2; simp at h2
theorem prat_over {s : ByteArray} {j q n qn : Nat} {out : List (List UInt8)} (hs : s.size ≤ 1000000000) (h : PRAt s j out q) (hq : q < s.size) (hv : vget s.data.toList (q : Int) = .ok (n, qn)) (ho : s.size - qn < n) (L : List (List UInt8)) : s.data.toList ≠ encs L := fun hL => by
  obtain ⟨hl, h2, h3, _⟩ := prat_more hs h hq hL
  rw [hv] at h2
  simp only [Except.ok.injEq, Prod.mk.injEq] at h2
  omega
/-- the number's bytes, as they stand there: are they the fewest? -/
theorem extract_num {s : ByteArray} {q n qn : Nat} (hv : vget s.data.toList (q : Int) = .ok (n, qn)) : (s.extract q qn = ⟨(vput n).toArray⟩ ↔ (vput n).length = qn - q) := by
  obtain ⟨g1, g2, g3, g4, g5⟩ := vget_inv hv
  have hlen := @prat_len s
  have hx : (s.extract q qn).data.toList = (s.data.toList.drop q).take (qn - q) := by
    have := extract_mid s q (qn - q)
    rw [show q + (qn - q) = qn by omega] at this
    rw [this]
  refine ⟨fun h => ?_, fun h => ?_⟩
  · rw [h] at hx
    have := congrArg List.length hx
    simp only [List.length_take, List.length_drop] at this
    rw [hlen] at this g2
    omega
  · apply ByteArray.ext
    apply Array.ext'
    rw [hx]
    have h1 := g5 h
    have h2 : (s.data.toList.take qn).drop q = vput n := by
      rw [h1, List.drop_append_of_le_length (by rw [List.length_take]; omega), List.drop_of_length_le (by rw [List.length_take]; omega)]
      simp
    rw [List.drop_take] at h2
    exact h2
theorem prat_form {s : ByteArray} {j q n qn : Nat} {out : List (List UInt8)} (hs : s.size ≤ 1000000000) (h : PRAt s j out q) (hq : q < s.size) (hv : vget s.data.toList (q : Int) = .ok (n, qn)) (ho : (vput n).length ≠ qn - q) (L : List (List UInt8)) : s.data.toList ≠ encs L := fun hL => by
  obtain ⟨hl, h2, h3, _⟩ := prat_more hs h hq hL
  rw [hv] at h2
  simp only [Except.ok.injEq, Prod.mk.injEq] at h2
  obtain ⟨rfl, rfl⟩ := h2
  omega
theorem prat_next {s : ByteArray} {j q n qn : Nat} {out : List (List UInt8)} (hs : s.size ≤ 1000000000) (h : PRAt s j out q) (hq : q < s.size) (hv : vget s.data.toList (q : Int) = .ok (n, qn)) (ho : n ≤ s.size - qn) (hc : (vput n).length = qn - q) {t : List UInt8} (ht : (s.data.toList.drop qn).take n = t) : PRAt s (j + 1) (out ++ [t]) (qn + n) := by
  obtain ⟨g1, g2, g3, g4, g5⟩ := vget_inv hv
  have hlen := @prat_len s
  have htl : t.length = n := by rw [← ht, List.length_take, List.length_drop]; omega
  refine ⟨by simp [h.len], by omega, by have := h.jq; omega, ?_, fun L hL => ?_⟩
  · rw [List.take_add, g5 hc, h.at_, ht, encs_snoc, htl]
  · obtain ⟨hl, h2, h3, h4⟩ := prat_more hs h hq hL
    obtain ⟨f3, f4⟩ := h.good L hL
    rw [hv] at h2
    simp only [Except.ok.injEq, Prod.mk.injEq] at h2
    obtain ⟨rfl, rfl⟩ := h2
    rw [h4] at ht
    refine ⟨by rw [f3, List.take_succ_eq_append_getElem hl, ht], ?_⟩
    rw [encs_take hl, f4]
    simp only [List.length_append]
def RPPost (s : ByteArray) (w : World) (e : Ending) (w' : World) : Prop :=
  Below w.heap.size w w' ∧ ((∃ L, s.data.toList = encs L ∧ ∃ ao cap, e = .returned (.tuple #[.slice ao L.length cap, .bool true]) ∧ Hid (Strs w' ao L)) ∨ ((∀ L, s.data.toList ≠ encs L) ∧ e = .returned (.tuple #[.slice none 0 0, .bool false])))
theorem rp_bad {s : ByteArray} {w w' : World} (hb : Below w.heap.size w w') (h : ∀ L, s.data.toList ≠ encs L) : RPPost s w (.returned (.tuple #[.slice none 0 0, .bool false])) w' := ⟨hb, .inr ⟨h, rfl⟩⟩
set_option maxRecDepth 1000000 in
set_option maxHeartbeats 8000000 in
theorem rparts_any (s : ByteArray) (w : World) (hs : s.size ≤ 100000) : Calls Tryd.prog 8 #[.string s] w (RPPost s w) := by
  go_enter Tryd.func8, Tryd.ntmps8
  go_wp2_with fail
  go_loopg [4, 5] s.size (fun k v i wr => ∃ (j q : Nat) (out : List (List UInt8)), q + k = s.size ∧ i = .int .i64 q ∧ Hid (PRAt s j out q) ∧ wr.ownsRow w.heap.size 9 1 v j (out.map strV) ∧ Below w.heap.size w wr)
  case atStart => exact ⟨0, 0, [], by omega, rfl, Lib.hid (prat_start s), World.ownsRow_nil _ _ _ _, Below.refl _ _⟩
  case round =>
    obtain ⟨j, q, out, hqk, rfl, HX, hown, hbr⟩ := hrel
    obtain ⟨ao, cap, rfl⟩ := own_slice hown
    have HB := Lib.hid hbr
    have HQ := Lib.hid hqk
    have hbs : w.heap.size ≤ wr.heap.size := hbr.size
    have hj := HX.out.jq
    clear hbr hqk
    by_cases hlt : q < s.size
    · have hi1 : (q : Int) < (s.size : Int) := by omega
      cases hv : vget s.data.toList (q : Int) with
      | error c =>
        have hc0 : ((c : Int) != 0) = true := by have := vget_codes hv; simp; omega
        have HE : Hid (∀ L, s.data.toList ≠ encs L) := Lib.hid (prat_err (by omega) HX.out hlt hv)
        have HV := Lib.hid hv
        clear hv hown
        go_wp2_with fail
        refine (rg_err s q _ (by omega) HV.out).mono ?_; rintro e w' ⟨rfl, rfl⟩
        go_wp2_with fail
        refine wp_region_seq (S := fun _ => True) [(0, true), (1, true), (2, true), (3, true), (4, true), (5, true), (6, true), (7, true), (8, true), (9, true), (10, true), (11, true), (12, true), (14, true), (15, true), (16, true), (17, true), (13, false), (18, true), (19, true)] (by kernel_rfl) (by kernel_rfl) (by kernel_rfl) (by kernel_rfl) trivial ?_
        iterate 17 (refine seq_take _ rfl (fun K hK => ?_); go_simp; (first | refine hK _ ?_ | (refine ⟨undef, by rw [if_neg (by simp [undef])], ?_⟩; refine hK _ ?_)); clear hK K)
        refine seq_come _ rfl (fun K hK => ?_); go_simp
        (first | refine hK.out _ _ trivial ?_ | (rw [if_neg (by simp [undef])]; refine hK.out _ _ trivial ?_)); clear hK K
        iterate 2 (refine seq_take _ rfl (fun K hK => ?_); go_simp; (first | refine hK _ ?_ | (refine ⟨undef, by rw [if_neg (by simp [undef])], ?_⟩; refine hK _ ?_)); clear hK K)
        refine seq_done ?_
        have HB2 := Lib.hid (HB.out.trans ((below_drew0 wr).mono hbs))
        go_wp2_with fail
        go_ret2
        exact rp_bad HB2.out HE.out
      | ok nq =>
      obtain ⟨n, qn⟩ := nq
      obtain ⟨k1, k2, k3, _, _⟩ := vget_inv hv
      rw [show s.data.toList.length = s.size by simp] at k2
      have HV := Lib.hid hv
      obtain ⟨rem, hrem⟩ : ∃ rem, s.size - qn = rem := ⟨_, rfl⟩
      have hri : (s.size : Int) - (qn : Int) = (rem : Int) := by omega
      have hr9 : rem ≤ 1000000000 := by omega
      have hwr : IntKind.i64.wrap (rem : Int) = (rem : Int) := i64_wrap_id (by omega) (by omega)
      have hwr2 : IntKind.u64.wrap (rem : Int) = (rem : Int) := by rw [IntKind.wrap_u64]; omega
      have HREM := Lib.hid hrem
      have HEX := Lib.hid (extract_num hv)
      clear hv hrem
      go_wp2_with fail
      refine (rg_ok s q _ (by omega) HV.out).mono ?_; rintro e w' ⟨rfl, rfl⟩
      go_wp2_with fail
      have hS0 : Below w.heap.size w wr.drew := HB.out.trans ((below_drew0 wr).mono hbs)
      by_cases hov : rem < n
      · have HE : Hid (∀ L, s.data.toList ≠ encs L) := Lib.hid (prat_over (by omega) HX.out hlt HV.out (by have := HREM.out; omega))
        refine wp_region_seq (S := fun _ => True) [(0, true), (1, true), (2, true), (3, true), (4, true), (5, true), (6, true), (7, true), (8, true), (9, true), (10, true), (11, true), (12, true), (14, true), (15, true), (16, true), (17, true), (13, false), (18, true), (19, true)] (by kernel_rfl) (by kernel_rfl) (by kernel_rfl) (by kernel_rfl) trivial ?_
        iterate 17 (refine seq_take _ rfl (fun K hK => ?_); go_simp; (first | refine hK _ ?_ | (refine ⟨undef, by rw [if_neg (by simp [undef])], ?_⟩; refine hK _ ?_)); clear hK K)
        refine seq_come _ rfl (fun K hK => ?_); go_simp
        (first | refine hK.out _ _ trivial ?_ | (rw [if_neg (by simp [undef])]; refine hK.out _ _ trivial ?_)); clear hK K
        iterate 2 (refine seq_take _ rfl (fun K hK => ?_); go_simp; (first | refine hK _ ?_ | (refine ⟨undef, by rw [if_neg (by simp [undef])], ?_⟩; refine hK _ ?_)); clear hK K)
        refine seq_done ?_
        go_wp2_with fail
        go_ret2
        exact rp_bad hS0 HE.out
      have hn9 : n ≤ 100000 := by have := HREM.out; omega
      have hqq : q ≤ qn := by omega
      obtain ⟨E, hE⟩ : ∃ E, s.extract q qn = E := ⟨_, rfl⟩
      obtain ⟨V, hV⟩ : ∃ V, (⟨(vput n).toArray⟩ : ByteArray) = V := ⟨_, rfl⟩
      have HVV := Lib.hid hV
      by_cases hcan : (vput n).length = qn - q
      · have hEV : E = V := by rw [← hE, ← hV]; exact HEX.out.2 hcan
        subst hEV
        have HCAN := Lib.hid hcan
        clear hV hcan HEX
        refine wp_region_seq (S := fun _ => True) [(0, true), (1, true), (2, true), (3, true), (4, true), (5, true), (6, true), (7, true), (8, true), (9, true), (10, true), (11, true), (12, true), (14, true), (15, true), (16, true), (17, true), (13, false), (18, true), (19, true)] (by kernel_rfl) (by kernel_rfl) (by kernel_rfl) (by kernel_rfl) trivial ?_
        iterate 17 (refine seq_take _ rfl (fun K hK => ?_); go_simp; (first | refine hK _ ?_ | (refine ⟨undef, by rw [if_neg (by simp [undef])], ?_⟩; refine hK _ ?_)); clear hK K)
        refine seq_come _ rfl (fun K hK => ?_); go_simp
        refine (rvint_at n _ (by omega)).mono ?_; rintro e w1 ⟨rfl, hb1⟩
        rw [HVV.out]
        have hS1 : Below w.heap.size w w1 := hS0.trans (hb1.mono hS0.size)
        have hown1 : w1.ownsRow w.heap.size 9 1 (.slice ao j cap) j (out.map strV) := (Upd.of_new (S := fun _ => False) hb1).own hown.drew (fun _ _ h => h)
        clear hb1
        go_simp; refine hK.out _ _ trivial ?_; clear hK K
        iterate 2 (refine seq_take _ rfl (fun K hK => ?_); go_simp; (first | refine hK _ ?_ | (refine ⟨undef, by rw [if_neg (by simp [undef])], ?_⟩; refine hK _ ?_)); clear hK K)
        refine seq_done ?_
        have HB1 := Lib.hid hS1
        have hbs1 : w.heap.size ≤ w1.heap.size := HB1.out.size
        obtain ⟨t, ht⟩ : ∃ t, (s.data.toList.drop qn).take n = t := ⟨_, rfl⟩
        obtain ⟨q2, hq2⟩ : ∃ q2, qn + n = q2 := ⟨_, rfl⟩
        have HX2 : Hid (PRAt s (j + 1) (out ++ [t]) q2) := Lib.hid (by have := prat_next (by omega) HX.out hlt HV.out (by have := HREM.out; omega) HCAN.out ht; rw [hq2] at this; exact this)
        have hT : s.extract qn q2 = ⟨t.toArray⟩ := by rw [← hq2, extract_mid, ht]
        have hqi : (qn : Int) + (n : Int) = (q2 : Int) := by omega
        have hq2s : q2 ≤ s.size := HX2.out.le
        have hqn2 : qn ≤ q2 := by omega
        have HQ2 := Lib.hid hq2
        have hwn : IntKind.i64.wrap (n : Int) = (n : Int) := i64_wrap_id (by omega) (by omega)
        clear hS1 hS0 ht hq2 hown
        go_wp2_with (at_builtin; refine wpList_app1 (c := 1) (cs := [.string ⟨t.toArray⟩]) rfl _ _ 22 rfl Tryd.elStr (by decide) hown1 rfl (by show Value.slice (some ⟨w1.heap.size, 0, none⟩) 1 1 = _; simp) rfl (by simp [Value.oneCell']) (by unfold maxLen; omega) (by omega) hbs1 ?_; intro v' w2 hown2 hgrow)
        have HB2 : Hid (Below w.heap.size w w2) := Lib.hid (HB1.out.grown hgrow hbs1 (fun k hk => (hown1.lt _ hk).1))
        have HO2 : Hid (w2.ownsRow w.heap.size 9 1 v' (j + 1) ((out ++ [t]).map strV)) := Lib.hid (by rw [List.map_append]; exact hown2)
        clear hown1 hown2 hgrow
        go_wp2_with fail
        have hqk := HQ.out
        have hq2 := HQ2.out
        go_roundg (s.size - q2)
        case measure => omega
        case rel => exact ⟨j + 1, q2, out ++ [t], by omega, rfl, HX2, HO2.out, HB2.out⟩
      · have HE : Hid (∀ L, s.data.toList ≠ encs L) := Lib.hid (prat_form (by omega) HX.out hlt HV.out hcan)
        have hne : (V.toList == E.toList) = false := by
          rw [beq_eq_false_iff_ne, ByteArray.toList_eq, ByteArray.toList_eq]
          intro h
          exact hcan (HEX.out.1 (by rw [hE, hV]; exact (ByteArray.ext (Array.ext' h)).symm))
        clear hV hcan HEX hown
        refine wp_region_seq (S := fun _ => True) [(0, true), (1, true), (2, true), (3, true), (4, true), (5, true), (6, true), (7, true), (8, true), (9, true), (10, true), (11, true), (12, true), (14, true), (15, true), (16, true), (17, true), (13, false), (18, true), (19, true)] (by kernel_rfl) (by kernel_rfl) (by kernel_rfl) (by kernel_rfl) trivial ?_
        iterate 17 (refine seq_take _ rfl (fun K hK => ?_); go_simp; (first | refine hK _ ?_ | (refine ⟨undef, by rw [if_neg (by simp [undef])], ?_⟩; refine hK _ ?_)); clear hK K)
        refine seq_come _ rfl (fun K hK => ?_); go_simp
        refine (rvint_at n _ (by omega)).mono ?_; rintro e w1 ⟨rfl, hb1⟩
        rw [HVV.out]
        have hS1 : Below w.heap.size w w1 := hS0.trans (hb1.mono hS0.size)
        clear hb1
        go_simp; refine hK.out _ _ trivial ?_; clear hK K
        iterate 2 (refine seq_take _ rfl (fun K hK => ?_); go_simp; (first | refine hK _ ?_ | (refine ⟨undef, by rw [if_neg (by simp [undef])], ?_⟩; refine hK _ ?_)); clear hK K)
        refine seq_done ?_
        go_wp2_with fail
        go_ret2
        exact rp_bad hS1 HE.out
    · have hqe : q = s.size := by have := HX.out.le; omega
      have HL : Hid (s.data.toList = encs out) := Lib.hid (by have := HX.out.at_; rw [List.take_of_length_le (by simp; omega)] at this; exact this)
      have hjl := HX.out.len
      subst hjl
      have HS : Hid (Strs wr ao out) := Lib.hid (strs_of_own hown)
      clear hown hqe
      go_wp2_with fail
      go_ret2
      exact ⟨HB.out, .inl ⟨out, HL.out, ao, cap, rfl, HS⟩⟩
end Go.Proofs.YtdokbooggbiciaaDoor
