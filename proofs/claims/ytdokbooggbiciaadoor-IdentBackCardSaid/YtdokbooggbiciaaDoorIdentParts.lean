/-
  hyglaw19.IdentParts.
-/
import Derived.Test.YtdokbooggbiciaaDoorIdLaw0
namespace Go.Proofs.YtdokbooggbiciaaDoor
open Go.RowKit

theorem capSum_mem {l : List (List UInt8)} {t : List UInt8} (h : t ∈ l) : min t.length 20001 ≤ capSum l := by
  obtain ⟨a, b, rfl⟩ := List.append_of_mem h
  simp only [capSum, List.map_append, List.map_cons, List.sum_append, List.sum_cons]
  omega
theorem encs_cap : ∀ (l : List (List UInt8)), (∀ t ∈ l, t.length ≤ 20000) → (encs l).length ≤ capSum l + 10 * l.length
  | [], _ => by simp [encs]
  | t :: l, h => by
    have h1 := encs_cap l (fun x hx => h x (List.mem_cons_of_mem _ hx))
    have h2 := h t (List.mem_cons_self ..)
    have h3 := (vput_length t.length).2
    have e : encs (t :: l) = vput t.length ++ (t ++ encs l) := by simp [encs, encT]
    rw [e]
    simp only [capSum, List.map_cons, List.sum_cons, List.length_cons, List.length_append] at *
    omega
/-- few and short: how much there is -/
structure FewIn (l : List (List UInt8)) : Prop where
  few : fewB l = true
  le : l.length ≤ 200
  each : ∀ t ∈ l, t.length ≤ 20000
  sum : (encs l).length ≤ 22000
theorem few_in {l : List (List UInt8)} (h : fewB l = true) : FewIn l := by
  have h0 := h
  unfold fewB at h0
  simp only [Bool.and_eq_true, decide_eq_true_eq] at h0
  obtain ⟨h1, h2⟩ := h0
  rw [List.take_of_length_le h1] at h2
  have h3 : ∀ t ∈ l, t.length ≤ 20000 := fun t ht => by have := capSum_mem ht; omega
  have := encs_cap l h3
  exact ⟨h, h1, h3, by omega⟩
set_option maxRecDepth 1000000 in
set_option maxHeartbeats 8000000 in
theorem ident_few (ao : Option Addr) (cap : Nat) (l : List (List UInt8)) (s : ByteArray) (w : World) (hg : Glob w) (hN : Strs w ao l) (hm : l.length ≤ 9223372036854775807) (hlt : Hid (∀ t ∈ l, t.length ≤ 9223372036854775807)) (hs : s.size ≤ 9223372036854775807) (hr : fewB l = false ∨ 4000 < s.size) :
    Calls Tryd.prog 3 #[.slice ao l.length cap, .string s] w fun e w' => e = .returned (.bool true) ∧ Below w.heap.size w w' := by
  have HN := Lib.hid hN
  have HG := Lib.hid hg
  clear hN hg
  go_enter Tryd.func3, Tryd.ntmps3
  go_wp2_with fail
  refine (first19 w HG.out).mono ?_; rintro e w1 ⟨rfl, hb1⟩
  have HB1 := Lib.hid hb1
  clear hb1
  obtain ⟨g, hgg⟩ : ∃ g, fewB l = g := ⟨_, rfl⟩
  have HR := Lib.hid hgg
  go_wp2_with fail
  refine (few_any ao cap l _ (HN.out.below HB1.out) hm hlt HR).mono ?_; rintro e w2 ⟨rfl, hb2⟩
  have HB2 := Lib.hid (dstepd HB1.out hb2)
  clear hb2
  cases g with
  | false =>
    clear hr hgg
    go_wp2_with fail
    refine (first19 _ (HG.out.below HB2.out)).mono ?_; rintro e w3 ⟨rfl, hb3⟩
    have HB3 := Lib.hid (dstepd HB2.out hb3)
    clear hb3
    go_wp2_with fail
    go_ret
    exact ⟨rfl, HB3.out⟩
  | true =>
    have hs4 : 4000 < s.size := by
      rcases hr with h | h
      · rw [hgg] at h; cases h
      · exact h
    have d1 : decide ((s.size : Int) > 4000) = true := decide_eq_true (by omega)
    clear hr hgg
    go_wp2_with fail
    refine (first19 _ (HG.out.below HB2.out)).mono ?_; rintro e w3 ⟨rfl, hb3⟩
    have HB3 := Lib.hid (dstepd HB2.out hb3)
    clear hb3
    go_wp2_with fail
    go_ret
    exact ⟨rfl, HB3.out⟩
set_option maxRecDepth 1000000 in
set_option maxHeartbeats 8000000 in
theorem ident_walk (ao : Option Addr) (cap : Nat) (l : List (List UInt8)) (s : ByteArray) (w : World) (hg : Glob w) (hN : Strs w ao l) (hin : Hid (FewIn l)) (hs : s.size ≤ 4000) :
    Calls Tryd.prog 3 #[.slice ao l.length cap, .string s] w fun e w' => e = .returned (.bool true) ∧ Below w.heap.size w w' := by
  have HN := Lib.hid hN
  have HG := Lib.hid hg
  have hl3 := hin.out.le
  have HLT : Hid (∀ t ∈ l, t.length ≤ 9223372036854775807) := Lib.hid (fun t ht => by have := hin.out.each t ht; omega)
  have HR := Lib.hid hin.out.few
  have d1 : decide ((s.size : Int) > 4000) = false := decide_eq_false (by omega)
  clear hN hg
  go_enter Tryd.func3, Tryd.ntmps3
  go_wp2_with fail
  refine (first19 w HG.out).mono ?_; rintro e w1 ⟨rfl, hb1⟩
  have HB1 := Lib.hid hb1
  clear hb1
  go_wp2_with fail
  refine (few_any ao cap l _ (HN.out.below HB1.out) (by omega) HLT HR).mono ?_; rintro e w2 ⟨rfl, hb2⟩
  have HB2 := Lib.hid (dstepd HB1.out hb2)
  clear hb2
  go_wp2_with fail
  refine (iparts_any s _ (by omega)).mono ?_; intro e w3 hpost
  obtain ⟨hb3, hcase⟩ := hpost
  have HB3 := Lib.hid (dstepd HB2.out hb3)
  clear hb3
  obtain ⟨T, hT⟩ : ∃ T, encs l = T := ⟨_, rfl⟩
  have HT := Lib.hid hT
  have HSUM := Lib.hid hin.out.sum
  clear hT
  rcases hcase with ⟨L, hL, ao3, cap3, rfl, HS3⟩ | ⟨hno, x, rfl⟩
  · have HL := Lib.hid hL
    have hLl : L.length ≤ 4000 := by
      have := encs_length L
      rw [← hL] at this
      simp at this
      omega
    clear hL
    go_wp2_with fail
    refine (rparts_any s _ (by omega)).mono ?_; intro e w4 hpost
    obtain ⟨hb4, hcase⟩ := hpost
    have HB4 := Lib.hid (dstepd HB3.out hb4)
    have HS4 := Lib.hid (HS3.out.below hb4)
    clear hb4
    rcases hcase with ⟨L2, hL2, ao4, cap4, rfl, HT4⟩ | ⟨hno, _⟩
    case inr => exact absurd HL.out (hno L)
    have hEq : L2 = L := encs_inj L2 L (by rw [← hL2]; simp; omega) (by rw [← hL2, ← HL.out])
    subst hEq
    clear hL2
    go_wp2_with fail
    refine (first19 _ (HG.out.below HB4.out)).mono ?_; rintro e w5 ⟨rfl, hb5⟩
    have HB5 := Lib.hid (dstepd HB4.out hb5)
    have HS5 := Lib.hid (HS4.out.below hb5)
    have HT5 := Lib.hid (HT4.out.below hb5)
    clear hb5
    go_wp2_with fail
    refine (ijoin_any ao cap l _ (Lib.hid (HN.out.below HB5.out)) (by omega) (by have := HSUM.out; omega) HT).mono ?_; rintro e w6 ⟨rfl, hb6⟩
    have HB6 := Lib.hid (dstepd HB5.out hb6)
    have HS6 := Lib.hid (HS5.out.below hb6)
    have HT6 := Lib.hid (HT5.out.below hb6)
    clear hb6
    go_wp2_with fail
    refine (rjoin_any ao cap l _ (HN.out.below HB6.out) (by omega) (by have := HSUM.out; omega)).mono ?_; rintro e w7 ⟨rfl, hb7⟩
    rw [HT.out]
    have HB7 := Lib.hid (dstepd HB6.out hb7)
    have HS7 := Lib.hid (HS6.out.below hb7)
    have HT7 := Lib.hid (HT6.out.below hb7)
    clear hb7
    go_wp2_with fail
    refine (texts_any ao3 ao4 cap3 cap4 L2 L2 _ HS7 HT7 (by omega) (Lib.hid (decide_eq_true rfl))).mono ?_; rintro e w8 ⟨rfl, hb8⟩
    have HB8 := Lib.hid (dstepd HB7.out hb8)
    clear hb8
    go_wp2_with fail
    go_ret
    exact ⟨rfl, HB8.out⟩
  · have HNO := Lib.hid hno
    clear hno
    go_wp2_with fail
    refine (rparts_any s _ (by omega)).mono ?_; intro e w4 hpost
    obtain ⟨hb4, hcase⟩ := hpost
    have HB4 := Lib.hid (dstepd HB3.out hb4)
    clear hb4
    rcases hcase with ⟨L2, hL2, _⟩ | ⟨_, rfl⟩
    case inl => exact absurd hL2 (HNO.out L2)
    go_wp2_with fail
    refine (first19 _ (HG.out.below HB4.out)).mono ?_; rintro e w5 ⟨rfl, hb5⟩
    have HB5 := Lib.hid (dstepd HB4.out hb5)
    clear hb5
    go_wp2_with fail
    refine (ijoin_any ao cap l _ (Lib.hid (HN.out.below HB5.out)) (by omega) (by have := HSUM.out; omega) HT).mono ?_; rintro e w6 ⟨rfl, hb6⟩
    have HB6 := Lib.hid (dstepd HB5.out hb6)
    clear hb6
    go_wp2_with fail
    refine (rjoin_any ao cap l _ (HN.out.below HB6.out) (by omega) (by have := HSUM.out; omega)).mono ?_; rintro e w7 ⟨rfl, hb7⟩
    rw [HT.out]
    have HB7 := Lib.hid (dstepd HB6.out hb7)
    clear hb7
    go_wp2_with fail
    refine (texts_any none none 0 0 [] [] _ (Lib.hid (fun h => absurd rfl h)) (Lib.hid (fun h => absurd rfl h)) (by simp) (Lib.hid (decide_eq_true rfl))).mono ?_; rintro e w8 ⟨rfl, hb8⟩
    have HB8 := Lib.hid (dstepd HB7.out hb8)
    clear hb8
    go_wp2_with fail
    go_ret
    exact ⟨rfl, HB8.out⟩
theorem ident_any (ao : Option Addr) (cap : Nat) (l : List (List UInt8)) (s : ByteArray) (w : World) (hg : Glob w) (hN : Strs w ao l) (hm : l.length ≤ 9223372036854775807) (hlt : ∀ t ∈ l, t.length ≤ 9223372036854775807) (hs : s.size ≤ 9223372036854775807) :
    Calls Tryd.prog 3 #[.slice ao l.length cap, .string s] w fun e w' => e = .returned (.bool true) ∧ Below w.heap.size w w' := by
  by_cases h : fewB l = true ∧ s.size ≤ 4000
  · exact ident_walk ao cap l s w hg hN (Lib.hid (few_in h.1)) h.2
  · refine ident_few ao cap l s w hg hN hm (Lib.hid hlt) hs ?_
    by_cases h1 : fewB l = true
    · exact .inr (by rw [not_and] at h; have := h h1; omega)
    · exact .inl (by simpa using h1)
end Go.Proofs.YtdokbooggbiciaaDoor
