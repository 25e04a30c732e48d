/-
  A Dict's bytes, read.
-/
import Derived.Test.YtihoemimiplhfaaDictPut
import Derived.Test.YtihoemimiplhfaaStrictText
namespace Go.Proofs.Ytihoemimiplhfaa
open Go.RowKit

/-- a text that is a Dict's -/
def GoodD (s : ByteArray) (D : List (List UInt8)) : Prop := s.data.toList = encD D ∧ D.Nodup ∧ D.length ≤ 20000
theorem vget_mid {l a b : List UInt8} {n : Nat} (hn : n < 2 ^ 64) (e : l = a ++ (vput n ++ b)) : vget l (a.length : Int) = .ok (n, a.length + (vput n).length) := by
  subst e
  rw [← List.append_assoc]
  exact vget_vput _ _ hn
theorem encD_split {D : List (List UInt8)} {j : Nat} (h : j < D.length) : encD D = (vput D.length ++ encs (D.take j)) ++ (vput D[j].length ++ (D[j] ++ encs (D.drop (j + 1)))) := by
  have e : D = D.take j ++ D[j] :: D.drop (j + 1) := by rw [List.getElem_cons_drop, List.take_append_drop]
  unfold encD
  conv => lhs; rw [e]
  rw [encs_append]
  have e2 : encs (D[j] :: D.drop (j + 1)) = vput D[j].length ++ (D[j] ++ encs (D.drop (j + 1))) := by unfold encs; rw [List.flatMap_cons]; unfold encT; rw [List.append_assoc]
  rw [e2]
  have e3 : (D.take j ++ D[j] :: D.drop (j + 1)).length = D.length := by rw [← e]
  rw [e3, List.append_assoc]
/-- as the reading goes on -/
structure DRAt (s : ByteArray) (cnt j : Nat) (texts : List (List UInt8)) (q : Nat) (b : Bool) : Prop where
  len : texts.length = j
  le : q ≤ s.size
  jq : j < q
  tl : ∀ t ∈ texts, t.length ≤ s.size
  at_ : b = false → s.data.toList.take q = vput cnt ++ encs texts ∧ texts.Nodup
  good : ∀ D, GoodD s D → cnt = D.length ∧ b = false ∧ texts = D.take j ∧ q = (vput D.length ++ encs (D.take j)).length
theorem drat_start {s : ByteArray} {cnt q : Nat} (h : vget s.data.toList ((0 : Nat) : Int) = .ok (cnt, q)) {g : Bool} (hg : decide ((vput cnt).length < q - 0) = g) : DRAt s cnt 0 [] q g := by
  obtain ⟨g1, g2, g3, g4, g5⟩ := vget_inv h
  have hl : s.data.toList.length = s.size := by simp
  refine ⟨rfl, by omega, g1, by simp, fun hb => ?_, fun D hD => ?_⟩
  · subst hb
    have : ¬ (vput cnt).length < q - 0 := of_decide_eq_false hg
    refine ⟨?_, List.nodup_nil⟩
    rw [g5 (by omega)]
    simp [encs]
  · have hn : D.length < 2 ^ 64 := by have := hD.2.2; omega
    have h2 := vget_mid (l := s.data.toList) (a := []) (b := encs D) hn (by rw [hD.1]; rfl)
    simp only [List.length_nil, Nat.zero_add] at h2
    rw [h] at h2
    simp only [Except.ok.injEq, Prod.mk.injEq] at h2
    obtain ⟨rfl, rfl⟩ := h2
    refine ⟨rfl, ?_, by simp, by simp [encs]⟩
    rw [← hg]; simp
theorem drat_none {s : ByteArray} {c : Nat} (h : vget s.data.toList ((0 : Nat) : Int) = .error c) (D : List (List UInt8)) : ¬ GoodD s D := fun hD => by
  have hn : D.length < 2 ^ 64 := by have := hD.2.2; omega
  have h2 := vget_mid (l := s.data.toList) (a := []) (b := encs D) hn (by rw [hD.1]; rfl)
  simp only [List.length_nil] at h2
  rw [h] at h2
  simp at h2
theorem good_next {s : ByteArray} {cnt j q : Nat} {texts : List (List UInt8)} {b : Bool} (h : DRAt s cnt j texts q b) (hj : j < cnt) {D : List (List UInt8)} (hD : GoodD s D) : ∃ hl : j < D.length, vget s.data.toList (q : Int) = .ok (D[j].length, q + (vput D[j].length).length) ∧ q + (vput D[j].length).length + D[j].length ≤ s.size ∧ (s.data.toList.drop (q + (vput D[j].length).length)).take D[j].length = D[j] ∧ D[j].length < 2 ^ 64 ∨ 2 ^ 63 < s.size := by
  obtain ⟨h1, h2, h3, h4⟩ := h.good D hD
  have hl : j < D.length := by omega
  have he := encD_split hl
  rw [← hD.1] at he
  have hlen : s.data.toList.length = s.size := by simp
  have hsz := congrArg List.length he
  rw [hlen] at hsz
  simp only [List.length_append] at hsz h4
  by_cases hbig : 2 ^ 63 < s.size
  · exact ⟨hl, .inr hbig⟩
  refine ⟨hl, .inl ⟨?_, by omega, ?_, by omega⟩⟩
  · have := vget_mid (l := s.data.toList) (n := D[j].length) (by omega) he
    rw [List.length_append, ← h4] at this
    exact this
  · rw [he, ← List.append_assoc, List.drop_append_of_le_length (by simp only [List.length_append]; omega), List.drop_of_length_le (by simp only [List.length_append]; omega)]
    simp
theorem drat_err {s : ByteArray} {cnt j q c : Nat} {texts : List (List UInt8)} {b : Bool} (hs : s.size ≤ 1000000000) (h : DRAt s cnt j texts q b) (hj : j < cnt) (hv : vget s.data.toList (q : Int) = .error c) (D : List (List UInt8)) : ¬ GoodD s D := fun hD => by
  obtain ⟨hl, h2 | h2⟩ := good_next h hj hD
  · rw [hv] at h2; simp at h2
  · omega
theorem drat_over {s : ByteArray} {cnt j q n qn : Nat} {texts : List (List UInt8)} {b : Bool} (hs : s.size ≤ 1000000000) (h : DRAt s cnt j texts q b) (hj : j < cnt) (hv : vget s.data.toList (q : Int) = .ok (n, qn)) (ho : s.size - qn < n) (D : List (List UInt8)) : ¬ GoodD s D := fun hD => by
  obtain ⟨hl, ⟨h2, h3, _⟩ | h2⟩ := good_next h hj hD
  · rw [hv] at h2
    simp only [Except.ok.injEq, Prod.mk.injEq] at h2
    omega
  · omega
theorem drat_next {s : ByteArray} {cnt j q n qn : Nat} {texts : List (List UInt8)} {b : Bool} (hs : s.size ≤ 1000000000) (h : DRAt s cnt j texts q b) (hj : j < cnt) (hv : vget s.data.toList (q : Int) = .ok (n, qn)) (ho : n ≤ s.size - qn) {t : List UInt8} (ht : (s.data.toList.drop qn).take n = t) {g : Bool} (hg : decide ((vput n).length < qn - q) = g) {d : Bool} (hd : b = false → (d = false ↔ t ∉ texts)) :
    DRAt s cnt (j + 1) (texts ++ [t]) (qn + n) (b || g || d) := by
  obtain ⟨g1, g2, g3, g4, g5⟩ := vget_inv hv
  have hlen : s.data.toList.length = s.size := by simp
  have htl : t.length = n := by rw [← ht, List.length_take, List.length_drop]; omega
  refine ⟨by simp [h.len], by omega, by have := h.jq; omega, ?_, fun hb => ?_, fun D hD => ?_⟩
  · intro u hu
    rcases List.mem_append.1 hu with hu | hu
    · exact h.tl u hu
    · rw [List.mem_singleton] at hu; subst hu; omega
  · simp only [Bool.or_eq_false_iff] at hb
    obtain ⟨⟨hb1, hb2⟩, hb3⟩ := hb
    obtain ⟨e1, e2⟩ := h.at_ hb1
    have hnc : ¬ (vput n).length < qn - q := by rw [hb2] at hg; exact of_decide_eq_false hg
    have hni := (hd hb1).1 hb3
    refine ⟨?_, List.nodup_append.2 ⟨e2, by simp, fun x hx y hy e => hni (by rw [List.mem_singleton] at hy; rw [← hy, ← e]; exact hx)⟩⟩
    rw [List.take_add, g5 (by omega), e1, ht, encs_snoc, htl]
    simp
  · obtain ⟨hl, ⟨h2, h3, h4, h5⟩ | h2⟩ := good_next h hj hD
    · obtain ⟨f1, f2, f3, f4⟩ := h.good D hD
      rw [hv] at h2
      simp only [Except.ok.injEq, Prod.mk.injEq] at h2
      obtain ⟨rfl, rfl⟩ := h2
      rw [h4] at ht
      refine ⟨f1, ?_, ?_, ?_⟩
      · have hnt : t ∉ texts := by
          rw [← ht, f3]
          intro hm
          obtain ⟨k, hk, e⟩ := List.getElem_of_mem hm
          rw [List.getElem_take] at e
          have hkj : k < j := by rw [List.length_take] at hk; omega
          have := (List.getElem_inj hD.2.1 (h₀ := by omega) (h₁ := hl)).1 e
          omega
        rw [f2, ← hg, (hd f2).2 hnt]
        simp
      · rw [f3, List.take_succ_eq_append_getElem hl, ht]
      · rw [encs_take hl, f4]
        simp only [List.length_append]
        omega
    · omega
theorem drat_end {s : ByteArray} {cnt q : Nat} {texts : List (List UInt8)} {b : Bool} (h : DRAt s cnt cnt texts q b) : (b = false → ¬ q < s.size → cnt ≤ 20000 → GoodD s texts) ∧ (b = true ∨ q < s.size ∨ 20000 < cnt → ∀ D, ¬ GoodD s D) := by
  have hlen : s.data.toList.length = s.size := by simp
  refine ⟨fun h1 h2 h3 => ?_, fun h1 D hD => ?_⟩
  · obtain ⟨e1, e2⟩ := h.at_ h1
    rw [List.take_of_length_le (by omega)] at e1
    refine ⟨by rw [e1, ← h.len]; rfl, e2, by rw [h.len]; exact h3⟩
  · obtain ⟨f1, f2, f3, f4⟩ := h.good D hD
    rw [f1, List.take_length] at f4
    have h5 := congrArg List.length hD.1
    rw [hlen] at h5
    have h6 := hD.2.2
    rcases h1 with h1 | h1 | h1
    · rw [f2] at h1; simp at h1
    · unfold encD at h5; omega
    · omega
end Go.Proofs.Ytihoemimiplhfaa
