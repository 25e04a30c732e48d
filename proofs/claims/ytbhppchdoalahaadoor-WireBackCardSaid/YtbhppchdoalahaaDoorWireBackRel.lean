/-
  What WireBack writes: records, or nothing.
-/
import Derived.Test.YtbhppchdoalahaaDoorFirst4
import Derived.Test.YtbhppchdoalahaaDoorWireBackMath
import Derived.Test.YtbhppchdoalahaaDoorTextsSame
import Derived.Test.YtbhppchdoalahaaDoorErrNew
import Derived.Test.YtbhppchdoalahaaDoorInts
namespace Go.Proofs.YtbhppchdoalahaaDoor
open Go.RowKit

/-- what a writer writes is the text of a record, or nothing -/
def TxtO (t : List UInt8) : Prop := t = [] ∨ ∃ r : Rec, r.raw = t ∧ Txt t r
theorem wrec_txt {num : Int} {ty n : Nat} {s rest : List UInt8} (h3 : ty = 0 ∨ ty = 1 ∨ ty = 2) (hb : ∀ u, wbd (rest ++ u) ty = .ok (n, s, rest.length)) : TxtO (wrec num (ty : Int) rest) := by
  by_cases h : num < 1 ∨ 536870911 < num
  · left
    unfold wrec
    rw [wtag_bad (by omega), if_pos rfl]
  · obtain ⟨m, rfl⟩ := Int.eq_ofNat_of_zero_le (show 0 ≤ num by omega)
    right
    have e : wrec (m : Int) (ty : Int) rest = vput (8 * m + ty) ++ rest := by
      unfold wrec
      rw [wtag_ok (by omega) (by omega) (by omega), if_neg (vput_ne _)]
    rw [e]
    exact ⟨_, rfl, txt_mk (by omega) (by omega) h3 hb⟩
theorem txtO_num {num : Int} {n : Nat} (hn : n < 2 ^ 64) : TxtO (wrec num 0 (vput n)) :=
  wrec_txt (ty := 0) (n := n) (s := []) (.inl rfl) fun u => by
    unfold wbd
    rw [if_neg (by decide), if_neg (by decide), wv_vput n u hn]
    rfl
theorem txtO_fixed {num : Int} {n : Nat} (hn : n < 2 ^ 64) : TxtO (wrec num 1 (eight 8 n)) :=
  wrec_txt (ty := 1) (n := n) (s := []) (.inr (.inl rfl)) fun u => by
    have hl := eight_len 8 n
    unfold wbd
    rw [if_pos rfl, if_neg (by simp; omega), List.take_append_of_le_length (by omega), List.take_of_length_le (by omega), wlit_eight 8 n hn, hl]
theorem txtO_bytes {num : Int} {s : List UInt8} (hs : s.length < 2 ^ 64) : TxtO (wrec num 2 (vput s.length ++ s)) :=
  wrec_txt (ty := 2) (n := 0) (s := s) (.inr (.inr rfl)) fun u => by
    unfold wbd
    rw [if_neg (by decide), if_neg (by decide), List.append_assoc, wv_vput s.length (s ++ u) hs]
    dsimp only
    rw [if_neg (by decide), if_neg (by simp), List.drop_left, List.take_left]
    simp
theorem wrec_len (num kind : Int) (rest : List UInt8) : (wrec num kind rest).length ≤ 10 + rest.length := by
  unfold wrec
  split
  · simp
  · have := wtag_len num kind
    simp
    omega
/-- what has been written: the text, and the texts that it is of -/
def BkRel (C : List UInt8) (ts : List (List UInt8)) (j : Nat) : Prop := ∃ rs : List Rec, rs.flatMap Rec.raw = C ∧ rs.map Rec.raw = ts ∧ (∀ r ∈ rs, Txt r.raw r) ∧ C.length ≤ 4100 * j ∧ ts.length ≤ j
theorem bk_start : BkRel [] [] 0 := ⟨[], rfl, rfl, by simp, by simp, by simp⟩
theorem bk_none {C : List UInt8} {ts : List (List UInt8)} {j : Nat} (h : BkRel C ts j) : BkRel C ts (j + 1) := by
  obtain ⟨rs, a, b, c, d, e⟩ := h
  exact ⟨rs, a, b, c, by omega, by omega⟩
theorem bk_some {C t : List UInt8} {ts : List (List UInt8)} {j : Nat} (h : BkRel C ts j) (ht : TxtO t) (h0 : t ≠ []) (hl : t.length ≤ 4100) : BkRel (C ++ t) (ts ++ [t]) (j + 1) := by
  obtain ⟨rs, rfl, rfl, c, d, e⟩ := h
  rcases ht with ht | ⟨r, hr, ht⟩
  · exact absurd ht h0
  · subst hr
    refine ⟨rs ++ [r], by simp, by simp, fun x hx => ?_, by simp at *; omega, by simp at *; omega⟩
    rcases List.mem_append.1 hx with hx | hx
    · exact c x hx
    · rw [List.mem_singleton.1 hx]; exact ht
end Go.Proofs.YtbhppchdoalahaaDoor
