/-
  Texts that are added one by one.
-/
import Derived.Test.YtihoemimiplhfaaDoorDictFew
namespace Go.Proofs.YtihoemimiplhfaaDoor
open Go.RowKit Go.Maps

/-- the texts, each one once -/
def dadd (D : List (List UInt8)) (t : List UInt8) : List (List UInt8) := if t ∈ D then D else D ++ [t]
def lenSum (l : List (List UInt8)) : Nat := (l.map fun t => t.length + 10).sum
theorem lenSum_snoc (l : List (List UInt8)) (t : List UInt8) : lenSum (l ++ [t]) = lenSum l + (t.length + 10) := by simp [lenSum]
theorem lenSum_few : ∀ (l : List (List UInt8)), (∀ t ∈ l, t.length ≤ 20000) → lenSum l = capSum l + 10 * l.length
  | [], _ => by simp [lenSum, capSum]
  | t :: l, h => by
    have ih := lenSum_few l (fun u hu => h u (List.mem_cons_of_mem _ hu))
    have h1 := h t (List.mem_cons_self ..)
    simp only [lenSum, capSum, List.map_cons, List.sum_cons, List.length_cons] at *
    omega
theorem capSum_mem {l : List (List UInt8)} {t : List UInt8} (h : t ∈ l) : min t.length 20001 ≤ capSum l := by
  obtain ⟨a, b, rfl⟩ := List.append_of_mem h
  simp only [capSum, List.map_append, List.map_cons, List.sum_append, List.sum_cons]
  omega
theorem lenSum_take_le (l : List (List UInt8)) (j : Nat) : lenSum (l.take j) ≤ lenSum l := by
  conv => rhs; rw [← List.take_append_drop j l]
  simp only [lenSum, List.map_append, List.sum_append]
  omega
/-- what Adds have left: all that was added is there -/
structure Added (l : List (List UInt8)) (j : Nat) (D : List (List UInt8)) : Prop where
  all : ∀ t ∈ l.take j, t ∈ D
  len : D.length ≤ j
  sum : (encs D).length ≤ lenSum (l.take j)
theorem added_start (l : List (List UInt8)) : Added l 0 [] := ⟨by simp, by simp, by simp [encs]⟩
theorem added_old {l : List (List UInt8)} {j : Nat} {D : List (List UInt8)} (h : Added l j D) (hj : j < l.length) (hm : l[j] ∈ D) : Added l (j + 1) D := by
  have e := List.take_succ_eq_append_getElem hj
  refine ⟨fun t ht => ?_, by have := h.len; omega, by rw [e, lenSum_snoc]; have := h.sum; omega⟩
  rw [e] at ht
  rcases List.mem_append.1 ht with ht | ht
  · exact h.all t ht
  · rw [List.mem_singleton] at ht; subst ht; exact hm
theorem added_new {l : List (List UInt8)} {j : Nat} {D : List (List UInt8)} (h : Added l j D) (hj : j < l.length) : Added l (j + 1) (D ++ [l[j]]) := by
  have e := List.take_succ_eq_append_getElem hj
  have hv := (vput_length l[j].length).2
  refine ⟨fun t ht => ?_, by have := h.len; simp; omega, ?_⟩
  · rw [e] at ht
    rcases List.mem_append.1 ht with ht | ht
    · exact List.mem_append_left _ (h.all t ht)
    · exact List.mem_append_right _ ht
  · rw [e, lenSum_snoc, encs_snoc, List.length_append, List.length_append]
    have := h.sum
    omega
/-- one more Add -/
theorem dadd_get {D : List (List UInt8)} {t : List UInt8} (h : t ∈ D) : ∃ i, D[i]? = some t ∧ i < D.length := by
  obtain ⟨i, hi, he⟩ := List.getElem_of_mem h
  exact ⟨i, by rw [List.getElem?_eq_getElem hi, he], hi⟩
theorem texts_len (ao bo : Option Addr) (cap bcap : Nat) (l : List (List UInt8)) (n m : Nat) (w : World) (hn : n = l.length) (hm : m = l.length) (ha : Strs w ao l) (hb : Strs w bo l) (hl : l.length ≤ 1000000000) :
    Calls Tryd.prog 28 #[.slice ao n cap, .slice bo m bcap] w fun e w' => e = .returned (.bool true) ∧ Below w.heap.size w w' := by
  subst hn; subst hm; exact texts_same ao bo cap bcap l w ha hb hl
/-- the end of the law: more is added, and all is put -/
structure BackIn (l : List (List UInt8)) (more : ByteArray) : Prop where
  few : fewB l = true
  le : l.length ≤ 300
  each : ∀ t ∈ l, t.length ≤ 20000
  sum : lenSum l ≤ 30000
  more : more.size ≤ 1000
theorem back_in {l : List (List UInt8)} {more : ByteArray} (h : fewB l = true) (hm : more.size ≤ 1000) : BackIn l more := by
  have h0 := h
  unfold fewB at h
  simp only [Bool.and_eq_true, decide_eq_true_eq] at h
  obtain ⟨h1, h2⟩ := h
  rw [List.take_of_length_le (by omega)] at h2
  have he : ∀ t ∈ l, t.length ≤ 20000 := fun t ht => by have := capSum_mem ht; omega
  refine ⟨h0, h1, he, ?_, hm⟩
  rw [lenSum_few l he]
  omega
end Go.Proofs.YtihoemimiplhfaaDoor
