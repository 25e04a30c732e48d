/-
  What the definition reads of a column.
-/
import Derived.Test.YtihoemimiplhfaaDoorXorRef
namespace Go.Proofs.YtihoemimiplhfaaDoor
open Go.RowKit

structure XRAt (s : ByteArray) (c j : Nat) (ls : List Nat) (q : Nat) : Prop where
  len : ls.length = j
  le : q ≤ 8 * s.size
  all : ∀ n ∈ ls, n < 18446744073709551616
  sz : catN (xenc ls) ≤ 6 * q
  good : ∀ l, GoodX s c l → ls = l.take j ∧ q = catN (xenc (l.take j))
theorem xrat_start (s : ByteArray) (c : Nat) : XRAt s c 0 [] 0 := ⟨rfl, by omega, by simp, by simp [xenc, xencR, catN], fun l _ => ⟨rfl, rfl⟩⟩
theorem xrat_first {s : ByteArray} {c q n : Nat} {ls : List Nat} (h : XRAt s c 0 ls q) (hq : q + 64 ≤ 8 * s.size) (hn : getB s.data.toList q 64 = n) (hc : 0 < c) : ls = [] ∧ XRAt s c 1 [n] (q + 64) := by
  have h0 : ls = [] := List.length_eq_zero_iff.1 h.len
  subst h0
  have hnl : n < 18446744073709551616 := by rw [← hn]; exact getB_lt s.data.toList q 64
  refine ⟨rfl, rfl, hq, by simp [hnl], by simp [xenc, xencR, catN]; omega, fun l hg => ?_⟩
  obtain ⟨_, h3⟩ := h.good l hg
  have hl : 0 < l.length := by rw [hg.1]; exact hc
  have ht := xenc_take hl
  have hp : xpart (l.take 0) l[0] = [(l[0], 64)] := rfl
  obtain ⟨bb, hbb⟩ := xenc_split hl
  rw [hp] at ht hbb
  have hm := good_mid hg (by rw [hbb]; rfl)
  have e0 : catN (xenc (l.take 0)) = 0 := rfl
  rw [e0] at hm h3
  subst h3
  refine ⟨?_, ?_⟩
  · rw [List.take_succ_eq_append_getElem hl, ← hm.1, hn]; rfl
  · rw [ht, catN_append, e0]; rfl
theorem xrat_short {s : ByteArray} {c q : Nat} {ls : List Nat} (h : XRAt s c 0 ls q) (hc : 0 < c) (hx : 8 * s.size < q + 64) (l : List Nat) : ¬ GoodX s c l := fun hg => by
  obtain ⟨h2, h3⟩ := h.good l hg
  have hl : 0 < l.length := by rw [hg.1]; exact hc
  obtain ⟨bb, hbb⟩ := xenc_split hl
  have hp : xpart (l.take 0) l[0] = [(l[0], 64)] := rfl
  rw [hp] at hbb
  have hm := good_mid hg (by rw [hbb]; rfl)
  rw [← h3] at hm
  omega
theorem xrat_bad {s : ByteArray} {c j q : Nat} {ls : List Nat} (h : XRAt s c j ls q) (hj : 0 < j) (hjc : j < c) (hx : ∀ x q', xnx s q ≠ some (x, q', false)) (l : List Nat) : ¬ GoodX s c l := fun hg => by
  obtain ⟨h2, h3⟩ := h.good l hg
  have hgn := xnx_good hg hj (by rw [hg.1]; exact hjc)
  rw [← h3] at hgn
  exact hx _ _ hgn
theorem xrat_next {s : ByteArray} {c j q x q' : Nat} {ls : List Nat} (h : XRAt s c j ls q) (hj : 0 < j) (hjc : j < c) (hq : q' ≤ 8 * s.size) (hx64 : x < 18446744073709551616) (hxq : (x = 0 ∧ q + 1 ≤ q') ∨ q + 14 ≤ q') (hx : ∀ y r, xnx s q = some (y, r, false) → y = x ∧ r = q') : XRAt s c (j + 1) (ls ++ [ls.getLast?.getD 0 ^^^ x]) q' := by
  have hla := getLastD_lt h.all
  have hne : ls ≠ [] := by intro e; have := h.len; rw [e] at this; simp at this; omega
  refine ⟨by simp [h.len], hq, ?_, ?_, fun l hg => ?_⟩
  · intro n hn
    rcases List.mem_append.1 hn with hn | hn
    · exact h.all n hn
    · rw [List.mem_singleton] at hn; subst hn; exact xor_lt hla hx64
  · have hp : xpart ls (ls.getLast?.getD 0 ^^^ x) = xch x := by
      unfold xpart
      rw [if_neg hne, xor_back]
    rw [xenc_snoc, hp, catN_append]
    have h5 := h.sz
    rcases hxq with ⟨rfl, h1⟩ | h1
    · have e : catN (xch 0) = 1 := rfl
      omega
    · have := catN_xch x hx64
      omega
  · obtain ⟨h2, h3⟩ := h.good l hg
    have hll : j < l.length := by rw [hg.1]; exact hjc
    have hgn := xnx_good hg hj hll
    rw [← h3] at hgn
    obtain ⟨e1, e2⟩ := hx _ _ hgn
    refine ⟨?_, e2.symm⟩
    rw [List.take_succ_eq_append_getElem hll, ← e1, ← h2, Nat.xor_comm l[j], ← Nat.xor_assoc, Nat.xor_self, Nat.zero_xor]
theorem xrat_end {s : ByteArray} {c q : Nat} {ls : List Nat} (h : XRAt s c c ls q) : ((⟨(xbytes ls).toArray⟩ : ByteArray) = s → GoodX s c ls) ∧ ((⟨(xbytes ls).toArray⟩ : ByteArray) ≠ s → ∀ l, ¬ GoodX s c l) := by
  refine ⟨fun h1 => ?_, fun h1 l hg => h1 ?_⟩
  · have := good_ofX ls h.all
    rw [h1, h.len] at this
    exact this
  · obtain ⟨h2, _⟩ := h.good l hg
    rw [List.take_of_length_le (by rw [hg.1]; exact Nat.le_refl _)] at h2
    subst h2
    exact ByteArray.ext (Array.ext' (by simp [hg.2.1]))
/-- what the bits tell, by the definition's parts -/
theorem xnx_one {s : ByteArray} {q : Nat} (h : 8 * s.size < q + 1) (x q' : Nat) : xnx s q ≠ some (x, q', false) := by unfold xnx; rw [if_pos h]; simp
theorem xnx_zero {s : ByteArray} {q : Nat} (h : ¬ 8 * s.size < q + 1) (h0 : getB s.data.toList q 1 = 0) (y r : Nat) (hx : xnx s q = some (y, r, false)) : y = 0 ∧ r = q + 1 := by
  unfold xnx at hx
  rw [if_neg h, if_pos h0] at hx
  simp at hx
  exact ⟨hx.1.symm, hx.2.symm⟩
theorem getB_66 (s : ByteArray) (q : Nat) (h : q + 12 ≤ 8 * s.size) : getB s.data.toList q 12 = getB s.data.toList q 6 * 64 + getB s.data.toList (q + 6) 6 := getB_part s.data.toList q 6 6 (by simp; omega)
theorem xnx_head {s : ByteArray} {q : Nat} (h : ¬ 8 * s.size < q + 1) (h0 : getB s.data.toList q 1 ≠ 0) (h12 : 8 * s.size < q + 13) (x q' : Nat) : xnx s q ≠ some (x, q', false) := by
  unfold xnx; rw [if_neg h, if_neg h0, if_pos (by omega)]; simp
theorem xnx_parts {s : ByteArray} {q le n : Nat} (h13 : q + 13 ≤ 8 * s.size) (h0 : getB s.data.toList q 1 ≠ 0) (h1 : getB s.data.toList (q + 1) 6 = le) (h2 : getB s.data.toList (q + 1 + 6) 6 = n) {y r : Nat} (hx : xnx s q = some (y, r, false)) :
    q + 13 + (n + 1) ≤ 8 * s.size ∧ le + (n + 1) ≤ 64 ∧ y = getB s.data.toList (q + 13) (n + 1) * 2 ^ (63 - le - n) ∧ r = q + 13 + (n + 1) := by
  have hn : n < 64 := by rw [← h2]; exact getB_lt s.data.toList (q + 1 + 6) 6
  have h66 := getB_66 s (q + 1) (by omega)
  rw [h1, h2] at h66
  have d1 : (le * 64 + n) / 64 = le := by omega
  have d2 : (le * 64 + n) % 64 + 1 = n + 1 := by omega
  unfold xnx at hx
  rw [if_neg (by omega), if_neg h0, if_neg (by omega), h66, d1, d2] at hx
  split at hx
  · simp at hx
  split at hx
  · simp at hx
  simp only [Option.some.injEq, Prod.mk.injEq] at hx
  rename_i c1 c2
  refine ⟨by omega, by omega, ?_, hx.2.1.symm⟩
  rw [← hx.1, show 64 - le - (n + 1) = 63 - le - n by omega]
end Go.Proofs.YtihoemimiplhfaaDoor
