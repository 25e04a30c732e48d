/-
  Differences of differences, mod 2^64.
-/
import Derived.Test.YtkpljnfakidjeaaDoorNums
namespace Go.Proofs.YtkpljnfakidjeaaDoor
open Go.RowKit

/-- 64 bits as a signed number, and back -/
def sgn64 (d : Nat) : Int := if d < 9223372036854775808 then (d : Int) else (d : Int) - 18446744073709551616
def uns64 (z : Int) : Nat := (z % 18446744073709551616).toNat
def zigN (d : Nat) : Nat := (zig (sgn64 d)).toNat
def zagN (x : Nat) : Nat := uns64 (zag x)
theorem zigN_lt {d : Nat} (h : d < 18446744073709551616) : zigN d < 18446744073709551616 := by
  unfold zigN zig sgn64
  split <;> split <;> omega
theorem zagN_lt (x : Nat) : zagN x < 18446744073709551616 := by unfold zagN uns64; omega
theorem zagN_zigN {d : Nat} (h : d < 18446744073709551616) : zagN (zigN d) = d := by
  unfold zagN zigN uns64 zag zig sgn64
  split <;> split <;> split <;> omega
theorem zigN_zagN {x : Nat} (h : x < 18446744073709551616) : zigN (zagN x) = x := by
  unfold zagN zigN uns64 zag zig sgn64
  split <;> split <;> split <;> omega
/-- a less b, mod 2^64 -/
def sub64 (a b : Nat) : Nat := (a + 18446744073709551616 - b) % 18446744073709551616
def add64 (a b : Nat) : Nat := (a + b) % 18446744073709551616
def encT (t : List Nat × Nat × Nat) (n : Nat) : List Nat × Nat × Nat :=
  if t.1 = [] then ([n], n, t.2.2) else (t.1 ++ [zigN (sub64 (sub64 n t.2.1) t.2.2)], n, sub64 n t.2.1)
def decT (t : List Nat × Nat × Nat) (x : Nat) : List Nat × Nat × Nat :=
  if t.1 = [] then ([x], x, t.2.2) else (t.1 ++ [add64 t.2.1 (add64 t.2.2 (zagN x))], add64 t.2.1 (add64 t.2.2 (zagN x)), add64 t.2.2 (zagN x))
def enc (l : List Nat) : List Nat × Nat × Nat := l.foldl encT ([], 0, 0)
def dec (l : List Nat) : List Nat × Nat × Nat := l.foldl decT ([], 0, 0)
theorem enc_snoc (l : List Nat) (n : Nat) : enc (l ++ [n]) = encT (enc l) n := by simp [enc]
theorem dec_snoc (l : List Nat) (n : Nat) : dec (l ++ [n]) = decT (dec l) n := by simp [dec]
theorem snoc_ind {p : List Nat → Prop} (h0 : p []) (h1 : ∀ l n, p l → p (l ++ [n])) (l : List Nat) : p l := by
  rw [← List.reverse_reverse l]
  generalize l.reverse = m
  induction m with
  | nil => exact h0
  | cons x t ih => rw [List.reverse_cons]; exact h1 _ _ ih
theorem sub64_lt (a b : Nat) : sub64 a b < 18446744073709551616 := by unfold sub64; omega
theorem add64_lt (a b : Nat) : add64 a b < 18446744073709551616 := by unfold add64; omega
structure Ok64 (t : List Nat × Nat × Nat) (k : Nat) : Prop where
  len : t.1.length = k
  all : ∀ n ∈ t.1, n < 18446744073709551616
  last : t.2.1 < 18446744073709551616
  step : t.2.2 < 18446744073709551616
theorem enc_ok (l : List Nat) : (∀ n ∈ l, n < 18446744073709551616) → Ok64 (enc l) l.length := by
  refine snoc_ind (p := fun l => (∀ n ∈ l, n < 18446744073709551616) → Ok64 (enc l) l.length) (fun _ => ⟨rfl, by simp [enc], by simp [enc], by simp [enc]⟩) (fun l n ih h => ?_) l
  have ih := ih (fun m hm => h m (by simp [hm]))
  have hn := h n (by simp)
  rw [enc_snoc]
  unfold encT
  split
  · rename_i h0
    have hl := ih.len
    rw [h0] at hl
    exact ⟨by simp at hl ⊢; exact List.length_eq_zero_iff.1 hl.symm, by simpa using hn, hn, ih.step⟩
  · refine ⟨by simp [ih.len], fun m hm => ?_, hn, sub64_lt _ _⟩
    rcases List.mem_append.1 hm with hm | hm
    · exact ih.all m hm
    · simp at hm
      subst hm
      exact zigN_lt (sub64_lt _ _)
theorem dec_ok (l : List Nat) : (∀ n ∈ l, n < 18446744073709551616) → Ok64 (dec l) l.length := by
  refine snoc_ind (p := fun l => (∀ n ∈ l, n < 18446744073709551616) → Ok64 (dec l) l.length) (fun _ => ⟨rfl, by simp [dec], by simp [dec], by simp [dec]⟩) (fun l n ih h => ?_) l
  have ih := ih (fun m hm => h m (by simp [hm]))
  have hn := h n (by simp)
  rw [dec_snoc]
  unfold decT
  split
  · rename_i h0
    have hl := ih.len
    rw [h0] at hl
    exact ⟨by simp at hl ⊢; exact List.length_eq_zero_iff.1 hl.symm, by simpa using hn, hn, ih.step⟩
  · refine ⟨by simp [ih.len], fun m hm => ?_, add64_lt _ _, add64_lt _ _⟩
    rcases List.mem_append.1 hm with hm | hm
    · exact ih.all m hm
    · simp at hm
      subst hm
      exact add64_lt _ _
theorem dec_enc (l : List Nat) : (∀ n ∈ l, n < 18446744073709551616) → dec (enc l).1 = (l, (enc l).2) := by
  refine snoc_ind (p := fun l => (∀ n ∈ l, n < 18446744073709551616) → dec (enc l).1 = (l, (enc l).2)) (fun _ => rfl) (fun l n ih h => ?_) l
  have hl : ∀ m ∈ l, m < 18446744073709551616 := fun m hm => h m (by simp [hm])
  have ih := ih hl
  have hn := h n (by simp)
  have ok := enc_ok l hl
  rw [enc_snoc]
  unfold encT
  split
  · rename_i h0
    have h1 := ok.len
    rw [h0] at h1 ih
    have h2 : l = [] := List.length_eq_zero_iff.1 h1.symm
    subst h2
    simp [dec, decT, enc]
  · rename_i h0
    have hne : l ≠ [] := fun he => h0 (List.length_eq_zero_iff.1 (by rw [ok.len, he]; rfl))
    rw [dec_snoc, ih]
    unfold decT
    rw [if_neg hne, zagN_zigN (sub64_lt _ _)]
    have h1 := ok.last
    have h2 := ok.step
    have e1 : add64 (enc l).2.2 (sub64 (sub64 n (enc l).2.1) (enc l).2.2) = sub64 n (enc l).2.1 := by unfold add64 sub64; omega
    have e2 : add64 (enc l).2.1 (sub64 n (enc l).2.1) = n := by unfold add64 sub64; omega
    simp only [e1, e2]
theorem enc_dec (l : List Nat) : (∀ n ∈ l, n < 18446744073709551616) → enc (dec l).1 = (l, (dec l).2) := by
  refine snoc_ind (p := fun l => (∀ n ∈ l, n < 18446744073709551616) → enc (dec l).1 = (l, (dec l).2)) (fun _ => rfl) (fun l n ih h => ?_) l
  have hl : ∀ m ∈ l, m < 18446744073709551616 := fun m hm => h m (by simp [hm])
  have ih := ih hl
  have hn := h n (by simp)
  have ok := dec_ok l hl
  rw [dec_snoc]
  unfold decT
  split
  · rename_i h0
    have h1 := ok.len
    rw [h0] at h1 ih
    have h2 : l = [] := List.length_eq_zero_iff.1 h1.symm
    subst h2
    simp [enc, encT, dec]
  · rename_i h0
    have hne : l ≠ [] := fun he => h0 (List.length_eq_zero_iff.1 (by rw [ok.len, he]; rfl))
    rw [enc_snoc, ih]
    unfold encT
    rw [if_neg hne]
    have h1 := ok.last
    have h2 := ok.step
    have h3 := zagN_lt n
    have e1 : sub64 (add64 (dec l).2.1 (add64 (dec l).2.2 (zagN n))) (dec l).2.1 = add64 (dec l).2.2 (zagN n) := by unfold add64 sub64; omega
    have e2 : sub64 (add64 (dec l).2.2 (zagN n)) (dec l).2.2 = zagN n := by unfold add64 sub64; omega
    simp only [e1, e2, zigN_zagN hn]
end Go.Proofs.YtkpljnfakidjeaaDoor
