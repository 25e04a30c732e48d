/-
  Plain facts: numbers in so many bits each, one behind the other.
-/
import Derived.Test.YtihoemimiplhfaaDoorBitsMath
namespace Go.Proofs.YtihoemimiplhfaaDoor
open Go.RowKit

def catN (l : List (Nat × Nat)) : Nat := (l.map (·.2)).sum
def catV (l : List (Nat × Nat)) : Nat := l.foldl (fun V x => V * 2 ^ x.2 + x.1) 0
theorem catN_snoc (l : List (Nat × Nat)) (x : Nat × Nat) : catN (l ++ [x]) = catN l + x.2 := by simp [catN]
theorem catV_snoc (l : List (Nat × Nat)) (x : Nat × Nat) : catV (l ++ [x]) = catV l * 2 ^ x.2 + x.1 := by simp [catV]
theorem catV_lt : ∀ (l : List (Nat × Nat)), (∀ x ∈ l, x.1 < 2 ^ x.2) → catV l < 2 ^ catN l := by
  intro l
  induction hn : l.length generalizing l with
  | zero => intro _; obtain rfl := List.length_eq_zero_iff.1 hn; decide
  | succ n ih =>
    intro h
    obtain ⟨l', x, rfl⟩ := snoc_of_len hn
    have h1 := ih l' (by simpa using hn) (fun y hy => h y (by simp [hy]))
    have h2 := h x (by simp)
    rw [catV_snoc, catN_snoc, Nat.pow_add]
    have : (catV l' + 1) * 2 ^ x.2 ≤ 2 ^ catN l' * 2 ^ x.2 := Nat.mul_le_mul_right _ h1
    rw [Nat.add_mul, Nat.one_mul] at this
    omega
theorem catN_append (a b : List (Nat × Nat)) : catN (a ++ b) = catN a + catN b := by simp [catN]
theorem catV_append (a : List (Nat × Nat)) : ∀ (b : List (Nat × Nat)), catV (a ++ b) = catV a * 2 ^ catN b + catV b := by
  intro b
  induction hn : b.length generalizing b with
  | zero => obtain rfl := List.length_eq_zero_iff.1 hn; simp [catV, catN]
  | succ n ih =>
    obtain ⟨b', x, rfl⟩ := snoc_of_len hn
    have h1 := ih b' (by simpa using hn)
    rw [← List.append_assoc, catV_snoc, h1, catV_snoc, catN_snoc, Nat.pow_add, Nat.add_mul, Nat.mul_assoc, Nat.add_assoc]
theorem beBytes_beVal : ∀ (k v : Nat), v < 256 ^ k → beVal (beBytes k v) = v
  | 0, v, h => by simp at h; subst h; rfl
  | k + 1, v, h => by
    rw [beBytes, beVal_snoc, beBytes_beVal k (v / 256) (by rw [Nat.pow_succ] at h; omega)]
    have : (UInt8.ofNat (v % 256)).toNat = v % 256 := by simp
    rw [this]; omega
theorem packB_length (n V : Nat) : (packB n V).length = (n + 7) / 8 := beBytes_length _ _
theorem packB_val {n V : Nat} (h : V < 2 ^ n) : beVal (packB n V) = V * 2 ^ (8 * ((n + 7) / 8) - n) := by
  rw [packB, beBytes_beVal]
  have e : 256 ^ ((n + 7) / 8) = 2 ^ n * 2 ^ (8 * ((n + 7) / 8) - n) := by rw [← Nat.pow_add, show 256 = 2 ^ 8 from rfl, ← Nat.pow_mul]; congr 1; omega
  rw [e]
  exact Nat.mul_lt_mul_of_pos_right h (Nat.pow_pos (by omega))
/-- what was put is got -/
theorem getB_cat {l : List (Nat × Nat)} (hl : ∀ x ∈ l, x.1 < 2 ^ x.2) {j : Nat} (hj : j < l.length) : getB (packB (catN l) (catV l)) (catN (l.take j)) l[j].2 = l[j].1 := by
  have hsplit : l = l.take j ++ [l[j]] ++ l.drop (j + 1) := by simp
  have hN : catN l = catN (l.take j) + l[j].2 + catN (l.drop (j + 1)) := by
    conv => lhs; rw [hsplit]
    rw [catN_append, catN_snoc]
  have hV : catV l = (catV (l.take j) * 2 ^ l[j].2 + l[j].1) * 2 ^ catN (l.drop (j + 1)) + catV (l.drop (j + 1)) := by
    conv => lhs; rw [hsplit]
    rw [catV_append, catV_snoc]
  have h2 := catV_lt (l.drop (j + 1)) (fun x hx => hl x (List.mem_of_mem_drop hx))
  have h3 := hl l[j] (List.getElem_mem _)
  unfold getB
  rw [packB_length, packB_val (catV_lt l hl)]
  have e : 8 * ((catN l + 7) / 8) - catN (l.take j) - l[j].2 = (8 * ((catN l + 7) / 8) - catN l) + catN (l.drop (j + 1)) := by omega
  rw [e, Nat.pow_add, ← Nat.div_div_eq_div_mul, Nat.mul_div_cancel _ (Nat.pow_pos (by omega)), hV, Nat.mul_comm _ (2 ^ catN (l.drop (j + 1))), Nat.mul_add_div (Nat.pow_pos (by omega)), Nat.div_eq_of_lt h2, Nat.add_zero, Nat.mul_comm, Nat.mul_add_mod, Nat.mod_eq_of_lt h3]
theorem getB_rest {n V : Nat} (h : V < 2 ^ n) : getB (packB n V) n (8 * ((n + 7) / 8) - n) = 0 := by
  unfold getB
  rw [packB_length, packB_val h, Nat.sub_self, Nat.pow_zero, Nat.div_one, Nat.mul_mod_left]
theorem catN_take_le (l : List (Nat × Nat)) (j : Nat) : catN (l.take j) ≤ catN l := by
  conv => rhs; rw [← List.take_append_drop j l]
  rw [catN_append]; omega
theorem catN_bound (l : List (Nat × Nat)) (hl : ∀ x ∈ l, x.2 ≤ 64) : catN l ≤ 64 * l.length := by
  induction l with
  | nil => simp [catN]
  | cons x l ih =>
    have := ih (fun y hy => hl y (by simp [hy]))
    have := hl x (by simp)
    simp [catN] at *
    omega
end Go.Proofs.YtihoemimiplhfaaDoor
