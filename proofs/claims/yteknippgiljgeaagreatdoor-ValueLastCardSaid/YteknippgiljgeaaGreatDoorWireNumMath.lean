/-
  Numbers packed come back.
-/
import Derived.Test.YteknippgiljgeaaGreatDoorWireP
import Derived.Test.YteknippgiljgeaaGreatDoorWireF
namespace Go.Proofs.YteknippgiljgeaaGreatDoor

theorem wlit_eight : ∀ (k n : Nat), n < 256 ^ k → wlit (eight k n) = n
  | 0, n, h => by simp at h; subst h; rfl
  | k + 1, n, h => by
    have hd : n / 256 < 256 ^ k := by rw [Nat.pow_succ] at h; omega
    simp only [eight, wlit]
    rw [wlit_eight k (n / 256) hd, ofNat_toNat (by omega)]
    omega
theorem eight_len : ∀ (k n : Nat), (eight k n).length = k
  | 0, _ => rfl
  | k + 1, n => by simp [eight, eight_len k]
/-- all of them, eight bytes each -/
def eights (l : List Nat) : List UInt8 := l.flatMap (eight 8)
theorem eights_len (l : List Nat) : (eights l).length = 8 * l.length := by
  induction l with
  | nil => rfl
  | cons n l ih => simp only [eights, List.flatMap_cons, List.length_append, eight_len, List.length_cons] at *; omega
theorem eights_take (l : List Nat) (k : Nat) (h : k < l.length) : eights (l.take (k + 1)) = eights (l.take k) ++ eight 8 l[k] := by
  unfold eights
  rw [List.take_succ_eq_append_getElem h, List.flatMap_append]
  simp
theorem eights_at : ∀ (l : List Nat) (i : Nat) (h : i < l.length), ((eights l).drop (8 * i)).take 8 = eight 8 l[i]
  | [], i, h => by simp at h
  | n :: l, 0, h => by
    have : eights (n :: l) = eight 8 n ++ eights l := rfl
    rw [this, Nat.mul_zero, List.drop_zero, List.take_append_of_le_length (by rw [eight_len]; omega), List.take_of_length_le (by rw [eight_len]; omega)]
    rfl
  | n :: l, i + 1, h => by
    have : eights (n :: l) = eight 8 n ++ eights l := rfl
    have hl := eight_len 8 n
    rw [this, List.drop_append, List.drop_eq_nil_of_le (by omega), List.nil_append, hl, show 8 * (i + 1) - 8 = 8 * i by omega]
    exact eights_at l i (by simpa using h)
theorem fixs_eights (l : List Nat) (hl : ∀ n ∈ l, n < 2 ^ 64) : fixs (eights l) l.length = l := by
  apply List.ext_getElem (by simp [fixs])
  intro i h1 h2
  simp only [fixs, List.getElem_map, List.getElem_range]
  rw [eights_at l i h2]
  exact wlit_eight 8 _ (hl _ (List.getElem_mem h2))
theorem wv_vput (n : Nat) (t : List UInt8) (h : n < 2 ^ 64) : wv (vput n ++ t) = .ok (n, (vput n).length) := by
  have := vgetGo_vputF 9 0 0 n t rfl (by omega)
  simpa [wv, vput] using this
theorem wvars_vputs : ∀ (l : List Nat), (∀ n ∈ l, n < 2 ^ 64) → wvars (vputs l) = .ok l
  | [], _ => rfl
  | n :: l, h => by
    have e : vputs (n :: l) = vput n ++ vputs l := rfl
    have hv := wv_vput n (vputs l) (h n List.mem_cons_self)
    rw [← e] at hv
    rw [wvars_cons hv, e, List.drop_left]
    rw [wvars_vputs l (fun m hm => h m (List.mem_cons_of_mem _ hm))]
end Go.Proofs.YteknippgiljgeaaGreatDoor
