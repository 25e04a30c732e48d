/-
  What differs, read: what the bits tell.
-/
import Derived.Test.YtihoemimiplhfaaDoorXorPut
namespace Go.Proofs.YtihoemimiplhfaaDoor
open Go.RowKit

/-- what the bits at a place tell: what differs, the place behind it, was something wrong -/
def xnx (s : ByteArray) (q : Nat) : Option (Nat × Nat × Bool) :=
  if 8 * s.size < q + 1 then none
  else if getB s.data.toList q 1 = 0 then some (0, q + 1, false)
  else if 8 * s.size < q + 1 + 12 then none
  else if 8 * s.size < q + 13 + (getB s.data.toList (q + 1) 12 % 64 + 1) then none
  else if 64 < getB s.data.toList (q + 1) 12 / 64 + (getB s.data.toList (q + 1) 12 % 64 + 1) ∨ getB s.data.toList (q + 13) (getB s.data.toList (q + 1) 12 % 64 + 1) % 2 = 0 ∨ blen (getB s.data.toList (q + 13) (getB s.data.toList (q + 1) 12 % 64 + 1)) ≠ getB s.data.toList (q + 1) 12 % 64 + 1 then some (0, q + 13 + (getB s.data.toList (q + 1) 12 % 64 + 1), true)
  else some (getB s.data.toList (q + 13) (getB s.data.toList (q + 1) 12 % 64 + 1) * 2 ^ (64 - getB s.data.toList (q + 1) 12 / 64 - (getB s.data.toList (q + 1) 12 % 64 + 1)), q + 13 + (getB s.data.toList (q + 1) 12 % 64 + 1), false)
theorem odd_shift : ∀ {a b y z : Nat}, y % 2 = 1 → z % 2 = 1 → y * 2 ^ a = z * 2 ^ b → a = b
  | 0, 0, y, z, _, _, _ => rfl
  | 0, b + 1, y, z, hy, _, h => by rw [Nat.pow_zero, Nat.mul_one, Nat.pow_succ, ← Nat.mul_assoc] at h; omega
  | a + 1, 0, y, z, _, hz, h => by rw [Nat.pow_zero, Nat.mul_one, Nat.pow_succ, ← Nat.mul_assoc] at h; omega
  | a + 1, b + 1, y, z, hy, hz, h => by
    rw [Nat.pow_succ, Nat.pow_succ, ← Nat.mul_assoc, ← Nat.mul_assoc] at h
    rw [odd_shift hy hz (by omega : y * 2 ^ a = z * 2 ^ b)]
theorem tz_unique {x y a : Nat} (hx : x < 2 ^ 64) (hy : y % 2 = 1) (h : y * 2 ^ a = x) : tz x = a := by
  have h0 : 0 < x := by
    rcases Nat.eq_zero_or_pos x with e | e
    · rw [e] at h
      rcases Nat.mul_eq_zero.1 h with h | h
      · omega
      · have := Nat.two_pow_pos a; omega
    · exact e
  obtain ⟨t1, t2, t3⟩ := tz_spec h0 hx
  exact odd_shift t2 hy (t3.trans h.symm)
/-- y odd, of so many bits, moved up: what differs is told as that -/
theorem xch_of {y le sz : Nat} (h64 : le + sz ≤ 64) (hs : 1 ≤ sz) (hy : y % 2 = 1) (hb : blen y = sz) (hy64 : y < 2 ^ sz) : y * 2 ^ (64 - le - sz) < 18446744073709551616 ∧ xch (y * 2 ^ (64 - le - sz)) = [(4096 + le * 64 + (sz - 1), 13), (y, sz)] := by
  obtain ⟨tr, htr⟩ : ∃ tr, 64 - le - sz = tr := ⟨_, rfl⟩
  rw [htr]
  have hsp : 2 ^ sz ≤ 2 ^ 64 := Nat.pow_le_pow_right (by omega) (by omega)
  have hlo : 2 ^ (sz - 1) ≤ y := by
    have := (blen_bound (by omega : y < 2 ^ 64)).2.2 (by omega)
    rw [hb] at this
    exact this.1
  have hx1 : y * 2 ^ tr < 2 ^ (sz + tr) := by rw [Nat.pow_add]; exact Nat.mul_lt_mul_of_pos_right hy64 (Nat.two_pow_pos _)
  have hx2 : 2 ^ (sz + tr - 1) ≤ y * 2 ^ tr := by
    rw [show sz + tr - 1 = (sz - 1) + tr by omega, Nat.pow_add]
    exact Nat.mul_le_mul_right _ hlo
  have hx64 : y * 2 ^ tr < 2 ^ 64 := Nat.lt_of_lt_of_le hx1 (Nat.pow_le_pow_right (by omega) (by omega))
  have hbl := blen_unique hx64 hx1 (fun _ => hx2)
  have htz := tz_unique hx64 hy rfl
  have h0 : y * 2 ^ tr ≠ 0 := by
    have := Nat.two_pow_pos (sz + tr - 1)
    omega
  refine ⟨hx64, ?_⟩
  unfold xch
  rw [if_neg h0, hbl, htz, Nat.mul_div_cancel _ (Nat.two_pow_pos tr), show 64 - (sz + tr) = le by omega, show sz + tr - tr = sz by omega]
theorem getB_13 (s : ByteArray) (q : Nat) (h : q + 13 ≤ 8 * s.size) : getB s.data.toList q 13 = getB s.data.toList q 1 * 4096 + getB s.data.toList (q + 1) 12 := getB_part s.data.toList q 1 12 (by simp; omega)
theorem bit01 (s : ByteArray) (q : Nat) : getB s.data.toList q 1 = 0 ∨ getB s.data.toList q 1 = 1 := by
  have := getB_lt s.data.toList q 1
  omega
/-- a column's bits are read as they were put -/
theorem xnx_good {s : ByteArray} {c : Nat} {l : List Nat} (hg : GoodX s c l) {j : Nat} (h0 : 0 < j) (hj : j < l.length) : xnx s (catN (xenc (l.take j))) = some (l[j] ^^^ (l.take j).getLast?.getD 0, catN (xenc (l.take (j + 1))), false) := by
  obtain ⟨b, hb⟩ := xenc_split hj
  have hp : xpart (l.take j) l[j] = xch (l[j] ^^^ (l.take j).getLast?.getD 0) := by
    unfold xpart
    rw [if_neg (by intro h; have h2 := congrArg List.length h; rw [List.length_take, List.length_nil] at h2; omega)]
  have ht := xenc_take hj
  have hdl : l[j] ^^^ (l.take j).getLast?.getD 0 < 18446744073709551616 := xor_lt (hg.2.2 _ (List.getElem_mem _)) (getLastD_lt fun m hm => hg.2.2 m (List.mem_of_mem_take hm))
  rw [ht, catN_append]
  rw [hp] at hb ⊢
  generalize l[j] ^^^ (l.take j).getLast?.getD 0 = d at hb hdl ⊢
  generalize xenc (l.take j) = a at hb ⊢
  by_cases hd : d = 0
  · subst hd
    have e : xch 0 = [(0, 1)] := rfl
    rw [e] at hb ⊢
    obtain ⟨g1, g2⟩ := good_mid hg hb
    unfold xnx
    rw [if_neg (by omega), if_pos g1]
    rfl
  · obtain ⟨le, tr, sz, hd', y, H⟩ := xdif hdl hd
    rw [H.ch] at hb ⊢
    have hb1 : xenc l = a ++ (hd', 13) :: ([(y, sz)] ++ b) := by rw [hb]; simp
    have hb2 : xenc l = (a ++ [(hd', 13)]) ++ (y, sz) :: b := by rw [hb]; simp
    obtain ⟨g1, g2⟩ := good_mid hg hb1
    obtain ⟨g3, g4⟩ := good_mid hg hb2
    rw [catN_snoc] at g3 g4
    simp only at g3 g4
    have hv := H.hdv
    have h64 := H.szv
    have hs1 := H.sz1
    have hl64 := H.le64
    have g5 := getB_13 s (catN a) g2
    have g6 := getB_lt s.data.toList (catN a + 1) 12
    have g7 : getB s.data.toList (catN a) 1 = 1 := by
      rcases bit01 s (catN a) with h | h
      · rw [h, g1] at g5; omega
      · exact h
    rw [g1, g7] at g5
    have g8 : getB s.data.toList (catN a + 1) 12 = le * 64 + (sz - 1) := by omega
    have hq1 : (le * 64 + (sz - 1)) / 64 = le := by omega
    have hq2 : (le * 64 + (sz - 1)) % 64 + 1 = sz := by omega
    obtain ⟨f1, f2, f3, f4, f5, f6, f7, f8, f9, f10, f11⟩ := xch_facts hdl hd
    have hy := H.yv
    have htr := H.tr1
    have hle := H.le1
    have hblen : blen y = sz := by rw [hy, ← htr, f9]; omega
    have hodd : y % 2 = 1 := by rw [hy, ← htr]; exact f10
    unfold xnx
    rw [if_neg (by omega), if_neg (by omega), if_neg (by omega), g8, hq1, hq2, if_neg (by omega), g3, if_neg (by omega)]
    simp only [catN, List.map_cons, List.map_nil, List.sum_cons, List.sum_nil]
    have e : y * 2 ^ (64 - le - sz) = d := by
      rw [show 64 - le - sz = tr by omega, hy, ← htr]
      exact f11
    rw [e]
    simp [Nat.add_assoc]
theorem xor_back (a x : Nat) : (a ^^^ x) ^^^ a = x := by rw [Nat.xor_comm a x, Nat.xor_assoc, Nat.xor_self, Nat.xor_zero]
theorem xnx_lt {s : ByteArray} {q x q' : Nat} {b : Bool} (h : xnx s q = some (x, q', b)) : q < q' ∧ q' ≤ 8 * s.size ∧ x < 18446744073709551616 := by
  unfold xnx at h
  split at h
  · exact absurd h (by simp)
  split at h
  · simp at h; omega
  split at h
  · exact absurd h (by simp)
  split at h
  · exact absurd h (by simp)
  split at h
  · simp at h; omega
  · rename_i h1 h2 h3 h4 h5
    simp only [Option.some.injEq, Prod.mk.injEq] at h
    have h6 := (xch_of (y := getB s.data.toList (q + 13) (getB s.data.toList (q + 1) 12 % 64 + 1)) (le := getB s.data.toList (q + 1) 12 / 64) (sz := getB s.data.toList (q + 1) 12 % 64 + 1) (by omega) (by omega) (by omega) (by omega) (getB_lt _ _ _)).1
    omega
theorem xat_next {s : ByteArray} {ls : List Nat} {q x q' : Nat} (h : XAt s ls q) (hne : ls ≠ []) (hx : xnx s q = some (x, q', false)) : XAt s (ls ++ [ls.getLast?.getD 0 ^^^ x]) q' := by
  obtain ⟨h1, h2, h3⟩ := h
  have hl := xnx_lt hx
  have hla := getLastD_lt h3
  have hp : xpart ls (ls.getLast?.getD 0 ^^^ x) = xch x := by
    unfold xpart
    rw [if_neg hne, xor_back]
  have hall : ∀ n ∈ ls ++ [ls.getLast?.getD 0 ^^^ x], n < 18446744073709551616 := by
    intro n hn
    rcases List.mem_append.1 hn with hn | hn
    · exact h3 n hn
    · rw [List.mem_singleton] at hn; subst hn; exact xor_lt hla hl.2.2
  refine ⟨?_, ?_, hall⟩ <;> rw [xenc_snoc, hp]
  all_goals
    unfold xnx at hx
    split at hx
    · exact absurd hx (by simp)
    split at hx
    · rename_i g1 g2
      simp only [Option.some.injEq, Prod.mk.injEq] at hx
      obtain ⟨rfl, rfl, _⟩ := hx
      have := xat_add h1 h2 g2 (by omega)
      rw [show xch 0 = [(0, 1)] from rfl]
      first | exact this.1 | exact this.2
    split at hx
    · exact absurd hx (by simp)
    split at hx
    · exact absurd hx (by simp)
    split at hx
    · simp at hx
    rename_i g1 g2 g3 g4 g5
    simp only [Option.some.injEq, Prod.mk.injEq] at hx
    obtain ⟨rfl, rfl, _⟩ := hx
    have hc := (xch_of (y := getB s.data.toList (q + 13) (getB s.data.toList (q + 1) 12 % 64 + 1)) (le := getB s.data.toList (q + 1) 12 / 64) (sz := getB s.data.toList (q + 1) 12 % 64 + 1) (by omega) (by omega) (by omega) (by omega) (getB_lt _ _ _)).2
    have h13 := getB_13 s q (by omega)
    have hb1 : getB s.data.toList q 1 = 1 := by
      rcases bit01 s q with h | h
      · exact absurd h g2
      · exact h
    have h12 := getB_lt s.data.toList (q + 1) 12
    have hv : getB s.data.toList q 13 = 4096 + getB s.data.toList (q + 1) 12 / 64 * 64 + (getB s.data.toList (q + 1) 12 % 64 + 1 - 1) := by rw [h13, hb1]; omega
    have a1 := xat_add h1 h2 hv (by omega)
    have a2 := xat_add a1.1 a1.2 (c := getB s.data.toList (q + 1) 12 % 64 + 1) rfl (by omega)
    rw [hc, show ∀ (a : List (Nat × Nat)) x y, a ++ [x, y] = (a ++ [x]) ++ [y] by intros; simp]
    first | exact a2.1 | exact a2.2
end Go.Proofs.YtihoemimiplhfaaDoor
