/-
  Doubles in a column: the bits of what differs.
-/
import Derived.Test.YtihoemimiplhfaaDoorBackMath
import Derived.Test.YtihoemimiplhfaaDoorBitsNum
namespace Go.Proofs.YtihoemimiplhfaaDoor
open Go.RowKit

/-- the bits of what differs: numbers, and how many bits each has -/
def xch (x : Nat) : List (Nat × Nat) :=
  if x = 0 then [(0, 1)] else [(4096 + (64 - blen x) * 64 + (blen x - tz x - 1), 13), (x / 2 ^ tz x, blen x - tz x)]
/-- the bits of numbers, the last one ahead -/
def xencR : List Nat → List (Nat × Nat)
  | [] => []
  | [n] => [(n, 64)]
  | n :: a :: t => xencR (a :: t) ++ xch (n ^^^ a)
def xenc (l : List Nat) : List (Nat × Nat) := xencR l.reverse
/-- what one more number adds -/
def xpart (l : List Nat) (n : Nat) : List (Nat × Nat) := if l = [] then [(n, 64)] else xch (n ^^^ l.getLast?.getD 0)
theorem xenc_snoc (l : List Nat) (n : Nat) : xenc (l ++ [n]) = xenc l ++ xpart l n := by
  unfold xenc xpart
  rw [List.reverse_append, List.reverse_singleton, List.singleton_append]
  rcases List.eq_nil_or_concat l with rfl | ⟨t, a, rfl⟩
  · rfl
  · rw [List.concat_eq_append, List.reverse_append, List.reverse_singleton, List.singleton_append, xencR]
    simp
theorem xenc_take {l : List Nat} {i : Nat} (h : i < l.length) : xenc (l.take (i + 1)) = xenc (l.take i) ++ xpart (l.take i) l[i] := by
  rw [List.take_succ_eq_append_getElem h, xenc_snoc]
theorem xch_facts {x : Nat} (hx : x < 2 ^ 64) (h0 : x ≠ 0) : 64 - blen x < 64 ∧ blen x - tz x - 1 < 64 ∧ blen x - tz x ≤ 64 ∧ 1 ≤ blen x - tz x ∧ x / 2 ^ tz x < 2 ^ (blen x - tz x) ∧ blen x ≤ 64 ∧ 1 ≤ blen x ∧ tz x < blen x ∧ blen (x / 2 ^ tz x) = blen x - tz x ∧ x / 2 ^ tz x % 2 = 1 ∧ x / 2 ^ tz x * 2 ^ tz x = x := by
  obtain ⟨b1, b2, b3⟩ := blen_bound hx
  obtain ⟨b4, b5⟩ := b3 (by omega)
  obtain ⟨t1, t2, t3⟩ := tz_spec (by omega : 0 < x) hx
  have hp : 2 ^ tz x ≤ x := by
    have h1 : 0 < x / 2 ^ tz x := by
      rcases Nat.eq_zero_or_pos (x / 2 ^ tz x) with h | h
      · rw [h] at t2; simp at t2
      · exact h
    have h2 : 2 ^ tz x ≤ x / 2 ^ tz x * 2 ^ tz x := Nat.le_mul_of_pos_left _ h1
    exact Nat.le_trans h2 (Nat.le_of_eq t3)
  have ht : tz x < blen x := by
    rcases Nat.lt_or_ge (tz x) (blen x) with h | h
    · exact h
    · have := Nat.pow_le_pow_right (by omega : 0 < 2) h
      omega
  have hs : x / 2 ^ tz x < 2 ^ (blen x - tz x) := by
    apply Nat.div_lt_of_lt_mul
    rw [← Nat.pow_add]
    rw [show tz x + (blen x - tz x) = blen x by omega]
    exact b1
  have hb : blen (x / 2 ^ tz x) = blen x - tz x := by
    refine blen_unique (Nat.lt_of_le_of_lt (Nat.div_le_self _ _) hx) hs (fun _ => ?_)
    rw [Nat.le_div_iff_mul_le (Nat.pow_pos (by omega)), ← Nat.pow_add]
    rw [show blen x - tz x - 1 + tz x = blen x - 1 by omega]
    exact b4
  exact ⟨by omega, by omega, by omega, by omega, hs, b2, b5, ht, hb, t2, t3⟩
theorem xch_ok {x : Nat} (hx : x < 2 ^ 64) : ∀ y ∈ xch x, y.1 < 2 ^ y.2 ∧ y.2 ≤ 64 := by
  unfold xch
  intro y hy
  split at hy
  · simp at hy; subst hy; simp
  · rename_i h0
    obtain ⟨f1, f2, f3, f4, f5, _⟩ := xch_facts hx h0
    simp at hy
    rcases hy with rfl | rfl
    · simp only; omega
    · exact ⟨f5, f3⟩
theorem xor_lt {a b : Nat} (ha : a < 18446744073709551616) (hb : b < 18446744073709551616) : a ^^^ b < 18446744073709551616 := Nat.xor_lt_two_pow (n := 64) ha hb
theorem getLastD_lt {l : List Nat} (h : ∀ n ∈ l, n < 18446744073709551616) : l.getLast?.getD 0 < 18446744073709551616 := by
  cases hh : l.getLast? with
  | none => simp
  | some x => exact h x (List.mem_of_getLast? hh)
theorem xencR_ok : ∀ (l : List Nat), (∀ n ∈ l, n < 18446744073709551616) → ∀ y ∈ xencR l, y.1 < 2 ^ y.2 ∧ y.2 ≤ 64
  | [], _, y, hy => by simp [xencR] at hy
  | [n], h, y, hy => by
    simp [xencR] at hy
    subst hy
    exact ⟨h n (by simp), Nat.le_refl _⟩
  | n :: a :: t, h, y, hy => by
    rw [xencR] at hy
    rcases List.mem_append.1 hy with hy | hy
    · exact xencR_ok (a :: t) (fun m hm => h m (List.mem_cons_of_mem _ hm)) y hy
    · exact xch_ok (xor_lt (h n (by simp)) (h a (by simp))) y hy
theorem xenc_ok (l : List Nat) (h : ∀ n ∈ l, n < 18446744073709551616) : ∀ y ∈ xenc l, y.1 < 2 ^ y.2 ∧ y.2 ≤ 64 := xencR_ok l.reverse (fun n hn => h n (by simpa using hn))
theorem xenc_lt {l : List Nat} (h : ∀ n ∈ l, n < 18446744073709551616) : ∀ x ∈ xenc l, x.1 < 2 ^ x.2 := fun x hx => (xenc_ok l h x hx).1

/-- the bytes of numbers -/
def xbytes (l : List Nat) : List UInt8 := packB (catN (xenc l)) (catV (xenc l))
/-- a text that is the column of c numbers -/
def GoodX (s : ByteArray) (c : Nat) (l : List Nat) : Prop := l.length = c ∧ s.data.toList = xbytes l ∧ ∀ n ∈ l, n < 18446744073709551616
theorem xbytes_length (l : List Nat) : (xbytes l).length = (catN (xenc l) + 7) / 8 := packB_length _ _
/-- the bits that stand behind others -/
theorem getB_mid {a b : List (Nat × Nat)} {v c : Nat} (h : ∀ x ∈ a ++ (v, c) :: b, x.1 < 2 ^ x.2) : getB (packB (catN (a ++ (v, c) :: b)) (catV (a ++ (v, c) :: b))) (catN a) c = v := by
  have hj : a.length < (a ++ (v, c) :: b).length := by simp
  have := getB_cat h hj
  rw [List.take_left] at this
  simp at this
  exact this
theorem good_mid {s : ByteArray} {c : Nat} {l : List Nat} (hg : GoodX s c l) {a b : List (Nat × Nat)} {v k : Nat} (e : xenc l = a ++ (v, k) :: b) : getB s.data.toList (catN a) k = v ∧ catN a + k ≤ 8 * s.size := by
  have h1 := xenc_lt hg.2.2
  have hl : s.size = (xbytes l).length := by rw [← hg.2.1]; simp
  rw [xbytes_length] at hl
  rw [hg.2.1]
  unfold xbytes
  rw [e] at h1 hl ⊢
  refine ⟨getB_mid h1, ?_⟩
  have h2 : catN (a ++ (v, k) :: b) = catN a + (k + catN b) := by rw [catN_append]; simp [catN]
  omega
theorem catN_two (a : List (Nat × Nat)) (x : Nat × Nat) : catN (a ++ [x]) = catN a + x.2 := catN_snoc a x
/-- the rest of the text behind all numbers -/
theorem good_rest {s : ByteArray} {c : Nat} {l : List Nat} (hg : GoodX s c l) : 8 * s.size - catN (xenc l) < 8 ∧ catN (xenc l) ≤ 8 * s.size ∧ getB s.data.toList (catN (xenc l)) (8 * s.size - catN (xenc l)) = 0 := by
  have hl : s.size = (xbytes l).length := by rw [← hg.2.1]; simp
  rw [xbytes_length] at hl
  refine ⟨by omega, by omega, ?_⟩
  rw [hg.2.1]
  unfold xbytes
  rw [hl]
  exact getB_rest (catV_lt _ (xenc_lt hg.2.2))
theorem xenc_split {l : List Nat} {i : Nat} (h : i < l.length) : ∃ b, xenc l = xenc (l.take i) ++ (xpart (l.take i) l[i] ++ b) := by
  have key : ∀ (k : Nat), k ≤ l.length → i + 1 ≤ k → ∃ b, xenc (l.take k) = xenc (l.take (i + 1)) ++ b := by
    intro k
    induction k with
    | zero => intro _ h; omega
    | succ k ih =>
      intro h1 h2
      by_cases hk : i + 1 = k + 1
      · rw [hk]; exact ⟨[], by simp⟩
      · obtain ⟨b, hb⟩ := ih (by omega) (by omega)
        rw [xenc_take (by omega : k < l.length), hb]
        exact ⟨b ++ _, by rw [List.append_assoc]⟩
  obtain ⟨b, hb⟩ := key l.length (Nat.le_refl _) h
  rw [List.take_length, xenc_take h] at hb
  exact ⟨b, by rw [hb, List.append_assoc]⟩
/-- as far as what was read tells: the numbers so far, the place, and nothing was wrong -/
def XAt (s : ByteArray) (ls : List Nat) (q : Nat) : Prop := q = catN (xenc ls) ∧ getB s.data.toList 0 q = catV (xenc ls) ∧ ∀ n ∈ ls, n < 18446744073709551616
theorem xat_start (s : ByteArray) : XAt s [] 0 := ⟨rfl, by rw [getB_zero]; rfl, by simp⟩
theorem xat_add {s : ByteArray} {a : List (Nat × Nat)} {q v c : Nat} (h1 : q = catN a) (h2 : getB s.data.toList 0 q = catV a) (hv : getB s.data.toList q c = v) (hq : q + c ≤ 8 * s.size) : q + c = catN (a ++ [(v, c)]) ∧ getB s.data.toList 0 (q + c) = catV (a ++ [(v, c)]) := by
  refine ⟨by rw [catN_snoc, h1], ?_⟩
  rw [getB_part s.data.toList 0 q c (by simp; omega), h2, catV_snoc, Nat.zero_add, hv]
theorem xat_done {s : ByteArray} {ls : List Nat} {q c : Nat} (h : XAt s ls q) (hc : ls.length = c) (hq : q ≤ 8 * s.size) (h8 : 8 * s.size - q < 8) (h0 : getB s.data.toList q (8 * s.size - q) = 0) : GoodX s c ls := by
  refine ⟨hc, ?_, h.2.2⟩
  have hl : s.data.toList.length = s.size := by simp
  have hp := getB_part s.data.toList 0 q (8 * s.size - q) (by omega)
  rw [Nat.zero_add, h0, h.2.1, Nat.add_zero, show q + (8 * s.size - q) = 8 * s.size by omega] at hp
  have hb : getB s.data.toList 0 (8 * s.size) = beVal s.data.toList := by
    unfold getB
    rw [hl, Nat.sub_zero, Nat.sub_self, Nat.pow_zero, Nat.div_one]
    apply Nat.mod_eq_of_lt
    have := beVal_lt s.data.toList
    rw [hl] at this
    rw [Nat.pow_mul]
    exact this
  rw [hb] at hp
  unfold xbytes packB
  rw [← h.1]
  have h9 : (q + 7) / 8 = s.size := by omega
  rw [h9, ← hp, ← hl, beBytes_val]
end Go.Proofs.YtihoemimiplhfaaDoor
