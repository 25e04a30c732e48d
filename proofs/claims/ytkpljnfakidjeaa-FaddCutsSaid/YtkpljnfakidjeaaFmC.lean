/-
  The sum of two doubles, and what follows.
-/
import Derived.Test.YtkpljnfakidjeaaFmB
namespace Go.Proofs.Ytkpljnfakidjeaa.Fm

def sg (x : Nat) : Nat := x / 2^63
def sz (x : Nat) : Nat := x % 2^63

theorem inf_lt : inf < 2^63 := by decide

def cls (x : Nat) : Nat := if inf < sz x then 4 else if sz x = inf then 3 else if 2^52 ≤ sz x then 2 else if 0 < sz x then 1 else 0

def ngt (x : Nat) : Nat := (1 - sg x) * 2^63 + sz x

def quiet (x : Nat) : Nat := if x / 2^51 % 2 = 1 then x else x + 2^51

def fin (a b : Nat) : Nat :=
  if sg a = sg b then sg a * 2^63 + rnd (dec (sz a) + dec (sz b))
  else if sz a = sz b then 0
  else if sz b < sz a then sg a * 2^63 + rnd (dec (sz a) - dec (sz b))
  else sg b * 2^63 + rnd (dec (sz b) - dec (sz a))

def add (a b : Nat) : Nat :=
  if cls a = 4 then quiet a else if cls b = 4 then quiet b
  else if cls a = 3 ∧ cls b = 3 ∧ a ≠ b then 0x7FF8000000000000
  else if cls a = 3 then a else if cls b = 3 then b else fin a b

def sub (a b : Nat) : Nat := if cls b = 4 then add a b else add a (ngt b)

theorem rnd_le (S : Nat) : rnd S ≤ inf := by unfold rnd; exact Nat.min_le_right _ _

theorem parts_eq (x : Nat) : x = sg x * 2^63 + sz x := by unfold sg sz; omega
theorem sz_lt (x : Nat) : sz x < 2^63 := by unfold sz; omega
theorem sg_lt {x : Nat} (h : x < 2^64) : sg x = 0 ∨ sg x = 1 := by unfold sg; omega
theorem sg_mk {s r : Nat} (hr : r < 2^63) : sg (s * 2^63 + r) = s := by unfold sg; omega
theorem sz_mk {s r : Nat} (hr : r < 2^63) : sz (s * 2^63 + r) = r := by unfold sz; omega
theorem sg_rnd {s S : Nat} : sg (s * 2^63 + rnd S) = s := sg_mk (Nat.lt_of_le_of_lt (rnd_le S) inf_lt)
theorem sz_rnd {s S : Nat} : sz (s * 2^63 + rnd S) = rnd S := sz_mk (Nat.lt_of_le_of_lt (rnd_le S) inf_lt)
theorem sg_ngt (x : Nat) : sg (ngt x) = 1 - sg x := sg_mk (sz_lt x)
theorem sz_ngt (x : Nat) : sz (ngt x) = sz x := sz_mk (sz_lt x)
theorem cls_ngt (x : Nat) : cls (ngt x) = cls x := by unfold cls; rw [sz_ngt]
theorem ngt_lt {x : Nat} : ngt x < 2^64 := by have := sz_lt x; unfold ngt; omega
theorem ngt_ngt {x : Nat} (h : x < 2^64) : ngt (ngt x) = x := by
  have := parts_eq x
  have := sg_lt h
  rw [ngt, sg_ngt, sz_ngt]
  omega

theorem cls_fin {x : Nat} : cls x ≤ 2 ↔ sz x < inf := by
  unfold cls
  repeat' split
  all_goals omega
theorem cls_nan {x : Nat} : cls x = 4 ↔ inf < sz x := by
  unfold cls
  repeat' split
  all_goals omega
theorem cls_inf {x : Nat} : cls x = 3 ↔ sz x = inf := by
  unfold cls
  repeat' split
  all_goals omega

theorem rnd_zero : rnd 0 = 0 := by
  have := rnd_dec (x := 0) (by decide)
  rwa [show dec 0 = 0 by simp [dec]] at this

theorem dec_zero : dec 0 = 0 := by simp [dec]

theorem fin_sz {a b : Nat} : sz (fin a b) ≤ inf := by
  unfold fin
  split
  · rw [sz_rnd]; exact rnd_le _
  · split
    · simp [sz]
    · split <;> (rw [sz_rnd]; exact rnd_le _)

theorem fin_lt {a b : Nat} (ha : a < 2^64) (hb : b < 2^64) : fin a b < 2^64 := by
  have h1 := sg_lt ha; have h2 := sg_lt hb
  have hi : inf < 2^63 := by decide
  have r1 := rnd_le (dec (sz a) + dec (sz b)); have r2 := rnd_le (dec (sz a) - dec (sz b)); have r3 := rnd_le (dec (sz b) - dec (sz a))
  unfold fin
  split
  · omega
  · split
    · omega
    · split <;> omega

theorem quiet_lt {a : Nat} (ha : a < 2^64) : quiet a < 2^64 := by unfold quiet; split <;> omega

theorem add_lt {a b : Nat} (ha : a < 2^64) (hb : b < 2^64) : add a b < 2^64 := by
  have := fin_lt ha hb; have := quiet_lt ha; have := quiet_lt hb
  unfold add
  repeat' split
  all_goals omega

theorem fin_comm {a b : Nat} : fin a b = fin b a := by
  unfold fin
  by_cases h : sg a = sg b
  · rw [if_pos h, if_pos h.symm, h, Nat.add_comm (dec (sz a))]
  · have h' : ¬ sg b = sg a := fun e => h e.symm
    rw [if_neg h, if_neg h']
    by_cases h2 : sz a = sz b
    · rw [if_pos h2, if_pos h2.symm]
    · have h2' : ¬ sz b = sz a := fun e => h2 e.symm
      rw [if_neg h2, if_neg h2']
      by_cases h3 : sz b < sz a
      · rw [if_pos h3, if_neg (show ¬ sz a < sz b by omega)]
      · rw [if_neg h3, if_pos (show sz a < sz b by omega)]

theorem fin_ngt {a b : Nat} (ha : a < 2^64) (hb : b < 2^64) : fin (ngt a) (ngt b) = ngt (fin a b) ∨ (fin a b = 0 ∧ fin (ngt a) (ngt b) = 0) := by
  have h1 := sg_lt ha; have h2 := sg_lt hb
  unfold fin
  rw [sg_ngt, sg_ngt, sz_ngt, sz_ngt]
  by_cases h : sg a = sg b
  · rw [if_pos (by omega), if_pos h]
    left
    rw [ngt, sg_rnd, sz_rnd]
  · rw [if_neg (by omega), if_neg h]
    by_cases h2 : sz a = sz b
    · rw [if_pos h2, if_pos h2]; right; exact ⟨rfl, rfl⟩
    · rw [if_neg h2, if_neg h2]
      left
      by_cases h3 : sz b < sz a
      · rw [if_pos h3, if_pos h3, ngt, sg_rnd, sz_rnd]
      · rw [if_neg h3, if_neg h3, ngt, sg_rnd, sz_rnd]

theorem fin_self {a : Nat} (ha : a < 2^64) : fin a (ngt a) = 0 := by
  have h1 := sg_lt ha
  unfold fin
  rw [sg_ngt, sz_ngt, if_neg (by omega), if_pos rfl]

theorem fin_zero {a : Nat} (ha : a < 2^64) (hf : sz a < inf) (h : a ≠ 2^63) : fin a 0 = a := by
  have h1 := sg_lt ha
  have e := parts_eq a
  have r : rnd (dec (sz a)) = sz a := rnd_dec (by omega)
  unfold fin
  rw [show sg 0 = 0 by simp [sg], show sz 0 = 0 by simp [sz], dec_zero]
  by_cases h0 : sg a = 0
  · rw [if_pos h0, Nat.add_zero, r]; exact e.symm
  · rw [if_neg h0, if_neg (by omega), if_pos (by omega), Nat.sub_zero, r]; exact e.symm

theorem fin_minus {a : Nat} (ha : a < 2^64) (hf : sz a < inf) : fin a (2^63) = a := by
  have h1 := sg_lt ha
  have e := parts_eq a
  have r : rnd (dec (sz a)) = sz a := rnd_dec (by omega)
  unfold fin
  rw [show sg (2^63) = 1 by simp [sg], show sz (2^63) = 0 by simp [sz], dec_zero]
  by_cases h0 : sg a = 1
  · rw [if_pos h0, Nat.add_zero, r]; exact e.symm
  · rw [if_neg h0]
    by_cases h2 : sz a = 0
    · rw [if_pos h2]; omega
    · rw [if_neg h2, if_pos (by omega), Nat.sub_zero, r]; exact e.symm

/-- as signed numbers. -/
def num (x : Nat) : Int := if sg x = 1 then -(sz x : Int) else (sz x : Int)
def val (x : Nat) : Int := if sg x = 1 then -(dec (sz x) : Int) else (dec (sz x) : Int)
def srnd (z : Int) : Int := if z < 0 then -(rnd z.natAbs : Int) else (rnd z.natAbs : Int)

theorem srnd_mono {z w : Int} (h : z ≤ w) : srnd z ≤ srnd w := by
  unfold srnd
  split <;> split
  · have := rnd_mono (S := w.natAbs) (T := z.natAbs) (by omega); omega
  · omega
  · omega
  · have := rnd_mono (S := z.natAbs) (T := w.natAbs) (by omega); omega

theorem val_mono {a b : Nat} (ha : sz a ≤ inf) (hb : sz b ≤ inf) (h : num a ≤ num b) : val a ≤ val b := by
  have l1 := @dec_le (sz a) (sz b) ha hb
  have l2 := @dec_le (sz b) (sz a) hb ha
  have hz := dec_zero
  unfold num at h; unfold val
  split at h <;> split at h
  · rw [if_pos (by assumption), if_pos (by assumption)]; have := l1 (by omega); omega
  · rw [if_pos (by assumption), if_neg (by assumption)]; omega
  · rw [if_neg (by assumption), if_pos (by assumption)]
    have e1 : sz a = 0 := by omega
    have e2 : sz b = 0 := by omega
    rw [e1, e2, hz]; omega
  · rw [if_neg (by assumption), if_neg (by assumption)]; have := l2 (by omega); omega

theorem num_of {x : Nat} (h : sg x ≠ 1) : num x = (sz x : Int) := if_neg h
theorem num_of1 {x : Nat} (h : sg x = 1) : num x = -(sz x : Int) := if_pos h
theorem val_of {x : Nat} (h : sg x ≠ 1) : val x = (dec (sz x) : Int) := if_neg h
theorem val_of1 {x : Nat} (h : sg x = 1) : val x = -(dec (sz x) : Int) := if_pos h
theorem srnd_pos {z : Int} {S : Nat} (h : z = (S : Int)) : srnd z = (rnd S : Int) := by
  unfold srnd
  rw [if_neg (by omega), show z.natAbs = S by omega]
theorem srnd_neg {z : Int} {S : Nat} (h : z = -(S : Int)) : srnd z = -(rnd S : Int) := by
  unfold srnd
  rw [show z.natAbs = S by omega]
  split
  · rfl
  · rw [show S = 0 by omega, rnd_zero]; rfl
theorem num_rnd0 {s S : Nat} (h : s ≠ 1) : num (s * 2^63 + rnd S) = (rnd S : Int) := by
  rw [num_of (by rw [sg_rnd]; exact h), sz_rnd]
theorem num_rnd1 {s S : Nat} (h : s = 1) : num (s * 2^63 + rnd S) = -(rnd S : Int) := by
  rw [num_of1 (by rw [sg_rnd]; exact h), sz_rnd]

theorem num_fin {a b : Nat} (ha : a < 2^64) (hb : b < 2^64) (fa : sz a ≤ inf) (fb : sz b ≤ inf) : num (fin a b) = srnd (val a + val b) := by
  have h1 := sg_lt ha; have h2 := sg_lt hb
  have l1 := dec_lt fa fb
  have l2 := dec_lt fb fa
  unfold fin
  by_cases h : sg a = sg b
  · rw [if_pos h]
    rcases h1 with h1 | h1
    · rw [num_rnd0 (by omega), val_of (x := a) (by omega), val_of (x := b) (by omega)]; exact (srnd_pos (by omega)).symm
    · rw [num_rnd1 (by omega), val_of1 (x := a) (by omega), val_of1 (x := b) (by omega)]; exact (srnd_neg (by omega)).symm
  · rw [if_neg h]
    by_cases h3 : sz a = sz b
    · rw [if_pos h3]
      have : val a + val b = ((0 : Nat) : Int) := by
        unfold val; rw [h3]
        split <;> split <;> omega
      rw [srnd_pos this, rnd_zero]
      rfl
    · rw [if_neg h3]
      by_cases h4 : sz b < sz a
      · rw [if_pos h4]
        have := l2.2 h4
        rcases h1 with h1 | h1
        · rw [num_rnd0 (by omega), val_of (x := a) (by omega), val_of1 (x := b) (by omega)]; exact (srnd_pos (by omega)).symm
        · rw [num_rnd1 (by omega), val_of1 (x := a) (by omega), val_of (x := b) (by omega)]; exact (srnd_neg (by omega)).symm
      · rw [if_neg h4]
        have := l1.2 (by omega)
        rcases h2 with h2 | h2
        · rw [num_rnd0 (by omega), val_of1 (x := a) (by omega), val_of (x := b) (by omega)]; exact (srnd_pos (by omega)).symm
        · rw [num_rnd1 (by omega), val_of (x := a) (by omega), val_of1 (x := b) (by omega)]; exact (srnd_neg (by omega)).symm

theorem fin_le {a b c : Nat} (ha : a < 2^64) (hb : b < 2^64) (hc : c < 2^64) (fa : sz a ≤ inf) (fb : sz b ≤ inf) (fc : sz c ≤ inf) (h : num a ≤ num b) : num (fin a c) ≤ num (fin b c) := by
  rw [num_fin ha hc fa fc, num_fin hb hc fb fc]
  exact srnd_mono (by have := val_mono fa fb h; omega)

/-- two of one number are one, but of zeros. -/
theorem num_inj {a b : Nat} (ha : a < 2^64) (hb : b < 2^64) (h : num a = num b) (h0 : num a ≠ 0) : a = b := by
  have h1 := sg_lt ha; have h2 := sg_lt hb
  have e1 := parts_eq a; have e2 := parts_eq b
  rcases h1 with h1 | h1 <;> rcases h2 with h2 | h2
  · rw [num_of (by omega), num_of (by omega)] at h; omega
  · rw [num_of (x := a) (by omega)] at h h0; rw [num_of1 (by omega)] at h; omega
  · rw [num_of1 (x := a) (by omega)] at h h0; rw [num_of (by omega)] at h; omega
  · rw [num_of1 (by omega), num_of1 (by omega)] at h; omega

theorem two_of_add {x : Nat} (h : 2^52 ≤ x) : dec (x + 2^52) = 2 * dec x := by
  unfold dec
  rw [if_neg (by omega), if_neg (by omega)]
  have e1 : (x + 2^52) % 2^52 = x % 2^52 := by omega
  have e2 : (x + 2^52) / 2^52 - 1 = (x / 2^52 - 1) + 1 := by omega
  have e3 : 2^(x/2^52 - 1 + 1) = 2 * 2^(x/2^52 - 1) := by rw [Nat.mul_comm]; exact Nat.pow_succ _ _
  rw [e1, e2, e3, ← Nat.mul_assoc, ← Nat.mul_assoc, Nat.mul_comm 2]

/-- between the greater one and twice it. -/
theorem near_range {x y : Nat} (hx : x < inf) (hn : 2^52 ≤ x) (h : y ≤ x) : x ≤ rnd (dec x + dec y) ∧ rnd (dec x + dec y) ≤ x + 2^52 := by
  have hd : dec y ≤ dec x := dec_le (by omega) (by omega) h
  constructor
  · have := rnd_mono (S := dec x) (T := dec x + dec y) (by omega)
    rwa [rnd_dec (by omega)] at this
  · rcases Nat.lt_or_ge inf (x + 2^52) with h1 | h1
    · have := rnd_le (dec x + dec y); omega
    · have := rnd_mono (S := dec x + dec y) (T := dec (x + 2^52)) (by rw [two_of_add hn]; omega)
      rwa [rnd_dec h1] at this

theorem rne_near {q r k : Nat} : rne (q * 2^k + r) k = g (4*q + stk (4*r) k) := by
  unfold rne
  have : 4 * (q * 2^k + r) = 2*(2*q)*2^k + 4*r := by
    rw [Nat.mul_add, ← Nat.mul_assoc, ← Nat.mul_assoc]
  rw [this, stk_add rfl]
  congr 1
  omega

theorem rnd_normal {x r : Nat} (hn : 2^52 ≤ x) (hr : r < 2^(x/2^52 - 1)) :
    rnd (dec x + r) = min ((x / 2^52 - 1) * 2^52 + g (4 * (x % 2^52 + 2^52) + stk (4*r) (x/2^52 - 1))) inf := by
  have e : dec x = (x % 2^52 + 2^52) * 2^(x/2^52 - 1) := by unfold dec; rw [if_neg (by omega)]
  rw [e]
  have hm := Nat.mod_lt x (Nat.two_pow_pos 52)
  rw [rnd_eq (k := x/2^52 - 1), rne_near]
  · right
    rw [Nat.pow_add]
    have := Nat.mul_le_mul_right (2^(x/2^52-1)) (show 2^52 ≤ x % 2^52 + 2^52 by omega)
    omega
  · rw [Nat.pow_add]
    have := Nat.mul_le_mul_right (2^(x/2^52-1)) (show x % 2^52 + 2^52 + 1 ≤ 2^53 by omega)
    rw [Nat.add_mul, Nat.one_mul] at this
    omega

/-- what is less than half a place changes nothing. -/
theorem near_less {x r : Nat} (hx : x < inf) (hn : 2^52 ≤ x) (hr : 2*r < 2^(x/2^52 - 1)) : rnd (dec x + r) = x := by
  rw [rnd_normal hn (by omega)]
  have hs : stk (4*r) (x/2^52 - 1) ≤ 1 := by
    have := (stk_spec (4*r) (x/2^52-1)).gt 1
    omega
  have : g (4 * (x % 2^52 + 2^52) + stk (4*r) (x/2^52 - 1)) = x % 2^52 + 2^52 := by
    unfold g
    split <;> omega
  rw [this]
  have h2 : inf = 2047 * 2^52 := rfl
  omega

/-- just half a place. -/
theorem near_half {x r : Nat} (hx : x < inf) (hn : 2^52 ≤ x) (hr : 2*r = 2^(x/2^52 - 1)) : rnd (dec x + r) = x + x % 2 := by
  have hp := Nat.two_pow_pos (x/2^52 - 1)
  rw [rnd_normal hn (by omega)]
  have hs : stk (4*r) (x/2^52 - 1) = 2 := stk_exact (by omega)
  rw [hs]
  have : g (4 * (x % 2^52 + 2^52) + 2) = x % 2^52 + 2^52 + x % 2 := by
    unfold g
    split <;> omega
  rw [this]
  have h2 : inf = 2047 * 2^52 := rfl
  omega

theorem dec_lt_pow (y : Nat) : dec y < 2^(53 + (y / 2^52 - 1)) := by
  unfold dec
  split
  · have := Nat.pow_le_pow_right (n := 2) (by decide) (show 53 ≤ 53 + (y/2^52-1) by omega)
    omega
  · rw [Nat.pow_add]
    exact Nat.mul_lt_mul_of_pos_right (by omega) (Nat.two_pow_pos _)

/-- far less. -/
theorem near_far {x y : Nat} (hx : x < inf) (h : y / 2^52 + 54 < x / 2^52) : rnd (dec x + dec y) = x := by
  refine near_less hx (by omega) ?_
  have a := dec_lt_pow y
  have : 2 * 2^(53 + (y / 2^52 - 1)) ≤ 2^(x/2^52 - 1) := by
    rw [Nat.mul_comm, ← Nat.pow_succ]
    exact Nat.pow_le_pow_right (by decide) (by omega)
  omega

/-- 53 less, a power of two. -/
theorem near_tie {x y : Nat} (hx : x < inf) (h : y / 2^52 + 53 = x / 2^52) (h0 : 0 < y / 2^52) (hy : y % 2^52 = 0) : rnd (dec x + dec y) = x + x % 2 := by
  refine near_half hx (by omega) ?_
  have : dec y = 2^52 * 2^(y/2^52 - 1) := by unfold dec; rw [if_neg (by omega), hy, Nat.zero_add]
  rw [this, ← Nat.pow_add, Nat.mul_comm, ← Nat.pow_succ]
  congr 1; omega

/-- of Class and Add. -/
theorem quiet_nan {a : Nat} (h : cls a = 4) : cls (quiet a) = 4 ∧ quiet a / 2^51 % 2 = 1 := by
  rw [cls_nan] at h ⊢
  unfold quiet
  split
  · exact ⟨h, by assumption⟩
  · unfold sz inf at *; omega

theorem cls_cases (x : Nat) : cls x = 4 ∨ cls x = 3 ∨ cls x ≤ 2 := by
  unfold cls
  repeat' split
  all_goals omega

theorem add_fin {a b : Nat} (ha : cls a ≤ 2) (hb : cls b ≤ 2) : add a b = fin a b := by
  unfold add
  rw [if_neg (by omega), if_neg (by omega), if_neg (by omega), if_neg (by omega), if_neg (by omega)]

theorem cls_of_fin {a b : Nat} : cls (fin a b) ≠ 4 := by
  intro h
  rw [cls_nan] at h
  have := @fin_sz a b
  omega

theorem add_comm' {a b : Nat} (ha : cls a ≠ 4) (hb : cls b ≠ 4) : add a b = add b a := by
  unfold add
  rw [if_neg ha, if_neg hb, if_neg hb, if_neg ha]
  by_cases h : cls a = 3
  · by_cases h2 : cls b = 3
    · by_cases h3 : a = b
      · subst h3; rfl
      · rw [if_pos ⟨h, h2, h3⟩, if_pos ⟨h2, h, fun e => h3 e.symm⟩]
    · rw [if_neg (by omega), if_pos h, if_neg (by omega), if_neg h2, if_pos h]
  · by_cases h2 : cls b = 3
    · rw [if_neg (by omega), if_neg h, if_pos h2, if_neg (by omega), if_pos h2]
    · rw [if_neg (by omega), if_neg h, if_neg h2, if_neg (by omega), if_neg h2, if_neg h, fin_comm]

theorem nan_cls : cls 0x7FF8000000000000 = 4 := by decide

theorem other_sign (s t x P : Nat) (hs : s = 0 ∨ s = 1) (ht : t = 0 ∨ t = 1) (hn : s * P + x ≠ t * P + x) : t * P + x = (1 - s) * P + x := by
  rcases hs with hs | hs <;> rcases ht with ht | ht <;> subst hs <;> subst ht
  · exact absurd rfl hn
  · rfl
  · rfl
  · exact absurd rfl hn

theorem ngt_of {a b : Nat} (la : a < 2^64) (lb : b < 2^64) (h : sz a = sz b) (h3 : a ≠ b) : b = ngt a := by
  have e := other_sign (sg a) (sg b) (sz a) (2^63) (sg_lt la) (sg_lt lb)
  have ea := (parts_eq a).symm
  have eb := (parts_eq b).symm
  rw [← h] at eb
  rw [ea, eb] at e
  exact e h3

/-- when the sum of two that are not NaN is NaN. -/
theorem add_nan {a b : Nat} (la : a < 2^64) (lb : b < 2^64) (ha : cls a ≠ 4) (hb : cls b ≠ 4) : cls (add a b) = 4 ↔ (cls a = 3 ∧ b = ngt a) := by
  have hf := @cls_of_fin a b
  unfold add
  rw [if_neg ha, if_neg hb]
  by_cases h : cls a = 3
  · by_cases h2 : cls b = 3
    · by_cases h3 : a = b
      · subst h3
        rw [if_neg (by simp), if_pos h]
        have := parts_eq a; have := sg_lt la
        constructor
        · omega
        · rintro ⟨_, e⟩
          unfold ngt at e; omega
      · rw [if_pos ⟨h, h2, h3⟩]
        refine ⟨fun hq => ⟨h, ?_⟩, fun _ => nan_cls⟩
        rw [cls_inf] at h h2
        exact ngt_of la lb (h.trans h2.symm) h3
    · rw [if_neg (by omega), if_pos h]
      constructor
      · omega
      · rintro ⟨_, e⟩
        rw [e, cls_ngt] at h2; omega
  · by_cases h2 : cls b = 3
    · rw [if_neg (by omega), if_neg h, if_pos h2]; constructor <;> omega
    · rw [if_neg (by omega), if_neg h, if_neg h2]; constructor
      · intro e; exact absurd e hf
      · omega

theorem cls_zero : cls 0 = 0 := by decide
theorem cls_minus : cls (2^63) = 0 := by decide +kernel

theorem add_zero' {a : Nat} (la : a < 2^64) (ha : cls a ≠ 4) (h : a ≠ 2^63) : add a 0 = a := by
  have hz := cls_zero
  unfold add
  rw [if_neg ha, if_neg (by omega), if_neg (by omega)]
  by_cases h3 : cls a = 3
  · rw [if_pos h3]
  · rw [if_neg h3, if_neg (by omega)]
    have := cls_cases a
    exact fin_zero la (cls_fin.1 (by omega)) h

theorem add_minus {a : Nat} (la : a < 2^64) (ha : cls a ≠ 4) : add a (2^63) = a := by
  have hz := cls_minus
  unfold add
  rw [if_neg ha, if_neg (by omega), if_neg (by omega)]
  by_cases h3 : cls a = 3
  · rw [if_pos h3]
  · rw [if_neg h3, if_neg (by omega)]
    have := cls_cases a
    exact fin_minus la (cls_fin.1 (by omega))

theorem add_self {a : Nat} (la : a < 2^64) (ha : cls a ≠ 4) (h : cls a ≠ 3) : add a (ngt a) = 0 := by
  have := cls_cases a
  rw [add_fin (by omega) (by rw [cls_ngt]; omega), fin_self la]

theorem add_ngt {a b : Nat} (la : a < 2^64) (lb : b < 2^64) (ha : cls a ≠ 4) (hb : cls b ≠ 4) (hn : cls (add a b) ≠ 4) :
    add (ngt a) (ngt b) = ngt (add a b) ∨ (add a b = 0 ∧ add (ngt a) (ngt b) = 0) := by
  have h1 := cls_cases a; have h2 := cls_cases b
  have hn' := hn
  rw [Ne, add_nan la lb ha hb] at hn'
  unfold add
  rw [cls_ngt, cls_ngt, if_neg ha, if_neg hb, if_neg ha, if_neg hb]
  have p1 := parts_eq a; have p2 := sg_lt la; have p3 := parts_eq b; have p4 := sg_lt lb
  by_cases h : cls a = 3
  · left
    by_cases h2 : cls b = 3
    · have e : a = b := by
        rw [cls_inf] at h h2
        unfold ngt at hn'
        rw [cls_inf] at hn'
        omega
      subst e
      rw [if_neg (by simp), if_pos h, if_neg (by simp), if_pos h]
    · rw [if_neg (by omega), if_pos h, if_neg (by omega), if_pos h]
  · by_cases h2 : cls b = 3
    · left
      rw [if_neg (by omega), if_neg h, if_pos h2, if_neg (by omega), if_neg h, if_pos h2]
    · rw [if_neg (by omega), if_neg h, if_neg h2, if_neg (by omega), if_neg h, if_neg h2]
      exact fin_ngt la lb

/-- the examples. -/
theorem first1 : add 0x3ff0000000000000 0x3ff0000000000000 = 0x4000000000000000 := by decide +kernel
theorem first2 : add 0x7ff0000000000000 0xfff0000000000000 = 0x7FF8000000000000 := by decide
theorem first4 : add (2^63) (2^63) = 2^63 := by decide +kernel
end Go.Proofs.Ytkpljnfakidjeaa.Fm
