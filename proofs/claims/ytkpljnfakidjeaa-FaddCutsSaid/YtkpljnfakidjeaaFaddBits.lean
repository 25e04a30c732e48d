/-
  Bits of doubles: the sign, the size, the exponent, the fraction.
-/
import Derived.Test.YtkpljnfakidjeaaNums
import Derived.Test.YtkpljnfakidjeaaFmC
namespace Go.Proofs.Ytkpljnfakidjeaa
open Go.RowKit

theorem u64_toNat (n : Nat) (h : n < 2^64) : (BitVec.ofInt 64 (n : Int)).toNat = n := by
  have := toNat_ofInt64 n
  omega
theorem and64 (a b : Nat) (ha : a < 2^64) (hb : b < 2^64) : bits .and .u64 (a : Int) (b : Int) = ((a &&& b : Nat) : Int) := by
  show IntKind.u64.wrap ((BitVec.ofInt 64 (a : Int) &&& BitVec.ofInt 64 (b : Int)).toNat : Int) = _
  rw [BitVec.toNat_and, u64_toNat a ha, u64_toNat b hb, IntKind.wrap_u64]
  have : a &&& b < 2^64 := Nat.and_lt_two_pow _ hb
  omega
theorem or64 (a b : Nat) (ha : a < 2^64) (hb : b < 2^64) : bits .or .u64 (a : Int) (b : Int) = ((a ||| b : Nat) : Int) := by
  show IntKind.u64.wrap ((BitVec.ofInt 64 (a : Int) ||| BitVec.ofInt 64 (b : Int)).toNat : Int) = _
  rw [BitVec.toNat_or, u64_toNat a ha, u64_toNat b hb, IntKind.wrap_u64]
  have : a ||| b < 2^64 := Nat.or_lt_two_pow ha hb
  omega
theorem xor64 (a b : Nat) (ha : a < 2^64) (hb : b < 2^64) : bits .xor .u64 (a : Int) (b : Int) = ((a ^^^ b : Nat) : Int) := by
  show IntKind.u64.wrap ((BitVec.ofInt 64 (a : Int) ^^^ BitVec.ofInt 64 (b : Int)).toNat : Int) = _
  rw [BitVec.toNat_xor, u64_toNat a ha, u64_toNat b hb, IntKind.wrap_u64]
  have : a ^^^ b < 2^64 := Nat.xor_lt_two_pow ha hb
  omega
theorem mask64 (a k : Nat) (ha : a < 2^64) (hk : k ≤ 64) {M : Int} (hM : M = ((2^k - 1 : Nat) : Int)) : bits .and .u64 (a : Int) M = ((a % 2^k : Nat) : Int) := by
  have : 2^k ≤ 2^64 := Nat.pow_le_pow_right (by decide) hk
  have : 0 < 2^k := Nat.two_pow_pos k
  rw [hM, and64 a (2^k-1) ha (by omega), Nat.and_two_pow_sub_one_eq_mod]
theorem not_sign (a : Nat) (ha : a < 2^64) : bits .andNot .u64 (a : Int) 9223372036854775808 = ((Fm.sz a : Nat) : Int) := by
  show IntKind.u64.wrap ((BitVec.ofInt 64 (a : Int) &&& ~~~ (BitVec.ofInt 64 9223372036854775808)).toNat : Int) = _
  rw [BitVec.toNat_and, u64_toNat a ha, show (~~~ (BitVec.ofInt 64 9223372036854775808)).toNat = 2^63 - 1 from by decide, Nat.and_two_pow_sub_one_eq_mod, IntKind.wrap_u64]
  unfold Fm.sz
  omega
theorem and_high (a : Nat) (ha : a < 2^64) : a &&& 2^63 = Fm.sg a * 2^63 := by
  unfold Fm.sg
  have e1 : (a &&& 2^63) % 2^63 = 0 := by rw [Nat.and_mod_two_pow]; simp
  have e2 : (a &&& 2^63) / 2^63 = a / 2^63 &&& 1 := by rw [Nat.and_div_two_pow]
  have h1 := Nat.div_add_mod (a &&& 2^63) (2^63)
  rw [e1, e2, Nat.and_one_is_mod] at h1
  have : a / 2^63 < 2 := by omega
  omega
theorem sign_of (a : Nat) (ha : a < 2^64) : bits .and .u64 (a : Int) 9223372036854775808 = ((Fm.sg a * 2^63 : Nat) : Int) := by
  rw [show (9223372036854775808 : Int) = ((2^63 : Nat) : Int) by decide, and64 a _ ha (by decide), and_high a ha]
theorem turn_sign (a : Nat) (ha : a < 2^64) : bits .xor .u64 (a : Int) 9223372036854775808 = ((Fm.ngt a : Nat) : Int) := by
  rw [show (9223372036854775808 : Int) = ((2^63 : Nat) : Int) by decide, xor64 a _ ha (by decide)]
  congr 1
  have e1 : (a ^^^ 2^63) % 2^63 = a % 2^63 := by rw [Nat.xor_mod_two_pow]; simp
  have e2 : (a ^^^ 2^63) / 2^63 = a / 2^63 ^^^ 1 := by rw [Nat.xor_div_two_pow]
  have h1 := Nat.div_add_mod (a ^^^ 2^63) (2^63)
  rw [e1, e2] at h1
  unfold Fm.ngt Fm.sg Fm.sz
  have : a / 2^63 < 2 := by omega
  rcases (by omega : a / 2^63 = 0 ∨ a / 2^63 = 1) with h | h
  · rw [h] at h1 ⊢; simp at h1 ⊢; omega
  · rw [h] at h1 ⊢; simp at h1 ⊢; omega
/-- bits joined that do not meet -/
theorem join64 (x y k : Nat) (hx : x % 2^k = 0) (hy : y < 2^k) (hl : x + y < 2^64) : bits .or .u64 (x : Int) (y : Int) = ((x + y : Nat) : Int) := by
  rw [or64 x y (by omega) (by omega), nat_join k x y hx hy]
theorem set_bit (a k : Nat) (ha : a < 2^64) (hk : k < 64) {M : Int} (hM : M = ((2^k : Nat) : Int)) : bits .or .u64 (a : Int) M = ((if a / 2^k % 2 = 1 then a else a + 2^k : Nat) : Int) := by
  have h2 : 2^k < 2^64 := Nat.pow_lt_pow_right (by decide) hk
  rw [hM, or64 a _ ha h2]
  congr 1
  have e1 : (a ||| 2^k) % 2^k = a % 2^k := by rw [Nat.or_mod_two_pow]; simp
  have e2 : (a ||| 2^k) / 2^k = a / 2^k ||| 1 := by rw [Nat.or_div_two_pow, Nat.div_self (Nat.two_pow_pos k)]
  have e3 : a / 2^k ||| 1 = if a / 2^k % 2 = 1 then a / 2^k else a / 2^k + 1 := by
    generalize a / 2^k = q
    have e4 := nat_join 1 (q / 2 * 2) 1 (by simp) (by decide)
    split
    · rename_i h
      have : q = q / 2 * 2 + 1 := by omega
      rw [this, ← e4, Nat.or_assoc, Nat.or_self]
    · rename_i h
      have : q = q / 2 * 2 := by omega
      rw [this, e4]
  have h1 := Nat.div_add_mod (a ||| 2^k) (2^k)
  have h3 := Nat.div_add_mod a (2^k)
  rw [e1, e2, e3] at h1
  split at h1
  · rename_i h; rw [if_pos h]; omega
  · rename_i h; rw [if_neg h, ← h1, Nat.mul_add]; omega
theorem quiet_of (a : Nat) (ha : a < 2^64) : bits .or .u64 (a : Int) 2251799813685248 = ((Fm.quiet a : Nat) : Int) := set_bit a 51 ha (by decide) (by decide)
end Go.Proofs.Ytkpljnfakidjeaa
