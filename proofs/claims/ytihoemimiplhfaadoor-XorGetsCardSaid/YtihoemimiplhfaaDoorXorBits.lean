/-
  Bits of numbers of 64 bits, as numbers.
-/
import Derived.Test.YtihoemimiplhfaaDoorNums
namespace Go.Proofs.YtihoemimiplhfaaDoor
open Go.RowKit

theorem u64_toNat (n : Nat) (h : n < 2^64) : (BitVec.ofInt 64 (n : Int)).toNat = n := by
  have := toNat_ofInt64 n
  omega
theorem and64 (a b : Nat) (ha : a < 2^64) (hb : b < 2^64) : bits .and .u64 (a : Int) (b : Int) = ((a &&& b : Nat) : Int) := by
  show IntKind.u64.wrap ((BitVec.ofInt 64 (a : Int) &&& BitVec.ofInt 64 (b : Int)).toNat : Int) = _
  rw [BitVec.toNat_and, u64_toNat a ha, u64_toNat b hb, IntKind.wrap_u64]
  have : a &&& b < 2^64 := Nat.and_lt_two_pow _ hb
  omega
theorem or64 (a b : Nat) (ha : a < 2^64) (hb : b < 2^64) : bits .or .u64 (a : Int) (b : Int) = ((a ||| b : Nat) : Int) := by
  show IntKind.u64.wrap ((BitVec.ofInt 64 (a : Int) ||| BitVec.ofInt 64 (b : Int)).toNat : Int) = _
  rw [BitVec.toNat_or, u64_toNat a ha, u64_toNat b hb, IntKind.wrap_u64]
  have : a ||| b < 2^64 := Nat.or_lt_two_pow ha hb
  omega
theorem xor64 (a b : Nat) (ha : a < 2^64) (hb : b < 2^64) : bits .xor .u64 (a : Int) (b : Int) = ((a ^^^ b : Nat) : Int) := by
  show IntKind.u64.wrap ((BitVec.ofInt 64 (a : Int) ^^^ BitVec.ofInt 64 (b : Int)).toNat : Int) = _
  rw [BitVec.toNat_xor, u64_toNat a ha, u64_toNat b hb, IntKind.wrap_u64]
  have : a ^^^ b < 2^64 := Nat.xor_lt_two_pow ha hb
  omega
theorem mask64 (a k : Nat) (ha : a < 2^64) (hk : k ≤ 64) {M : Int} (hM : M = ((2^k - 1 : Nat) : Int)) : bits .and .u64 (a : Int) M = ((a % 2^k : Nat) : Int) := by
  have : 2^k ≤ 2^64 := Nat.pow_le_pow_right (by decide) hk
  have : 0 < 2^k := Nat.two_pow_pos k
  rw [hM, and64 a (2^k-1) ha (by omega), Nat.and_two_pow_sub_one_eq_mod]
end Go.Proofs.YtihoemimiplhfaaDoor
