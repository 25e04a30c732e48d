/-
  hyglaw2.VarintPuts: for every number the law returns true.
-/
import Derived.Test.YtlbfeknmbgjknaaFirst2
namespace Go.Proofs.Ytlbfeknmbgjknaa
open Go.RowKit

theorem bytes_size (l : List UInt8) : (ByteArray.mk l.toArray).size = l.length := by simp [ByteArray.size]

set_option maxRecDepth 100000 in
set_option maxHeartbeats 1000000 in
theorem puts_walk (n : Nat) (m k : Int) (w : World) (hn : Hid (n < 2^64)) (hm1 : Hid (-9223372036854775808 ≤ m)) (hm2 : Hid (m ≤ 9223372036854775807)) (hk1 : Hid (-2147483648 ≤ k)) (hk2 : Hid (k ≤ 2147483647)) :
    Calls Try.prog 3 #[.int .u64 n, .int .i64 m, .int .i32 k] w fun e w' => e = .returned (.bool true) ∧ Below w.heap.size w w' := by
  have hp := Lib.hid (put_start hn.out)
  go_enter Try.func3, Try.ntmps3
  go_wp2_with fail
  refine (first2 w).mono ?_; rintro e w1 ⟨rfl, hb1⟩
  go_wp2_with fail
  refine (put_any n w1 hp.out).mono ?_; rintro e w2 ⟨rfl, hb2⟩
  go_wp2_with fail
  refine (first2 w2).mono ?_; rintro e w3 ⟨rfl, hb3⟩
  go_wp2_with fail
  refine (refput_any n w3 hp.out hn).mono ?_; rintro e w4 ⟨rfl, hb4⟩
  go_wp2_with fail
  refine (size_any n w4 hp.out).mono ?_; rintro e w5 ⟨rfl, rfl⟩
  go_wp2_with fail
  refine (zig_any m w4 hm1.out hm2.out).mono ?_; rintro e w5 ⟨rfl, rfl⟩
  go_wp2_with fail
  refine (refzig_any m w4 hm1.out hm2.out).mono ?_; rintro e w5 ⟨rfl, rfl⟩
  go_wp2_with fail
  refine (zag_any n w4 hn).mono ?_; rintro e w5 ⟨rfl, rfl⟩
  go_wp2_with fail
  refine (refzag_any n w4 hn).mono ?_; rintro e w5 ⟨rfl, rfl⟩
  go_wp2_with fail
  refine (zig32_any k w4 hk1.out hk2.out).mono ?_; rintro e w5 ⟨rfl, rfl⟩
  go_wp2_with fail
  refine (refzig32_any k w4 hk1.out hk2.out).mono ?_; rintro e w5 ⟨rfl, rfl⟩
  go_wp2_with fail
  refine (zag32_any n w4 hn).mono ?_; rintro e w5 ⟨rfl, rfl⟩
  go_wp2_with fail
  refine (refzag32_any n w4 hn).mono ?_; rintro e w5 ⟨rfl, rfl⟩
  go_wp2
  go_ret
  exact ⟨rfl, hb1.trans ((hb2.mono hb1.size).trans ((hb3.mono (Nat.le_trans hb1.size hb2.size)).trans (hb4.mono (Nat.le_trans hb1.size (Nat.le_trans hb2.size hb3.size)))))⟩
end Go.Proofs.Ytlbfeknmbgjknaa
