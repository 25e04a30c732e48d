/-
  hyglaw2.VarintBack: for every list of numbers and every two numbers with a sign the law returns true.
-/
import Derived.Test.YtlbfeknmbgjknaaFirst2
import Derived.Test.YtlbfeknmbgjknaaNums2
import Derived.Test.YtlbfeknmbgjknaaInts
namespace Go.Proofs.Ytlbfeknmbgjknaa
open Go.RowKit

theorem zag_zig (n : Int) (h1 : -9223372036854775808 ≤ n) (h2 : n ≤ 9223372036854775807) : ∃ z : Nat, zig n = z ∧ z < 2^64 ∧ zag z = n ∧ ((0 ≤ n) ↔ z % 2 = 0) ∧ (n < -4611686018427387904 ∨ 4611686018427387904 ≤ n ∨ z < 9223372036854775808) := by
  refine ⟨(zig n).toNat, ?_, ?_, ?_, ?_, ?_⟩ <;> unfold zig <;> (try unfold zag) <;> split <;> (try split) <;> omega
theorem zag_zig32 (n : Int) (h1 : -2147483648 ≤ n) (h2 : n ≤ 2147483647) : ∃ z : Nat, zig n = z ∧ z < 2^64 ∧ zag (z % 2^32) = n := by
  refine ⟨(zig n).toNat, ?_, ?_, ?_⟩ <;> unfold zig <;> (try unfold zag) <;> split <;> (try split) <;> omega

set_option maxRecDepth 1000000 in
set_option maxHeartbeats 2000000 in
theorem back_walk (ao : Option Addr) (cap : Nat) (l : List Nat) (m k : Int) (w : World) (hn : Hid (∀ n ∈ l, n < 2^64)) (hi : Nats .u64 w ao l) (hl : l.length ≤ 200)
    (hm1 : Hid (-9223372036854775808 ≤ m)) (hm2 : Hid (m ≤ 9223372036854775807)) (hk1 : Hid (-2147483648 ≤ k)) (hk2 : Hid (k ≤ 2147483647)) :
    Calls Try.prog 4 #[.slice ao l.length cap, .int .i64 m, .int .i32 k] w fun e w' => e = .returned (.bool true) ∧ Below w.heap.size w w' := by
  have hd : decide (200 < (l.length : Int)) = false := by simp; omega
  go_enter Try.func4, Try.ntmps4
  go_wp2_with fail
  refine (first2 w).mono ?_; rintro e w1 ⟨rfl, hb1⟩
  go_wp2_with fail
  go_loopw [7, 8] (fun s i wr => ∃ j : Nat, j ≤ l.length ∧ i = .int .i64 j ∧ s = .string ⟨(vputs (l.take j)).toArray⟩ ∧ Below w.heap.size w wr) (fun _ i _ => l.length - (intOf i).toNat)
  case atStart => exact ⟨0, by omega, rfl, by simp [vputs], hb1⟩
  case round =>
    obtain ⟨j, hj, rfl, rfl, hbr⟩ := hrel
    by_cases hlt : j < l.length
    · obtain ⟨b, off, n, HJ, rfl, hbl, hc⟩ := (hi.below hbr).at hlt
      have hpn := Lib.hid (put_start (hn.out n (by rw [HJ.out]; exact List.getElem_mem _)))
      have hz1 := vputs_length (l.take j)
      have hz2 := (vput_length n).2
      have hz3 : (l.take j).length ≤ 200 := Nat.le_trans (List.length_take_le _ _) (by omega)
      go_wp2_with fail
      refine (put_any n wr hpn.out).mono ?_; rintro e w2 ⟨rfl, hb2⟩
      go_wp2_with fail
      exact ⟨⟨j + 1, by omega, by simp, by rw [ba_append, vputs_take l j hlt, HJ.out], hbr.trans (hb2.mono hbr.size)⟩, by simp [intOf]; omega⟩
    · obtain rfl : j = l.length := by omega
      rw [List.take_length]
      have hz1 := vputs_length l
      go_wp2_with fail
      go_loopw [9, 10] (fun a i wr => ∃ j : Nat, j ≤ l.length ∧ i = .int .i64 j ∧ a = .int .i64 (vputs (l.take j)).length ∧ Below w.heap.size w wr) (fun _ i _ => l.length - (intOf i).toNat)
      case atStart => exact ⟨0, by omega, rfl, by simp [vputs], hbr⟩
      case round =>
        obtain ⟨j, hj, rfl, rfl, hbr'⟩ := hrel
        by_cases hlt : j < l.length
        · obtain ⟨b, off, n, HJ, rfl, hbl, hc⟩ := (hi.below hbr').at hlt
          have hn1 : n < 2^64 := hn.out n (by rw [HJ.out]; exact List.getElem_mem _)
          have hpn := Lib.hid (put_start hn1)
          have hg := vget_vputs l j hlt hn.out
          rw [← HJ.out, vputs_take l j hlt, ← HJ.out, List.length_append] at hg
          have HG := Lib.hid hg
          have hz1 := vputs_length (l.take j)
          have hz2 := (vput_length n).2
          have hz3 : (l.take j).length ≤ 200 := Nat.le_trans (List.length_take_le _ _) (by omega)
          clear hg hn1
          go_wp2_with fail
          refine (get_ok _ _ wr (by rw [ba_size]; unfold maxLen; omega) HG.out).mono ?_; rintro e w2 ⟨rfl, rfl⟩
          have hq : ((((vputs (l.take j)).length + (vput n).length : Nat) : Int) - ((vputs (l.take j)).length : Int) == ((vput n).length : Int)) = true := by simp; omega
          have hq' : ((((vputs (l.take j)).length + (vput n).length : Nat) : Int) - ((vputs (l.take j)).length : Int) != ((vput n).length : Int)) = false := by simp; omega
          go_wp2_with fail
          go_at_call 8
          refine (size_any n wr hpn.out).mono ?_; rintro e w2 ⟨rfl, rfl⟩
          go_wp2_with fail
          exact ⟨⟨j + 1, by omega, by simp, by rw [vputs_take l j hlt, ← HJ.out]; simp, hbr'⟩, by simp [intOf]; omega⟩
        · obtain rfl : j = l.length := by omega
          rw [List.take_length]
          have hz1 := vputs_length l
          obtain ⟨z, e1, e2, e3, e4, e5⟩ := zag_zig m hm1.out hm2.out
          obtain ⟨z2, f1, f2, f3⟩ := zag_zig32 k hk1.out hk2.out
          have E1 := Lib.hid e1
          have E2 := Lib.hid e2
          have E3 := Lib.hid e3
          have F1 := Lib.hid f1
          have F2 := Lib.hid f2
          have F3 := Lib.hid f3
          clear e1 e2 e3 f1 f2 f3
          have hz0 : decide (z % 2 = 0) = ((z : Int) % 2 == 0) := by rw [Bool.eq_iff_iff]; simp; omega
          go_wp2_with fail
          go_at_call 9
          refine (zig_any m wr hm1.out hm2.out).mono ?_; rintro e w5 ⟨rfl, rfl⟩
          rw [E1.out]
          go_wp2_with fail
          refine (first2 _).mono ?_; rintro e w6 ⟨rfl, hb6⟩
          go_wp2_with fail
          go_at_call 11
          refine (zag_any z _ (Lib.hid E2.out)).mono ?_; rintro e w5 ⟨rfl, rfl⟩
          rw [E3.out]
          go_wp2_with fail
          go_at_call 13
          refine (zig32_any k _ hk1.out hk2.out).mono ?_; rintro e w5 ⟨rfl, rfl⟩
          rw [F1.out]
          go_wp2_with fail
          go_at_call 15
          refine (zag32_any z2 _ (Lib.hid F2.out)).mono ?_; rintro e w5 ⟨rfl, rfl⟩
          rw [F3.out]
          go_wp2
          all_goals go_ret
          all_goals refine ⟨ret_bool ?_, hbr'.trans (hb6.mono hbr'.size)⟩
          all_goals first | rfl | (simp; omega)

set_option maxRecDepth 1000000 in
theorem back_long (ao : Option Addr) (cap len : Nat) (m k : Int) (w : World) (hl : 200 < len) :
    Calls Try.prog 4 #[.slice ao len cap, .int .i64 m, .int .i32 k] w fun e w' => e = .returned (.bool true) ∧ Below w.heap.size w w' := by
  go_enter Try.func4, Try.ntmps4
  go_wp2_with fail
  refine (first2 w).mono ?_; rintro e w1 ⟨rfl, hb1⟩
  go_wp2_with fail
  refine (first2 w1).mono ?_; rintro e w2 ⟨rfl, hb2⟩
  go_wp2
  go_ret
  exact ⟨rfl, hb1.trans (hb2.mono hb1.size)⟩
end Go.Proofs.Ytlbfeknmbgjknaa
