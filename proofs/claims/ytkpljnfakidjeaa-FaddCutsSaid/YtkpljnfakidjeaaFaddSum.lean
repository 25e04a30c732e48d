/-
  Doubles added: Sum, and what the examples fix.
-/
import Derived.Test.YtkpljnfakidjeaaFaddAdd
import Derived.Test.YtkpljnfakidjeaaInts
namespace Go.Proofs.Ytkpljnfakidjeaa
open Go.RowKit

def sums (l : List Nat) : Nat := l.foldl Fm.add 0
theorem sums_snoc (l : List Nat) (n : Nat) : sums (l ++ [n]) = Fm.add (sums l) n := by simp [sums]
theorem sums_lt {l : List Nat} (h : ∀ n ∈ l, n < 2^64) : sums l < 2^64 := by
  have key : ∀ (l : List Nat) (s : Nat), (∀ n ∈ l, n < 2^64) → s < 2^64 → l.foldl Fm.add s < 2^64 := by
    intro l
    induction l with
    | nil => intro s _ hs; exact hs
    | cons x t ih =>
      intro s h hs
      exact ih _ (fun n hn => h n (List.mem_cons_of_mem _ hn)) (Fm.add_lt hs (h x (List.mem_cons_self ..)))
  exact key l 0 h (by decide)
theorem take_step {l : List Nat} {j : Nat} (h : j < l.length) : l.take (j + 1) = l.take j ++ [l[j]] := (List.take_append_getElem h).symm
theorem sums_take {l : List Nat} (h : ∀ n ∈ l, n < 2^64) (j : Nat) : sums (l.take j) < 2^64 := sums_lt fun n hn => h n (List.mem_of_mem_take hn)
set_option maxRecDepth 1000000 in
set_option maxHeartbeats 1000000 in
theorem sum_at (ao : Option Addr) (cap : Nat) (l : List Nat) (R : Nat) (w : World) (hN : Nats .u64 w ao l) (hlt : Hid (∀ n ∈ l, n < 2^64)) (hl : l.length ≤ 1000000000) (hR : Hid (sums l = R)) :
    Calls Try.prog 18 #[.slice ao l.length cap] w fun e w' => e = .returned (.int .u64 (R : Nat)) ∧ w = w' := by
  go_enter Try.func18, Try.ntmps18
  go_wp2
  go_loopg [3, 8] l.length (fun k s i wr => ∃ j t : Nat, j + k = l.length ∧ i = .int .i64 j ∧ s = .int .u64 t ∧ Hid (sums (l.take j) = t) ∧ wr = w)
  case atStart => exact ⟨0, 0, by omega, rfl, rfl, Lib.hid rfl, rfl⟩
  case round =>
    obtain ⟨j, t, hj, rfl, rfl, HT, rfl⟩ := hrel
    have ht : t < 2^64 := by rw [← HT.out]; exact sums_take hlt.out j
    by_cases hlt' : j < l.length
    · obtain ⟨b, off, n, HN, rfl, hbl, hc⟩ := hN.at hlt'
      have hn : n < 2^64 := by rw [HN.out]; exact hlt.out _ (List.getElem_mem _)
      obtain ⟨q, HQ⟩ : ∃ q, Hid (Fm.add t n = q) := ⟨_, Lib.hid rfl⟩
      have hi1 : (j : Int) < (l.length : Int) := by omega
      have hi0 : (0 : Int) ≤ (j : Int) := by omega
      have HJ := Lib.hid hj
      clear hj
      go_wp2_with fail
      refine (add_at t n q _ ht hn HQ).mono ?_; rintro e w' ⟨rfl, rfl⟩
      go_wp2_with fail
      have hj := HJ.out
      go_roundg (gk - 1)
      case measure => omega
      case rel => exact ⟨j + 1, q, by omega, by simp, rfl, Lib.hid (by rw [take_step hlt', sums_snoc, HT.out, ← HN.out, HQ.out]), rfl⟩
    · have hR' : Hid (t = R) := Lib.hid (by rw [← HT.out, ← hR.out, List.take_of_length_le (by omega)])
      go_wp2
      go_ret
      exact ⟨ret_int (by rw [hR'.out]), rfl⟩
theorem sum_nil (w : World) : Calls Try.prog 18 #[.slice none 0 0] w fun e w' => e = .returned (.int .u64 0) ∧ w = w' :=
  sum_at none 0 [] 0 w (fun h => absurd rfl h) (Lib.hid (by simp)) (by simp) (Lib.hid rfl)

set_option maxRecDepth 1000000 in
set_option maxHeartbeats 1000000 in
theorem first7 (w : World) : Calls Try.prog 11 #[] w fun e w' => e = .returned (.bool true) ∧ w = w' := by
  have X1 := Lib.hid Fm.first1
  have X2 := Lib.hid Fm.first2
  have X4 := Lib.hid Fm.first4
  go_enter Try.func11, Try.ntmps11
  go_wp2_with fail
  refine (add_at 0x3ff0000000000000 0x3ff0000000000000 0x4000000000000000 _ (by decide) (by decide) X1).mono ?_; rintro e w' ⟨rfl, rfl⟩
  go_wp2_with fail
  refine (add_at 0x7ff0000000000000 0xfff0000000000000 0x7FF8000000000000 _ (by decide) (by decide) X2).mono ?_; rintro e w' ⟨rfl, rfl⟩
  go_wp2_with fail
  refine (sum_nil _).mono ?_; rintro e w' ⟨rfl, rfl⟩
  go_wp2_with fail
  refine (add_at (2^63) (2^63) (2^63) _ (by decide) (by decide) X4).mono ?_; rintro e w' ⟨rfl, rfl⟩
  go_wp2_with fail
  go_ret
  exact ⟨rfl, rfl⟩
end Go.Proofs.Ytkpljnfakidjeaa
