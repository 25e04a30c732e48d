/-
  (*bits.Writer).Put where it may not, Len, String.
-/
import Derived.Test.YtihoemimiplhfaaDoorBitsPut
namespace Go.Proofs.YtihoemimiplhfaaDoor
open Go.RowKit

/-- the error that blame.At makes of a code -/
def errAt (w : World) (n c : Int) (e : Ending) (w' : World) : Prop := e = .returned (.iface 103 (.pointer (some ⟨w.heap.size, 0, none⟩))) ∧ w' = w.alloc (.cells #[.int .i64 n, .iface 29 (.int .i64 c)] 105)
set_option maxRecDepth 1000000 in
set_option maxHeartbeats 4000000 in
theorem bput_err (p : Nat) (v : Value) (n V N : Nat) (c : Int) (l : List UInt8) (w : World) (hw : WAt w p v n V l) (hc : c < 0 ∨ 64 < c ∨ ∃ k : Nat, c = (k : Int) ∧ k ≤ 64 ∧ 2 ^ k ≤ N) :
    Calls Tryd.prog 31 #[.pointer (some ⟨p, 0, none⟩), .int .u64 N, .int .i64 c] w (errAt w n 9) := by
  have hc1 := row_cell hw.1 (j := 1) rfl
  clear hw
  by_cases hr : 0 ≤ c ∧ c ≤ 64
  · obtain ⟨k, rfl, hk, hk2⟩ : ∃ k : Nat, c = (k : Int) ∧ k ≤ 64 ∧ 2 ^ k ≤ N := by
      rcases hc with h | h | h
      · omega
      · omega
      · exact h
    have hd : decide (0 ≤ (k : Int) ∧ (k : Int) ≤ 64) = true := by simp; omega
    have hz : ((N : Int) / 2 ^ k != 0) = true := by
      have : N / 2 ^ k ≠ 0 := by
        have := Nat.div_pos hk2 (Nat.pow_pos (by omega))
        omega
      have e : (N : Int) / 2 ^ k = ((N / 2 ^ k : Nat) : Int) := by simp
      rw [e]; simp only [bne_iff_ne]; omega
    clear hc hr
    go_enter Tryd.func31, Tryd.ntmps31
    go_wp2_with fail
    refine (counts_any (k : Int) w).mono ?_; rintro e w' ⟨rfl, rfl⟩
    rw [hd]
    go_wp2_with fail
    refine (at_any _ _ _ w).mono ?_; rintro e w' ⟨rfl, rfl⟩
    go_wp2_with fail
    go_ret
    exact ⟨rfl, rfl⟩
  · have hd : decide (0 ≤ c ∧ c ≤ 64) = false := by simp; omega
    clear hc hr
    go_enter Tryd.func31, Tryd.ntmps31
    go_wp2_with fail
    refine (counts_any c w).mono ?_; rintro e w' ⟨rfl, rfl⟩
    rw [hd]
    go_wp2_with fail
    refine (at_any _ _ _ w).mono ?_; rintro e w' ⟨rfl, rfl⟩
    go_wp2_with fail
    go_ret
    exact ⟨rfl, rfl⟩
theorem bstr_any (p : Nat) (v : Value) (n V : Nat) (l : List UInt8) (w : World) (hw : WAt w p v n V l) :
    Calls Tryd.prog 33 #[.pointer (some ⟨p, 0, none⟩)] w fun e w' => e = .returned (.string ⟨l.toArray⟩) ∧ w = w' := by
  have hc1 := row_cell hw.1 (j := 0) rfl
  have hown := hw.2.1
  obtain ⟨ao, cap, rfl⟩ := own_slice hown
  have hcv := run_conv_own (P := Tryd.prog) (src := 59) (dst := 9) Tryd.underlying59 Tryd.underlying5 Tryd.underlying9 hown
  clear hw hown
  go_enter Tryd.func33, Tryd.ntmps33
  go_wp2_with fail
  go_ret
  exact ⟨rfl, rfl⟩
theorem wat_upd {S : Nat → Prop} {w w' : World} {p n V : Nat} {v : Value} {l : List UInt8} (hU : Upd S w w') (h : WAt w p v n V l) (hp : ¬ S p) (hv : ∀ k, v.ownBlock = some k → ¬ S k) : WAt w' p v n V l :=
  ⟨(hU.block p (row_lt h.1) hp).trans h.1, hU.own h.2.1 hv, h.2.2⟩
end Go.Proofs.YtihoemimiplhfaaDoor
