/-
  hyglaw22.RunsOne: for any bytes and any count the law returns true.
-/
import Derived.Test.YtkpljnfakidjeabRunsLaw
namespace Go.Proofs.Ytkpljnfakidjeab
open Go.RowKit

theorem rput_str (ao : Option Addr) (cap : Nat) (l : List Nat) (n : Nat) (s : ByteArray) (w : World) (hn : l.length = n) (hN : Nats .u64 w ao l) (hlt : Hid (∀ n ∈ l, n < 18446744073709551616)) (hl : n ≤ 20000) (hT : Hid (vputs (flatR (runsOf l)) = s.data.toList)) :
    Calls Try.prog 14 #[.slice ao n cap] w fun e w' => e = .returned (.tuple #[.string s, .nilIface]) ∧ Below w.heap.size w w' := by
  subst hn
  have h := rput_any ao cap l w hN hlt hl hT
  rw [ba_list] at h
  exact h
theorem rget_range (s : ByteArray) (c : Int) (w : World) (hc : c < 0 ∨ 20000 < c) :
    Calls Try.prog 15 #[.string s, .int .i64 c] w fun e w' => e = .returned (.tuple #[.slice none 0 0, .iface 86 (.pointer (some ⟨w.heap.size, 0, none⟩))]) ∧ w' = w.alloc (.cells #[.int .i64 0, .iface 50 (.int .i64 9)] 88) := by
  rcases (by omega : c < 0 ∨ (¬ c < 0 ∧ 20000 < c)) with h | ⟨h, h2⟩
  · go_enter Try.func15, Try.ntmps15
    go_wp2_with fail
    refine (at_any _ _ _ _).mono ?_; rintro e w' ⟨rfl, rfl⟩
    go_wp2_with fail
    go_ret2
    exact ⟨rfl, rfl⟩
  · go_enter Try.func15, Try.ntmps15
    go_wp2_with fail
    refine (at_any _ _ _ _).mono ?_; rintro e w' ⟨rfl, rfl⟩
    go_wp2_with fail
    go_ret2
    exact ⟨rfl, rfl⟩
set_option maxRecDepth 1000000 in
set_option maxHeartbeats 4000000 in
theorem rone_long (s : ByteArray) (c : Int) (w : World) (hs : 4000 < s.size) (hm : s.size ≤ 9223372036854775807) :
    Calls Try.prog 6 #[.string s, .int .i64 c] w fun e w' => e = .returned (.bool true) ∧ Below w.heap.size w w' := by
  go_enter Try.func6, Try.ntmps6
  go_wp2_with fail
  refine (first22 w).mono ?_; rintro e w1 ⟨rfl, hb1⟩
  have HB1 := Lib.hid hb1
  clear hb1
  go_wp2_with fail
  refine (first22 w1).mono ?_; rintro e w2 ⟨rfl, hb2⟩
  have HB2 := Lib.hid (dstep HB1.out hb2)
  clear hb2
  go_wp2_with fail
  go_ret
  exact ⟨rfl, HB2.out⟩
set_option maxRecDepth 1000000 in
set_option maxHeartbeats 4000000 in
theorem rone_range (s : ByteArray) (c : Int) (w : World) (hs : s.size ≤ 4000) (hc : Hid (c < 0 ∨ 20000 < c)) :
    Calls Try.prog 6 #[.string s, .int .i64 c] w fun e w' => e = .returned (.bool true) ∧ Below w.heap.size w w' := by
  go_enter Try.func6, Try.ntmps6
  go_wp2_with fail
  refine (first22 w).mono ?_; rintro e w1 ⟨rfl, hb1⟩
  have HB1 := Lib.hid (dstep hb1 (below_new0 w1 (.cells #[.int .i64 0, .iface 50 (.int .i64 9)] 88)))
  clear hb1
  go_wp2_with fail
  refine (rget_range s c _ hc.out).mono ?_; rintro e w' ⟨rfl, rfl⟩
  go_wp2_with fail
  refine (first22 _).mono ?_; rintro e w2 ⟨rfl, hb2⟩
  have HB2 := Lib.hid (dstep HB1.out hb2)
  clear hb2
  go_wp2_with fail
  go_ret
  exact ⟨rfl, HB2.out⟩
set_option maxRecDepth 1000000 in
set_option maxHeartbeats 4000000 in
theorem rone_no (s : ByteArray) (c : Nat) (w : World) (hs : s.size ≤ 4000) (hc : c ≤ 20000) (hr : Hid (∀ ps, ¬ GoodR s c ps)) :
    Calls Try.prog 6 #[.string s, .int .i64 c] w fun e w' => e = .returned (.bool true) ∧ Below w.heap.size w w' := by
  go_enter Try.func6, Try.ntmps6
  go_wp2_with fail
  refine (first22 w).mono ?_; rintro e w1 ⟨rfl, hb1⟩
  have HB1 := Lib.hid hb1
  clear hb1
  go_wp2_with fail
  refine (rget_no s c _ (by omega) hc hr).mono ?_; rintro e w2 ⟨hb2, x, rfl⟩
  have HB2 := Lib.hid (dstep HB1.out hb2)
  clear hb2
  go_wp2_with fail
  refine (first22 _).mono ?_; rintro e w3 ⟨rfl, hb3⟩
  have HB3 := Lib.hid (dstep HB2.out hb3)
  clear hb3
  go_wp2_with fail
  go_ret
  exact ⟨rfl, HB3.out⟩
set_option maxRecDepth 1000000 in
set_option maxHeartbeats 4000000 in
theorem rone_ok (s : ByteArray) (c : Nat) (w : World) (hs : s.size ≤ 4000) (hc : c ≤ 20000) {ps : List (Nat × Nat)} {ls : List Nat} (hr : Hid (GoodR s c ps)) (hl : Hid (expR ps = ls)) (hlt : Hid (∀ n ∈ ls, n < 18446744073709551616)) (hT : Hid (vputs (flatR (runsOf ls)) = s.data.toList)) :
    Calls Try.prog 6 #[.string s, .int .i64 c] w fun e w' => e = .returned (.bool true) ∧ Below w.heap.size w w' := by
  go_enter Try.func6, Try.ntmps6
  go_wp2_with fail
  refine (first22 w).mono ?_; rintro e w1 ⟨rfl, hb1⟩
  have HB1 := Lib.hid hb1
  clear hb1
  go_wp2_with fail
  refine (rget_ok s c _ (by omega) hc hr hl).mono ?_; rintro e w2 ⟨hb2, ao, cap, rfl, h3, h4⟩
  have HB2 := Lib.hid (dstep HB1.out hb2)
  have HN := Lib.hid h3
  have HLn := Lib.hid h4
  clear hb2 h3 h4
  go_wp2_with fail
  refine (rput_str ao cap ls c s _ HLn.out HN.out hlt hc hT).mono ?_; rintro e w3 ⟨rfl, hb3⟩
  have HB3 := Lib.hid (dstep HB2.out hb3)
  clear hb3
  go_wp2_with fail
  refine (first22 _).mono ?_; rintro e w4 ⟨rfl, hb4⟩
  have HB4 := Lib.hid (dstep HB3.out hb4)
  clear hb4
  go_wp2_with fail
  go_ret
  exact ⟨rfl, HB4.out⟩
theorem rone_walk (s : ByteArray) (c : Int) (w : World) (hm : s.size ≤ 9223372036854775807) :
    Calls Try.prog 6 #[.string s, .int .i64 c] w fun e w' => e = .returned (.bool true) ∧ Below w.heap.size w w' := by
  by_cases h1 : 4000 < s.size
  · exact rone_long s c w h1 hm
  by_cases h2 : c < 0 ∨ 20000 < c
  · exact rone_range s c w (by omega) (Lib.hid h2)
  obtain ⟨n, rfl⟩ := Int.eq_ofNat_of_zero_le (show 0 ≤ c by omega)
  by_cases h3 : ∃ ps, GoodR s n ps
  · obtain ⟨ps, hx⟩ := h3
    have hlt : ∀ m ∈ expR ps, m < 18446744073709551616 := fun m hm => by
      unfold expR at hm
      obtain ⟨p, hp, hmp⟩ := List.mem_flatMap.1 hm
      have := List.eq_of_mem_replicate hmp
      subst this
      exact hx.2.2.2 p.1 (by unfold flatR; exact List.mem_flatMap.2 ⟨p, hp, by simp⟩)
    refine rone_ok s n w (by omega) (by omega) (Lib.hid hx) (Lib.hid rfl) (Lib.hid hlt) (Lib.hid ?_)
    rw [runsOf_expR ps hx.1, hx.2.1]
  · exact rone_no s n w (by omega) (by omega) (Lib.hid fun ps hx => h3 ⟨ps, hx⟩)
end Go.Proofs.Ytkpljnfakidjeab
