/-
  hyglaw20.DodOne: for any bytes and any count the law returns true.
-/
import Derived.Test.YtkpljnfakidjeaaDodLaw
namespace Go.Proofs.Ytkpljnfakidjeaa
open Go.RowKit

theorem dput_str (ao : Option Addr) (cap : Nat) (l : List Nat) (n : Nat) (s : ByteArray) (w : World) (hn : l.length = n) (hN : Nats .u64 w ao l) (hlt : Hid (∀ n ∈ l, n < 18446744073709551616)) (hl : n ≤ 20000) (hT : Hid (vputs (enc l).1 = s.data.toList)) :
    Calls Try.prog 25 #[.slice ao n cap] w fun e w' => e = .returned (.tuple #[.string s, .nilIface]) ∧ Below w.heap.size w w' := by
  subst hn
  have h := dput_any ao cap l w hN hlt hl hT
  rw [ba_list] at h
  exact h
theorem dget_range (s : ByteArray) (c : Int) (w : World) (hc : c < 0 ∨ 20000 < c) :
    Calls Try.prog 26 #[.string s, .int .i64 c] w fun e w' => e = .returned (.tuple #[.slice none 0 0, .iface 71 (.pointer (some ⟨w.heap.size, 0, none⟩))]) ∧ w' = w.alloc (.cells #[.int .i64 0, .iface 53 (.int .i64 9)] 73) := by
  rcases (by omega : c < 0 ∨ (¬ c < 0 ∧ 20000 < c)) with h | ⟨h, h2⟩
  · go_enter Try.func26, Try.ntmps26
    go_wp2_with fail
    refine (at_any _ _ _ _).mono ?_; rintro e w' ⟨rfl, rfl⟩
    go_wp2_with fail
    go_ret2
    exact ⟨rfl, rfl⟩
  · go_enter Try.func26, Try.ntmps26
    go_wp2_with fail
    refine (at_any _ _ _ _).mono ?_; rintro e w' ⟨rfl, rfl⟩
    go_wp2_with fail
    go_ret2
    exact ⟨rfl, rfl⟩
set_option maxRecDepth 1000000 in
set_option maxHeartbeats 4000000 in
theorem done_long (s : ByteArray) (c : Int) (w : World) (hs : 4000 < s.size) (hm : s.size ≤ 9223372036854775807) :
    Calls Try.prog 10 #[.string s, .int .i64 c] w fun e w' => e = .returned (.bool true) ∧ Below w.heap.size w w' := by
  go_enter Try.func10, Try.ntmps10
  go_wp2_with fail
  refine (first20 w).mono ?_; rintro e w1 ⟨rfl, hb1⟩
  have HB1 := Lib.hid hb1
  clear hb1
  go_wp2_with fail
  refine (first20 w1).mono ?_; rintro e w2 ⟨rfl, hb2⟩
  have HB2 := Lib.hid (dstep HB1.out hb2)
  clear hb2
  go_wp2_with fail
  go_ret
  exact ⟨rfl, HB2.out⟩
set_option maxRecDepth 1000000 in
set_option maxHeartbeats 4000000 in
theorem done_range (s : ByteArray) (c : Int) (w : World) (hs : s.size ≤ 4000) (hc : Hid (c < 0 ∨ 20000 < c)) :
    Calls Try.prog 10 #[.string s, .int .i64 c] w fun e w' => e = .returned (.bool true) ∧ Below w.heap.size w w' := by
  go_enter Try.func10, Try.ntmps10
  go_wp2_with fail
  refine (first20 w).mono ?_; rintro e w1 ⟨rfl, hb1⟩
  have HB1 := Lib.hid (dstep hb1 (below_new0 w1 (.cells #[.int .i64 0, .iface 53 (.int .i64 9)] 73)))
  clear hb1
  go_wp2_with fail
  refine (dget_range s c _ hc.out).mono ?_; rintro e w' ⟨rfl, rfl⟩
  go_wp2_with fail
  refine (first20 _).mono ?_; rintro e w2 ⟨rfl, hb2⟩
  have HB2 := Lib.hid (dstep HB1.out hb2)
  clear hb2
  go_wp2_with fail
  go_ret
  exact ⟨rfl, HB2.out⟩
set_option maxRecDepth 1000000 in
set_option maxHeartbeats 4000000 in
theorem done_no (s : ByteArray) (c : Nat) (w : World) (hs : s.size ≤ 4000) (hc : c ≤ 20000) (hr : Hid (∀ xs, rdn s.data.toList c ≠ .ok (xs, s.size, false))) :
    Calls Try.prog 10 #[.string s, .int .i64 c] w fun e w' => e = .returned (.bool true) ∧ Below w.heap.size w w' := by
  go_enter Try.func10, Try.ntmps10
  go_wp2_with fail
  refine (first20 w).mono ?_; rintro e w1 ⟨rfl, hb1⟩
  have HB1 := Lib.hid hb1
  clear hb1
  go_wp2_with fail
  refine (dget_no s c _ (by omega) hc hr).mono ?_; rintro e w2 ⟨hb2, x, rfl⟩
  have HB2 := Lib.hid (dstep HB1.out hb2)
  clear hb2
  go_wp2_with fail
  refine (first20 _).mono ?_; rintro e w3 ⟨rfl, hb3⟩
  have HB3 := Lib.hid (dstep HB2.out hb3)
  clear hb3
  go_wp2_with fail
  go_ret
  exact ⟨rfl, HB3.out⟩
set_option maxRecDepth 1000000 in
set_option maxHeartbeats 4000000 in
theorem done_ok (s : ByteArray) (c : Nat) (w : World) (hs : s.size ≤ 4000) (hc : c ≤ 20000) {xs ls : List Nat} (hr : Hid (rdn s.data.toList c = .ok (xs, s.size, false))) (hl : Hid ((dec xs).1 = ls)) (hlt : Hid (∀ n ∈ ls, n < 18446744073709551616)) (hT : Hid (vputs (enc ls).1 = s.data.toList)) :
    Calls Try.prog 10 #[.string s, .int .i64 c] w fun e w' => e = .returned (.bool true) ∧ Below w.heap.size w w' := by
  go_enter Try.func10, Try.ntmps10
  go_wp2_with fail
  refine (first20 w).mono ?_; rintro e w1 ⟨rfl, hb1⟩
  have HB1 := Lib.hid hb1
  clear hb1
  go_wp2_with fail
  refine (dget_ok s c _ (by omega) hc hr hl).mono ?_; rintro e w2 ⟨hb2, ao, cap, rfl, h1, h2, h3, h4⟩
  have HB2 := Lib.hid (dstep HB1.out hb2)
  have HN := Lib.hid h3
  have HLn := Lib.hid h4
  clear hb2 h1 h2 h3 h4
  go_wp2_with fail
  refine (dput_str ao cap ls c s _ HLn.out HN.out hlt hc hT).mono ?_; rintro e w3 ⟨rfl, hb3⟩
  have HB3 := Lib.hid (dstep HB2.out hb3)
  clear hb3
  go_wp2_with fail
  refine (first20 _).mono ?_; rintro e w4 ⟨rfl, hb4⟩
  have HB4 := Lib.hid (dstep HB3.out hb4)
  clear hb4
  go_wp2_with fail
  go_ret
  exact ⟨rfl, HB4.out⟩
theorem done_walk (s : ByteArray) (c : Int) (w : World) (hm : s.size ≤ 9223372036854775807) :
    Calls Try.prog 10 #[.string s, .int .i64 c] w fun e w' => e = .returned (.bool true) ∧ Below w.heap.size w w' := by
  by_cases h1 : 4000 < s.size
  · exact done_long s c w h1 hm
  by_cases h2 : c < 0 ∨ 20000 < c
  · exact done_range s c w (by omega) (Lib.hid h2)
  obtain ⟨n, rfl⟩ := Int.eq_ofNat_of_zero_le (show 0 ≤ c by omega)
  by_cases h3 : ∃ xs, rdn s.data.toList n = .ok (xs, s.size, false)
  · obtain ⟨xs, hx⟩ := h3
    obtain ⟨f1, f2, f3, f4, f5⟩ := rdn_facts hx
    have ok := dec_ok xs f4
    refine done_ok s n w (by omega) (by omega) (Lib.hid hx) (Lib.hid rfl) (Lib.hid ok.all) (Lib.hid ?_)
    rw [enc_dec xs f4, ← f5 rfl]
    exact List.take_of_length_le (by simp)
  · exact done_no s n w (by omega) (by omega) (Lib.hid fun xs hx => h3 ⟨xs, hx⟩)
end Go.Proofs.Ytkpljnfakidjeaa
