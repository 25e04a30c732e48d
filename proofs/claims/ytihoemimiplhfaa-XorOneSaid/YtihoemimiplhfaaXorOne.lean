/-
  hyglaw21.XorOne: for any bytes and any count the law returns true.
-/
import Derived.Test.YtihoemimiplhfaaXorLaw
namespace Go.Proofs.Ytihoemimiplhfaa
open Go.RowKit

set_option maxRecDepth 1000000 in
set_option maxHeartbeats 4000000 in
theorem xone_long (s : ByteArray) (c : Int) (w : World) (hs : 4000 < s.size) (hm : s.size ≤ 9223372036854775807) :
    Calls Try.prog 4 #[.string s, .int .i64 c] w fun e w' => e = .returned (.bool true) ∧ Below w.heap.size w w' := by
  go_enter Try.func4, Try.ntmps4
  go_wp2_with fail
  refine (first21 w).mono ?_; rintro e w1 ⟨rfl, hb1⟩
  have HB1 := Lib.hid hb1
  clear hb1
  go_wp2_with fail
  refine (first21 w1).mono ?_; rintro e w2 ⟨rfl, hb2⟩
  have HB2 := Lib.hid (dstep HB1.out hb2)
  clear hb2
  go_wp2_with fail
  go_ret
  exact ⟨rfl, HB2.out⟩
set_option maxRecDepth 1000000 in
set_option maxHeartbeats 4000000 in
theorem xone_range (s : ByteArray) (c : Int) (w : World) (hs : s.size ≤ 4000) (hc : Hid (c < 0 ∨ 20000 < c)) :
    Calls Try.prog 4 #[.string s, .int .i64 c] w fun e w' => e = .returned (.bool true) ∧ Below w.heap.size w w' := by
  go_enter Try.func4, Try.ntmps4
  go_wp2_with fail
  refine (first21 w).mono ?_; rintro e w1 ⟨rfl, hb1⟩
  have HB1 := Lib.hid (dstep hb1 (below_new0 w1 (.cells #[.int .i64 0, .iface 56 (.int .i64 9)] 90)))
  clear hb1
  go_wp2_with fail
  refine (xget_range s c _ hc.out).mono ?_; rintro e w' ⟨rfl, rfl⟩
  go_wp2_with fail
  refine (first21 _).mono ?_; rintro e w2 ⟨rfl, hb2⟩
  have HB2 := Lib.hid (dstep HB1.out hb2)
  clear hb2
  go_wp2_with fail
  go_ret
  exact ⟨rfl, HB2.out⟩
set_option maxRecDepth 1000000 in
set_option maxHeartbeats 4000000 in
theorem xone_no (s : ByteArray) (c : Nat) (w : World) (hs : s.size ≤ 4000) (hc : c ≤ 20000) (hr : Hid (∀ ls, ¬ GoodX s c ls)) :
    Calls Try.prog 4 #[.string s, .int .i64 c] w fun e w' => e = .returned (.bool true) ∧ Below w.heap.size w w' := by
  go_enter Try.func4, Try.ntmps4
  go_wp2_with fail
  refine (first21 w).mono ?_; rintro e w1 ⟨rfl, hb1⟩
  have HB1 := Lib.hid hb1
  clear hb1
  go_wp2_with fail
  refine (xget_no s c _ (by omega) hc hr).mono ?_; rintro e w2 ⟨hb2, x, rfl⟩
  have HB2 := Lib.hid (dstep HB1.out hb2)
  clear hb2
  go_wp2_with fail
  refine (first21 _).mono ?_; rintro e w3 ⟨rfl, hb3⟩
  have HB3 := Lib.hid (dstep HB2.out hb3)
  clear hb3
  go_wp2_with fail
  go_ret
  exact ⟨rfl, HB3.out⟩
set_option maxRecDepth 1000000 in
set_option maxHeartbeats 4000000 in
theorem xone_ok (s : ByteArray) (c : Nat) (w : World) (hs : s.size ≤ 4000) (hc : c ≤ 20000) {ls : List Nat} (hr : Hid (GoodX s c ls)) (hb : Hid (catN (xenc ls) ≤ 900000)) :
    Calls Try.prog 4 #[.string s, .int .i64 c] w fun e w' => e = .returned (.bool true) ∧ Below w.heap.size w w' := by
  go_enter Try.func4, Try.ntmps4
  go_wp2_with fail
  refine (first21 w).mono ?_; rintro e w1 ⟨rfl, hb1⟩
  have HB1 := Lib.hid hb1
  clear hb1
  go_wp2_with fail
  refine (xget_ok s c _ (by omega) hc hr).mono ?_; rintro e w2 ⟨hb2, ao, cap, rfl, h3, h4⟩
  have HB2 := Lib.hid (dstep HB1.out hb2)
  have HN := Lib.hid h3
  have HLn := Lib.hid h4
  clear hb2 h3 h4
  go_wp2_with fail
  refine (xput_str ao cap ls c s _ HLn.out HN.out hr hc hb).mono ?_; rintro e w3 ⟨rfl, hb3⟩
  have HB3 := Lib.hid (dstep HB2.out hb3)
  clear hb3
  go_wp2_with fail
  refine (first21 _).mono ?_; rintro e w4 ⟨rfl, hb4⟩
  have HB4 := Lib.hid (dstep HB3.out hb4)
  clear hb4
  go_wp2_with fail
  go_ret
  exact ⟨rfl, HB4.out⟩
theorem xone_walk (s : ByteArray) (c : Int) (w : World) (hm : s.size ≤ 9223372036854775807) :
    Calls Try.prog 4 #[.string s, .int .i64 c] w fun e w' => e = .returned (.bool true) ∧ Below w.heap.size w w' := by
  by_cases h1 : 4000 < s.size
  · exact xone_long s c w h1 hm
  by_cases h2 : c < 0 ∨ 20000 < c
  · exact xone_range s c w (by omega) (Lib.hid h2)
  obtain ⟨n, rfl⟩ := Int.eq_ofNat_of_zero_le (show 0 ≤ c by omega)
  by_cases h3 : ∃ ls, GoodX s n ls
  · obtain ⟨ls, hx⟩ := h3
    refine xone_ok s n w (by omega) (by omega) (Lib.hid hx) (Lib.hid ?_)
    have := good_bits hx
    omega
  · exact xone_no s n w (by omega) (by omega) (Lib.hid fun ps hx => h3 ⟨ps, hx⟩)
end Go.Proofs.Ytihoemimiplhfaa
