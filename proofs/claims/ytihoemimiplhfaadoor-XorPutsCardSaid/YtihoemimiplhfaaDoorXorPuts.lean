/-
  hyglaw21.XorPuts: for any numbers the law returns true.
-/
import Derived.Test.YtihoemimiplhfaaDoorXorLaw
import Derived.Test.YtihoemimiplhfaaDoorXorRef
import Derived.Test.YtihoemimiplhfaaDoorCopyNums
import Derived.Test.YtihoemimiplhfaaDoorBlame
namespace Go.Proofs.YtihoemimiplhfaaDoor
open Go.RowKit

set_option maxRecDepth 1000000 in
set_option maxHeartbeats 1000000 in
theorem xputs_long (ao : Option Addr) (cap n : Nat) (w : World) (hl : 2000 < n) (hm : n ≤ 9223372036854775807) :
    Calls Tryd.prog 3 #[.slice ao n cap] w fun e w' => e = .returned (.bool true) ∧ Below w.heap.size w w' := by
  go_enter Tryd.func3, Tryd.ntmps3
  go_wp2_with fail
  refine (first21 w).mono ?_; rintro e w1 ⟨rfl, hb1⟩
  have HB1 := Lib.hid hb1
  clear hb1
  go_wp2_with fail
  refine (first21 w1).mono ?_; rintro e w2 ⟨rfl, hb2⟩
  have HB2 := Lib.hid (dstep HB1.out hb2)
  clear hb2
  go_wp2_with fail
  go_ret
  exact ⟨rfl, HB2.out⟩
set_option maxRecDepth 1000000 in
set_option maxHeartbeats 4000000 in
theorem xputs_walk (ao : Option Addr) (cap : Nat) (l : List Nat) (S : ByteArray) (w : World) (hN : Nats .u64 w ao l) (hnil : ao = none → cap = 0) (hlt : Hid (∀ n ∈ l, n < 18446744073709551616)) (hl : l.length ≤ 2000) (hcb : Hid (catN (xenc l) ≤ 900000)) (hS : Hid ((⟨(xbytes l).toArray⟩ : ByteArray) = S)) :
    Calls Tryd.prog 3 #[.slice ao l.length cap] w fun e w' => e = .returned (.bool true) ∧ Below w.heap.size w w' := by
  have HN := Lib.hid hN
  have HNil := Lib.hid hnil
  clear hN hnil
  go_enter Tryd.func3, Tryd.ntmps3
  go_wp2_with fail
  refine (first21 w).mono ?_; rintro e w1 ⟨rfl, hb1⟩
  have HB1 := Lib.hid hb1
  clear hb1
  go_wp2_with fail
  refine (copy_nums ao cap l _ (HN.out.below HB1.out) HNil.out (by omega)).mono ?_; rintro e w2 ⟨⟨bo, bcap, rfl, h1, h2, h3⟩, hb2⟩
  have HB2 := Lib.hid (dstep HB1.out hb2)
  have HM := Lib.hid h3
  clear hb2 h1 h2 h3
  go_wp2_with fail
  refine (xput_any bo bcap l _ HM.out hlt (by omega) hcb hS).mono ?_; rintro e w3 ⟨rfl, hb3⟩
  have HB3 := Lib.hid (dstep HB2.out hb3)
  have HM3 := Lib.hid (HM.out.below hb3)
  clear hb3
  go_wp2_with fail
  refine (rxput_any ao cap l _ _ rfl (HN.out.below HB3.out) hlt (by omega) hcb hS).mono ?_; rintro e w4 ⟨rfl, hb4⟩
  have HB4 := Lib.hid (dstep HB3.out hb4)
  have HM4 := Lib.hid (HM3.out.below hb4)
  clear hb4
  go_wp2_with fail
  refine (first21 _).mono ?_; rintro e w5 ⟨rfl, hb5⟩
  have HB5 := Lib.hid (dstep HB4.out hb5)
  have HM5 := Lib.hid (HM4.out.below hb5)
  clear hb5
  go_wp2_with fail
  refine (code_nil _).mono ?_; rintro e w' ⟨rfl, rfl⟩
  go_wp2_with fail
  refine (nums_same bo ao bcap cap l _ HM5.out (HN.out.below HB5.out) (by omega)).mono ?_; rintro e w6 ⟨rfl, hb6⟩
  have HB6 := Lib.hid (dstep HB5.out hb6)
  clear hb6
  go_wp2_with fail
  go_ret
  exact ⟨rfl, HB6.out⟩
end Go.Proofs.YtihoemimiplhfaaDoor
