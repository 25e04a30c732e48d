/-
  hyglaw4.WireReads: for every text, place and depth the law returns true.
-/
import Derived.Test.YtbhppchdoalahaaDoorWireReadsOk
import Derived.Test.YtbhppchdoalahaaDoorWireReadsNo
import Derived.Test.YtbhppchdoalahaaDoorWireReadsLo
import Derived.Test.YtbhppchdoalahaaDoorWireReadsHi
namespace Go.Proofs.YtbhppchdoalahaaDoor
open Go.RowKit

set_option maxRecDepth 100000 in
theorem wreads_long (s : ByteArray) (p d : Int) (w : World) (hs : 4000 < s.size) :
    Calls Tryd.prog 4 #[.string s, .int .i64 p, .int .i64 d] w fun e w' => e = .returned (.bool true) ∧ Below w.heap.size w w' := by
  have hd : decide (4000 < (s.size : Int)) = true := by simp; omega
  go_enter Tryd.func4, Tryd.ntmps4
  go_wp2_with fail
  refine (first4 w).mono ?_; rintro e w1 ⟨rfl, hb1⟩
  go_wp2_with fail
  refine (first4 w1).mono ?_; rintro e w2 ⟨rfl, hb2⟩
  go_wp2_with fail
  go_ret
  exact ⟨rfl, below_step hb1 hb2⟩
theorem wreads_walk (s : ByteArray) (p d : Int) (w : World) (hd : d ≤ 9223372036854775807) (hg : Glob w) :
    Calls Tryd.prog 4 #[.string s, .int .i64 p, .int .i64 d] w fun e w' => e = .returned (.bool true) ∧ Below w.heap.size w w' := by
  by_cases hs : s.size ≤ 4000
  · cases hw : wall s.data.toList d with
    | ok rs =>
      by_cases h1 : p < 0
      · exact reads_lo_y s p d w hs hd hg h1 rs hw
      · by_cases h2 : (s.size : Int) < p
        · exact reads_hi_y s p d w hs hd hg h2 rs hw
        · obtain ⟨q, rfl⟩ := Int.eq_ofNat_of_zero_le (show 0 ≤ p by omega)
          cases hn : wnx (s.data.toList.drop q) d with
          | ok x => exact reads_ok_y s q d w hs (by omega) hd hg x.1 x.2 hn rs hw
          | error c => exact reads_no_y s q d w hs (by omega) hd hg c hn rs hw
    | error cc =>
      by_cases h1 : p < 0
      · exact reads_lo_n s p d w hs hd hg h1 cc hw
      · by_cases h2 : (s.size : Int) < p
        · exact reads_hi_n s p d w hs hd hg h2 cc hw
        · obtain ⟨q, rfl⟩ := Int.eq_ofNat_of_zero_le (show 0 ≤ p by omega)
          cases hn : wnx (s.data.toList.drop q) d with
          | ok x => exact reads_ok_n s q d w hs (by omega) hd hg x.1 x.2 hn cc hw
          | error c => exact reads_no_n s q d w hs (by omega) hd hg c hn cc hw
  · exact wreads_long s p d w (by omega)
end Go.Proofs.YtbhppchdoalahaaDoor
