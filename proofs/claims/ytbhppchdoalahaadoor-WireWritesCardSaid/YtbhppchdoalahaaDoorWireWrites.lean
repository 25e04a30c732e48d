/-
  hyglaw4.WireWrites: for every numbers, type and text the law returns true.
-/
import Derived.Test.YtbhppchdoalahaaDoorWireWritesA
import Derived.Test.YtbhppchdoalahaaDoorWireWritesB
namespace Go.Proofs.YtbhppchdoalahaaDoor
open Go.RowKit

set_option maxRecDepth 100000 in
theorem writes_long (num kind n : Int) (s : ByteArray) (w : World) (hs : 4000 < s.size) :
    Calls Tryd.prog 5 #[.int .i64 num, .int .i64 kind, .int .u64 n, .string s] w fun e w' => e = .returned (.bool true) ∧ Below w.heap.size w w' := by
  have hd : decide (4000 < (s.size : Int)) = true := by simp; omega
  go_enter Tryd.func5, Tryd.ntmps5
  go_wp2_with fail
  refine (first4 w).mono ?_; rintro e w1 ⟨rfl, hb1⟩
  go_wp2_with fail
  refine (first4 w1).mono ?_; rintro e w2 ⟨rfl, hb2⟩
  go_wp2_with fail
  go_ret
  exact ⟨rfl, below_step hb1 hb2⟩
theorem writes_walk (num kind : Int) (n : Nat) (s : ByteArray) (w : World) (h1 : -9223372036854775808 ≤ num) (h2 : num ≤ 9223372036854775807) (h3 : -9223372036854775808 ≤ kind) (h4 : kind ≤ 9223372036854775807) (hn : n < 2 ^ 64) (hg : Glob w) :
    Calls Tryd.prog 5 #[.int .i64 num, .int .i64 kind, .int .u64 (n : Int), .string s] w fun e w' => e = .returned (.bool true) ∧ Below w.heap.size w w' := by
  by_cases hs : s.size ≤ 4000
  · by_cases hf : s.size % 8 = 0
    · cases hv : wvars s.data.toList with
      | ok ns => exact writes_yy num kind n s w h1 h2 h3 h4 hn hs hg hf ns hv
      | error c => exact writes_yn num kind n s w h1 h2 h3 h4 hn hs hg hf c hv
    · cases hv : wvars s.data.toList with
      | ok ns => exact writes_ny num kind n s w h1 h2 h3 h4 hn hs hg hf ns hv
      | error c => exact writes_nn num kind n s w h1 h2 h3 h4 hn hs hg hf c hv
  · exact writes_long num kind n s w (by omega)
end Go.Proofs.YtbhppchdoalahaaDoor
