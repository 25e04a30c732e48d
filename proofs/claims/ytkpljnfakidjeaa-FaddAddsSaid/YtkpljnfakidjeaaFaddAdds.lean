/-
  hyglaw7.FaddAdds: for any two doubles the law returns true.
-/
import Derived.Test.YtkpljnfakidjeaaFaddRAdd
namespace Go.Proofs.Ytkpljnfakidjeaa
open Go.RowKit

set_option maxRecDepth 1000000 in
set_option maxHeartbeats 4000000 in
theorem adds_walk (a b x y z : Nat) (w : World) (ha : a < 2^64) (hb : b < 2^64) (HX : Hid (Fm.add a b = x)) (HY : Hid (Fm.sub a b = y)) (HZ : Hid (Fm.quiet a = z)) :
    Calls Try.prog 3 #[.int .u64 a, .int .u64 b] w fun e w' => e = .returned (.bool true) ∧ w = w' := by
  go_enter Try.func3, Try.ntmps3
  go_wp2_with fail
  refine (first7 _).mono ?_; rintro e w' ⟨rfl, rfl⟩
  go_wp2_with fail
  refine (first7 _).mono ?_; rintro e w' ⟨rfl, rfl⟩
  go_wp2_with fail
  refine (add_at a b x _ ha hb HX).mono ?_; rintro e w' ⟨rfl, rfl⟩
  go_wp2_with fail
  refine (radd_at a b x _ ha hb HX).mono ?_; rintro e w' ⟨rfl, rfl⟩
  go_wp2_with fail
  refine (sub_at a b y _ ha hb HY).mono ?_; rintro e w' ⟨rfl, rfl⟩
  go_wp2_with fail
  refine (rsub_at a b y _ ha hb HY).mono ?_; rintro e w' ⟨rfl, rfl⟩
  go_wp2_with fail
  refine (quiet_is a z _ ha HZ).mono ?_; rintro e w' ⟨rfl, rfl⟩
  go_wp2_with fail
  refine (rquiet_is a z _ ha HZ).mono ?_; rintro e w' ⟨rfl, rfl⟩
  go_wp2_with fail
  go_ret
  exact ⟨rfl, rfl⟩
end Go.Proofs.Ytkpljnfakidjeaa
