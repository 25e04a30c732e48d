/-
  Doubles added: the reference's Add, NaN and Inf.
-/
import Derived.Test.YtkpljnfakidjeaaFaddRefA
namespace Go.Proofs.Ytkpljnfakidjeaa
open Go.RowKit

set_option maxRecDepth 1000000 in
set_option maxHeartbeats 4000000 in
theorem radd_nan1 (a b R : Nat) (w : World) (ha : a < 2^64) (_hb : b < 2^64) {c1 c2 : Int} (C1 : Hid (c1 = (Fm.cls a : Nat))) (_C2 : Hid (c2 = (Fm.cls b : Nat))) (e1 : (c1 == 4) = true) (HA : Hid (Fm.quiet a = R)) :
    Calls Try.prog 13 #[.int .u64 a, .int .u64 b] w fun e w' => e = .returned (.int .u64 R) ∧ w = w' := by
  go_enter Try.func13, Try.ntmps13
  go_wp2_with fail
  refine (rclass_is a _ ha C1).mono ?_; rintro e w' ⟨rfl, rfl⟩
  go_wp2_with fail
  refine (rquiet_is a R _ ha HA).mono ?_; rintro e w' ⟨rfl, rfl⟩
  go_wp2_with fail
  go_ret
  exact ⟨rfl, rfl⟩
set_option maxRecDepth 1000000 in
set_option maxHeartbeats 4000000 in
theorem radd_nan2 (a b R : Nat) (w : World) (ha : a < 2^64) (hb : b < 2^64) {c1 c2 : Int} (C1 : Hid (c1 = (Fm.cls a : Nat))) (C2 : Hid (c2 = (Fm.cls b : Nat))) (e1 : (c1 == 4) = false) (e2 : (c2 == 4) = true) (HA : Hid (Fm.quiet b = R)) :
    Calls Try.prog 13 #[.int .u64 a, .int .u64 b] w fun e w' => e = .returned (.int .u64 R) ∧ w = w' := by
  go_enter Try.func13, Try.ntmps13
  go_wp2_with fail
  refine (rclass_is a _ ha C1).mono ?_; rintro e w' ⟨rfl, rfl⟩
  go_wp2_with fail
  refine (rclass_is b _ hb C2).mono ?_; rintro e w' ⟨rfl, rfl⟩
  go_wp2_with fail
  refine (rquiet_is b R _ hb HA).mono ?_; rintro e w' ⟨rfl, rfl⟩
  go_wp2_with fail
  go_ret
  exact ⟨rfl, rfl⟩
set_option maxRecDepth 1000000 in
set_option maxHeartbeats 4000000 in
theorem radd_infs (a b R : Nat) (w : World) (ha : a < 2^64) (hb : b < 2^64) {c1 c2 : Int} (C1 : Hid (c1 = (Fm.cls a : Nat))) (C2 : Hid (c2 = (Fm.cls b : Nat))) (e1 : (c1 == 4) = false) (e2 : (c2 == 4) = false) (e3 : (c1 == 3) = true) (e4 : (c2 == 3) = true) (e5 : ((a : Int) != (b : Int)) = true) (HA : Hid ((9221120237041090560 : Int) = (R : Int))) :
    Calls Try.prog 13 #[.int .u64 a, .int .u64 b] w fun e w' => e = .returned (.int .u64 R) ∧ w = w' := by
  go_enter Try.func13, Try.ntmps13
  go_wp2_with fail
  refine (rclass_is a _ ha C1).mono ?_; rintro e w' ⟨rfl, rfl⟩
  go_wp2_with fail
  refine (rclass_is b _ hb C2).mono ?_; rintro e w' ⟨rfl, rfl⟩
  go_wp2_with fail
  refine (rclass_is a _ ha C1).mono ?_; rintro e w' ⟨rfl, rfl⟩
  go_wp2_with fail
  refine (rclass_is b _ hb C2).mono ?_; rintro e w' ⟨rfl, rfl⟩
  go_wp2_with fail
  go_ret
  exact ⟨ret_int HA.out, rfl⟩
set_option maxRecDepth 1000000 in
set_option maxHeartbeats 4000000 in
theorem radd_inf1 (a b R : Nat) (w : World) (ha : a < 2^64) (hb : b < 2^64) {c1 c2 : Int} (C1 : Hid (c1 = (Fm.cls a : Nat))) (C2 : Hid (c2 = (Fm.cls b : Nat))) (e1 : (c1 == 4) = false) (e2 : (c2 == 4) = false) (e3 : (c1 == 3) = true) (e4 : (c2 == 3) = false) (HA : Hid ((a : Int) = (R : Int))) :
    Calls Try.prog 13 #[.int .u64 a, .int .u64 b] w fun e w' => e = .returned (.int .u64 R) ∧ w = w' := by
  go_enter Try.func13, Try.ntmps13
  go_wp2_with fail
  refine (rclass_is a _ ha C1).mono ?_; rintro e w' ⟨rfl, rfl⟩
  go_wp2_with fail
  refine (rclass_is b _ hb C2).mono ?_; rintro e w' ⟨rfl, rfl⟩
  go_wp2_with fail
  refine (rclass_is a _ ha C1).mono ?_; rintro e w' ⟨rfl, rfl⟩
  go_wp2_with fail
  refine (rclass_is b _ hb C2).mono ?_; rintro e w' ⟨rfl, rfl⟩
  go_wp2_with fail
  refine (rclass_is a _ ha C1).mono ?_; rintro e w' ⟨rfl, rfl⟩
  go_wp2_with fail
  go_ret
  exact ⟨ret_int HA.out, rfl⟩
set_option maxRecDepth 1000000 in
set_option maxHeartbeats 4000000 in
theorem radd_inf11 (a b R : Nat) (w : World) (ha : a < 2^64) (hb : b < 2^64) {c1 c2 : Int} (C1 : Hid (c1 = (Fm.cls a : Nat))) (C2 : Hid (c2 = (Fm.cls b : Nat))) (e1 : (c1 == 4) = false) (e2 : (c2 == 4) = false) (e3 : (c1 == 3) = true) (e4 : (c2 == 3) = true) (e5 : ((a : Int) != (b : Int)) = false) (HA : Hid ((a : Int) = (R : Int))) :
    Calls Try.prog 13 #[.int .u64 a, .int .u64 b] w fun e w' => e = .returned (.int .u64 R) ∧ w = w' := by
  go_enter Try.func13, Try.ntmps13
  go_wp2_with fail
  refine (rclass_is a _ ha C1).mono ?_; rintro e w' ⟨rfl, rfl⟩
  go_wp2_with fail
  refine (rclass_is b _ hb C2).mono ?_; rintro e w' ⟨rfl, rfl⟩
  go_wp2_with fail
  refine (rclass_is a _ ha C1).mono ?_; rintro e w' ⟨rfl, rfl⟩
  go_wp2_with fail
  refine (rclass_is b _ hb C2).mono ?_; rintro e w' ⟨rfl, rfl⟩
  go_wp2_with fail
  refine (rclass_is a _ ha C1).mono ?_; rintro e w' ⟨rfl, rfl⟩
  go_wp2_with fail
  go_ret
  exact ⟨ret_int HA.out, rfl⟩
set_option maxRecDepth 1000000 in
set_option maxHeartbeats 4000000 in
theorem radd_inf2 (a b R : Nat) (w : World) (ha : a < 2^64) (hb : b < 2^64) {c1 c2 : Int} (C1 : Hid (c1 = (Fm.cls a : Nat))) (C2 : Hid (c2 = (Fm.cls b : Nat))) (e1 : (c1 == 4) = false) (e2 : (c2 == 4) = false) (e3 : (c1 == 3) = false) (e4 : (c2 == 3) = true) (HA : Hid ((b : Int) = (R : Int))) :
    Calls Try.prog 13 #[.int .u64 a, .int .u64 b] w fun e w' => e = .returned (.int .u64 R) ∧ w = w' := by
  go_enter Try.func13, Try.ntmps13
  go_wp2_with fail
  refine (rclass_is a _ ha C1).mono ?_; rintro e w' ⟨rfl, rfl⟩
  go_wp2_with fail
  refine (rclass_is b _ hb C2).mono ?_; rintro e w' ⟨rfl, rfl⟩
  go_wp2_with fail
  refine (rclass_is a _ ha C1).mono ?_; rintro e w' ⟨rfl, rfl⟩
  go_wp2_with fail
  refine (rclass_is a _ ha C1).mono ?_; rintro e w' ⟨rfl, rfl⟩
  go_wp2_with fail
  refine (rclass_is b _ hb C2).mono ?_; rintro e w' ⟨rfl, rfl⟩
  go_wp2_with fail
  go_ret
  exact ⟨ret_int HA.out, rfl⟩
set_option maxRecDepth 1000000 in
set_option maxHeartbeats 4000000 in
theorem radd_zero (a b R : Nat) (w : World) (ha : a < 2^64) (hb : b < 2^64) {c1 c2 : Int} (C1 : Hid (c1 = (Fm.cls a : Nat))) (C2 : Hid (c2 = (Fm.cls b : Nat))) (e1 : (c1 == 4) = false) (e2 : (c2 == 4) = false) (e3 : (c1 == 3) = false) (e4 : (c2 == 3) = false) {A B : Nat} (HA : Hid (Fm.sz a = A)) (HB : Hid (Fm.sz b = B)) (z1 : ((A : Int) == 0) = true) (z2 : ((B : Int) == 0) = true) (HR : Hid (bits .and .u64 (a : Int) (b : Int) = (R : Int))) :
    Calls Try.prog 13 #[.int .u64 a, .int .u64 b] w fun e w' => e = .returned (.int .u64 R) ∧ w = w' := by
  go_enter Try.func13, Try.ntmps13
  go_wp2_with fail
  refine (rclass_is a _ ha C1).mono ?_; rintro e w' ⟨rfl, rfl⟩
  go_wp2_with fail
  refine (rclass_is b _ hb C2).mono ?_; rintro e w' ⟨rfl, rfl⟩
  go_wp2_with fail
  refine (rclass_is a _ ha C1).mono ?_; rintro e w' ⟨rfl, rfl⟩
  go_wp2_with fail
  refine (rclass_is a _ ha C1).mono ?_; rintro e w' ⟨rfl, rfl⟩
  go_wp2_with fail
  refine (rclass_is b _ hb C2).mono ?_; rintro e w' ⟨rfl, rfl⟩
  go_wp2_with fail
  refine (rsize_at a A _ ha HA).mono ?_; rintro e w' ⟨rfl, rfl⟩
  go_wp2_with fail
  refine (rsize_at b B _ hb HB).mono ?_; rintro e w' ⟨rfl, rfl⟩
  go_wp2_with fail
  go_ret
  exact ⟨ret_int HR.out, rfl⟩
end Go.Proofs.Ytkpljnfakidjeaa
