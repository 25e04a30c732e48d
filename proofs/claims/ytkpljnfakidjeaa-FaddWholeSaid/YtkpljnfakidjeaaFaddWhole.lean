/-
  hyglaw7.FaddWhole: for any two integers and any three doubles the law returns true.
-/
import Derived.Test.YtkpljnfakidjeaaFaddSum
import Derived.Test.YtkpljnfakidjeaaFaddLess
import Derived.Test.YtkpljnfakidjeaaFaddFrom
namespace Go.Proofs.Ytkpljnfakidjeaa
open Go.RowKit

theorem bstep {a b c : World} (h1 : Below a.heap.size a b) (h2 : Below b.heap.size b c) : Below a.heap.size a c := h1.trans (h2.mono h1.size)
set_option maxRecDepth 1000000 in
set_option maxHeartbeats 4000000 in
theorem whole_o1_1 (n m : Int) (a b c : Nat) (w : World) (r1 : decide (n ≥ -4503599627370496) = false) (ha : a < 2^64) {c1 : Int} (C1 : Hid (c1 = (Fm.cls a : Nat))) (e1 : decide (c1 > 2) = true) :
    Calls Try.prog 6 #[.int .i64 n, .int .i64 m, .int .u64 a, .int .u64 b, .int .u64 c] w fun e w' => e = .returned (.bool true) ∧ Below w.heap.size w w' := by
  go_enter Try.func6, Try.ntmps6
  go_wp2_with fail
  refine (first7 _).mono ?_; rintro e w' ⟨rfl, rfl⟩
  go_wp2_with fail
  refine (class_is a _ ha C1).mono ?_; rintro e w' ⟨rfl, rfl⟩
  go_wp2_with fail
  refine (first7 _).mono ?_; rintro e w' ⟨rfl, rfl⟩
  go_wp2_with fail
  go_ret
  exact ⟨rfl, Below.refl _ _⟩
set_option maxRecDepth 1000000 in
set_option maxHeartbeats 4000000 in
theorem whole_o1_2 (n m : Int) (a b c : Nat) (w : World) (r1 : decide (n ≥ -4503599627370496) = false) (ha : a < 2^64) {c1 : Int} (C1 : Hid (c1 = (Fm.cls a : Nat))) (e1 : decide (c1 > 2) = false) (hb : b < 2^64) {c2 : Int} (C2 : Hid (c2 = (Fm.cls b : Nat))) (e2 : decide (c2 > 2) = true) :
    Calls Try.prog 6 #[.int .i64 n, .int .i64 m, .int .u64 a, .int .u64 b, .int .u64 c] w fun e w' => e = .returned (.bool true) ∧ Below w.heap.size w w' := by
  go_enter Try.func6, Try.ntmps6
  go_wp2_with fail
  refine (first7 _).mono ?_; rintro e w' ⟨rfl, rfl⟩
  go_wp2_with fail
  refine (class_is a _ ha C1).mono ?_; rintro e w' ⟨rfl, rfl⟩
  go_wp2_with fail
  refine (class_is b _ hb C2).mono ?_; rintro e w' ⟨rfl, rfl⟩
  go_wp2_with fail
  refine (first7 _).mono ?_; rintro e w' ⟨rfl, rfl⟩
  go_wp2_with fail
  go_ret
  exact ⟨rfl, Below.refl _ _⟩
set_option maxRecDepth 1000000 in
set_option maxHeartbeats 4000000 in
theorem whole_o1_3 (n m : Int) (a b c : Nat) (w : World) (r1 : decide (n ≥ -4503599627370496) = false) (ha : a < 2^64) {c1 : Int} (C1 : Hid (c1 = (Fm.cls a : Nat))) (e1 : decide (c1 > 2) = false) (hb : b < 2^64) {c2 : Int} (C2 : Hid (c2 = (Fm.cls b : Nat))) (e2 : decide (c2 > 2) = false) (hc : c < 2^64) {c3 : Int} (C3 : Hid (c3 = (Fm.cls c : Nat))) (e3 : decide (c3 > 2) = true) :
    Calls Try.prog 6 #[.int .i64 n, .int .i64 m, .int .u64 a, .int .u64 b, .int .u64 c] w fun e w' => e = .returned (.bool true) ∧ Below w.heap.size w w' := by
  go_enter Try.func6, Try.ntmps6
  go_wp2_with fail
  refine (first7 _).mono ?_; rintro e w' ⟨rfl, rfl⟩
  go_wp2_with fail
  refine (class_is a _ ha C1).mono ?_; rintro e w' ⟨rfl, rfl⟩
  go_wp2_with fail
  refine (class_is b _ hb C2).mono ?_; rintro e w' ⟨rfl, rfl⟩
  go_wp2_with fail
  refine (class_is c _ hc C3).mono ?_; rintro e w' ⟨rfl, rfl⟩
  go_wp2_with fail
  refine (first7 _).mono ?_; rintro e w' ⟨rfl, rfl⟩
  go_wp2_with fail
  go_ret
  exact ⟨rfl, Below.refl _ _⟩
set_option maxRecDepth 1000000 in
set_option maxHeartbeats 4000000 in
theorem whole_o1_4 (n m : Int) (a b c : Nat) (w : World) (r1 : decide (n ≥ -4503599627370496) = false) (ha : a < 2^64) {c1 : Int} (C1 : Hid (c1 = (Fm.cls a : Nat))) (e1 : decide (c1 > 2) = false) (hb : b < 2^64) {c2 : Int} (C2 : Hid (c2 = (Fm.cls b : Nat))) (e2 : decide (c2 > 2) = false) (hc : c < 2^64) {c3 : Int} (C3 : Hid (c3 = (Fm.cls c : Nat))) (e3 : decide (c3 > 2) = false) (na : Hid (Fm.cls a ≠ 4)) (nb : Hid (Fm.cls b ≠ 4)) (HL : Hid (decide (Fm.num a < Fm.num b) = false)) :
    Calls Try.prog 6 #[.int .i64 n, .int .i64 m, .int .u64 a, .int .u64 b, .int .u64 c] w fun e w' => e = .returned (.bool true) ∧ Below w.heap.size w w' := by
  go_enter Try.func6, Try.ntmps6
  go_wp2_with fail
  refine (first7 _).mono ?_; rintro e w' ⟨rfl, rfl⟩
  go_wp2_with fail
  refine (class_is a _ ha C1).mono ?_; rintro e w' ⟨rfl, rfl⟩
  go_wp2_with fail
  refine (class_is b _ hb C2).mono ?_; rintro e w' ⟨rfl, rfl⟩
  go_wp2_with fail
  refine (class_is c _ hc C3).mono ?_; rintro e w' ⟨rfl, rfl⟩
  go_wp2_with fail
  refine (less_at a b _ ha hb na nb HL).mono ?_; rintro e w' ⟨rfl, rfl⟩
  go_wp2_with fail
  refine (first7 _).mono ?_; rintro e w' ⟨rfl, rfl⟩
  go_wp2_with fail
  go_ret
  exact ⟨rfl, Below.refl _ _⟩
set_option maxRecDepth 1000000 in
set_option maxHeartbeats 4000000 in
theorem whole_o1_5 (n m : Int) (a b c : Nat) (w : World) (r1 : decide (n ≥ -4503599627370496) = false) (ha : a < 2^64) {c1 : Int} (C1 : Hid (c1 = (Fm.cls a : Nat))) (e1 : decide (c1 > 2) = false) (hb : b < 2^64) {c2 : Int} (C2 : Hid (c2 = (Fm.cls b : Nat))) (e2 : decide (c2 > 2) = false) (hc : c < 2^64) {c3 : Int} (C3 : Hid (c3 = (Fm.cls c : Nat))) (e3 : decide (c3 > 2) = false) (na : Hid (Fm.cls a ≠ 4)) (nb : Hid (Fm.cls b ≠ 4)) (HL : Hid (decide (Fm.num a < Fm.num b) = true)) {x y : Nat} (hx : x < 2^64) (hy : y < 2^64) (X : Hid (Fm.add b c = x)) (Y : Hid (Fm.add a c = y)) (X' : Hid (Fm.add c b = x)) (Y' : Hid (Fm.add c a = y)) (nx : Hid (Fm.cls x ≠ 4)) (ny : Hid (Fm.cls y ≠ 4)) (HM : Hid (decide (Fm.num x < Fm.num y) = false)) :
    Calls Try.prog 6 #[.int .i64 n, .int .i64 m, .int .u64 a, .int .u64 b, .int .u64 c] w fun e w' => e = .returned (.bool true) ∧ Below w.heap.size w w' := by
  go_enter Try.func6, Try.ntmps6
  go_wp2_with fail
  refine (first7 _).mono ?_; rintro e w' ⟨rfl, rfl⟩
  go_wp2_with fail
  refine (class_is a _ ha C1).mono ?_; rintro e w' ⟨rfl, rfl⟩
  go_wp2_with fail
  refine (class_is b _ hb C2).mono ?_; rintro e w' ⟨rfl, rfl⟩
  go_wp2_with fail
  refine (class_is c _ hc C3).mono ?_; rintro e w' ⟨rfl, rfl⟩
  go_wp2_with fail
  refine (less_at a b _ ha hb na nb HL).mono ?_; rintro e w' ⟨rfl, rfl⟩
  go_wp2_with fail
  refine (first7 _).mono ?_; rintro e w' ⟨rfl, rfl⟩
  go_wp2_with fail
  refine (add_at b c x _ hb hc X).mono ?_; rintro e w' ⟨rfl, rfl⟩
  go_wp2_with fail
  refine (add_at a c y _ ha hc Y).mono ?_; rintro e w' ⟨rfl, rfl⟩
  go_wp2_with fail
  refine (less_at x y _ hx hy nx ny HM).mono ?_; rintro e w' ⟨rfl, rfl⟩
  go_wp2_with fail
  refine (add_at c b x _ hc hb X').mono ?_; rintro e w' ⟨rfl, rfl⟩
  go_wp2_with fail
  refine (add_at c a y _ hc ha Y').mono ?_; rintro e w' ⟨rfl, rfl⟩
  go_wp2_with fail
  refine (less_at x y _ hx hy nx ny HM).mono ?_; rintro e w' ⟨rfl, rfl⟩
  go_wp2_with fail
  go_ret
  exact ⟨rfl, Below.refl _ _⟩
set_option maxRecDepth 1000000 in
set_option maxHeartbeats 4000000 in
theorem whole_o2_1 (n m : Int) (a b c : Nat) (w : World) (r1 : decide (n ≥ -4503599627370496) = true) (r2 : decide (n ≤ 4503599627370496) = false) (ha : a < 2^64) {c1 : Int} (C1 : Hid (c1 = (Fm.cls a : Nat))) (e1 : decide (c1 > 2) = true) :
    Calls Try.prog 6 #[.int .i64 n, .int .i64 m, .int .u64 a, .int .u64 b, .int .u64 c] w fun e w' => e = .returned (.bool true) ∧ Below w.heap.size w w' := by
  go_enter Try.func6, Try.ntmps6
  go_wp2_with fail
  refine (first7 _).mono ?_; rintro e w' ⟨rfl, rfl⟩
  go_wp2_with fail
  refine (class_is a _ ha C1).mono ?_; rintro e w' ⟨rfl, rfl⟩
  go_wp2_with fail
  refine (first7 _).mono ?_; rintro e w' ⟨rfl, rfl⟩
  go_wp2_with fail
  go_ret
  exact ⟨rfl, Below.refl _ _⟩
set_option maxRecDepth 1000000 in
set_option maxHeartbeats 4000000 in
theorem whole_o2_2 (n m : Int) (a b c : Nat) (w : World) (r1 : decide (n ≥ -4503599627370496) = true) (r2 : decide (n ≤ 4503599627370496) = false) (ha : a < 2^64) {c1 : Int} (C1 : Hid (c1 = (Fm.cls a : Nat))) (e1 : decide (c1 > 2) = false) (hb : b < 2^64) {c2 : Int} (C2 : Hid (c2 = (Fm.cls b : Nat))) (e2 : decide (c2 > 2) = true) :
    Calls Try.prog 6 #[.int .i64 n, .int .i64 m, .int .u64 a, .int .u64 b, .int .u64 c] w fun e w' => e = .returned (.bool true) ∧ Below w.heap.size w w' := by
  go_enter Try.func6, Try.ntmps6
  go_wp2_with fail
  refine (first7 _).mono ?_; rintro e w' ⟨rfl, rfl⟩
  go_wp2_with fail
  refine (class_is a _ ha C1).mono ?_; rintro e w' ⟨rfl, rfl⟩
  go_wp2_with fail
  refine (class_is b _ hb C2).mono ?_; rintro e w' ⟨rfl, rfl⟩
  go_wp2_with fail
  refine (first7 _).mono ?_; rintro e w' ⟨rfl, rfl⟩
  go_wp2_with fail
  go_ret
  exact ⟨rfl, Below.refl _ _⟩
set_option maxRecDepth 1000000 in
set_option maxHeartbeats 4000000 in
theorem whole_o2_3 (n m : Int) (a b c : Nat) (w : World) (r1 : decide (n ≥ -4503599627370496) = true) (r2 : decide (n ≤ 4503599627370496) = false) (ha : a < 2^64) {c1 : Int} (C1 : Hid (c1 = (Fm.cls a : Nat))) (e1 : decide (c1 > 2) = false) (hb : b < 2^64) {c2 : Int} (C2 : Hid (c2 = (Fm.cls b : Nat))) (e2 : decide (c2 > 2) = false) (hc : c < 2^64) {c3 : Int} (C3 : Hid (c3 = (Fm.cls c : Nat))) (e3 : decide (c3 > 2) = true) :
    Calls Try.prog 6 #[.int .i64 n, .int .i64 m, .int .u64 a, .int .u64 b, .int .u64 c] w fun e w' => e = .returned (.bool true) ∧ Below w.heap.size w w' := by
  go_enter Try.func6, Try.ntmps6
  go_wp2_with fail
  refine (first7 _).mono ?_; rintro e w' ⟨rfl, rfl⟩
  go_wp2_with fail
  refine (class_is a _ ha C1).mono ?_; rintro e w' ⟨rfl, rfl⟩
  go_wp2_with fail
  refine (class_is b _ hb C2).mono ?_; rintro e w' ⟨rfl, rfl⟩
  go_wp2_with fail
  refine (class_is c _ hc C3).mono ?_; rintro e w' ⟨rfl, rfl⟩
  go_wp2_with fail
  refine (first7 _).mono ?_; rintro e w' ⟨rfl, rfl⟩
  go_wp2_with fail
  go_ret
  exact ⟨rfl, Below.refl _ _⟩
set_option maxRecDepth 1000000 in
set_option maxHeartbeats 4000000 in
theorem whole_o2_4 (n m : Int) (a b c : Nat) (w : World) (r1 : decide (n ≥ -4503599627370496) = true) (r2 : decide (n ≤ 4503599627370496) = false) (ha : a < 2^64) {c1 : Int} (C1 : Hid (c1 = (Fm.cls a : Nat))) (e1 : decide (c1 > 2) = false) (hb : b < 2^64) {c2 : Int} (C2 : Hid (c2 = (Fm.cls b : Nat))) (e2 : decide (c2 > 2) = false) (hc : c < 2^64) {c3 : Int} (C3 : Hid (c3 = (Fm.cls c : Nat))) (e3 : decide (c3 > 2) = false) (na : Hid (Fm.cls a ≠ 4)) (nb : Hid (Fm.cls b ≠ 4)) (HL : Hid (decide (Fm.num a < Fm.num b) = false)) :
    Calls Try.prog 6 #[.int .i64 n, .int .i64 m, .int .u64 a, .int .u64 b, .int .u64 c] w fun e w' => e = .returned (.bool true) ∧ Below w.heap.size w w' := by
  go_enter Try.func6, Try.ntmps6
  go_wp2_with fail
  refine (first7 _).mono ?_; rintro e w' ⟨rfl, rfl⟩
  go_wp2_with fail
  refine (class_is a _ ha C1).mono ?_; rintro e w' ⟨rfl, rfl⟩
  go_wp2_with fail
  refine (class_is b _ hb C2).mono ?_; rintro e w' ⟨rfl, rfl⟩
  go_wp2_with fail
  refine (class_is c _ hc C3).mono ?_; rintro e w' ⟨rfl, rfl⟩
  go_wp2_with fail
  refine (less_at a b _ ha hb na nb HL).mono ?_; rintro e w' ⟨rfl, rfl⟩
  go_wp2_with fail
  refine (first7 _).mono ?_; rintro e w' ⟨rfl, rfl⟩
  go_wp2_with fail
  go_ret
  exact ⟨rfl, Below.refl _ _⟩
set_option maxRecDepth 1000000 in
set_option maxHeartbeats 4000000 in
theorem whole_o2_5 (n m : Int) (a b c : Nat) (w : World) (r1 : decide (n ≥ -4503599627370496) = true) (r2 : decide (n ≤ 4503599627370496) = false) (ha : a < 2^64) {c1 : Int} (C1 : Hid (c1 = (Fm.cls a : Nat))) (e1 : decide (c1 > 2) = false) (hb : b < 2^64) {c2 : Int} (C2 : Hid (c2 = (Fm.cls b : Nat))) (e2 : decide (c2 > 2) = false) (hc : c < 2^64) {c3 : Int} (C3 : Hid (c3 = (Fm.cls c : Nat))) (e3 : decide (c3 > 2) = false) (na : Hid (Fm.cls a ≠ 4)) (nb : Hid (Fm.cls b ≠ 4)) (HL : Hid (decide (Fm.num a < Fm.num b) = true)) {x y : Nat} (hx : x < 2^64) (hy : y < 2^64) (X : Hid (Fm.add b c = x)) (Y : Hid (Fm.add a c = y)) (X' : Hid (Fm.add c b = x)) (Y' : Hid (Fm.add c a = y)) (nx : Hid (Fm.cls x ≠ 4)) (ny : Hid (Fm.cls y ≠ 4)) (HM : Hid (decide (Fm.num x < Fm.num y) = false)) :
    Calls Try.prog 6 #[.int .i64 n, .int .i64 m, .int .u64 a, .int .u64 b, .int .u64 c] w fun e w' => e = .returned (.bool true) ∧ Below w.heap.size w w' := by
  go_enter Try.func6, Try.ntmps6
  go_wp2_with fail
  refine (first7 _).mono ?_; rintro e w' ⟨rfl, rfl⟩
  go_wp2_with fail
  refine (class_is a _ ha C1).mono ?_; rintro e w' ⟨rfl, rfl⟩
  go_wp2_with fail
  refine (class_is b _ hb C2).mono ?_; rintro e w' ⟨rfl, rfl⟩
  go_wp2_with fail
  refine (class_is c _ hc C3).mono ?_; rintro e w' ⟨rfl, rfl⟩
  go_wp2_with fail
  refine (less_at a b _ ha hb na nb HL).mono ?_; rintro e w' ⟨rfl, rfl⟩
  go_wp2_with fail
  refine (first7 _).mono ?_; rintro e w' ⟨rfl, rfl⟩
  go_wp2_with fail
  refine (add_at b c x _ hb hc X).mono ?_; rintro e w' ⟨rfl, rfl⟩
  go_wp2_with fail
  refine (add_at a c y _ ha hc Y).mono ?_; rintro e w' ⟨rfl, rfl⟩
  go_wp2_with fail
  refine (less_at x y _ hx hy nx ny HM).mono ?_; rintro e w' ⟨rfl, rfl⟩
  go_wp2_with fail
  refine (add_at c b x _ hc hb X').mono ?_; rintro e w' ⟨rfl, rfl⟩
  go_wp2_with fail
  refine (add_at c a y _ hc ha Y').mono ?_; rintro e w' ⟨rfl, rfl⟩
  go_wp2_with fail
  refine (less_at x y _ hx hy nx ny HM).mono ?_; rintro e w' ⟨rfl, rfl⟩
  go_wp2_with fail
  go_ret
  exact ⟨rfl, Below.refl _ _⟩
set_option maxRecDepth 1000000 in
set_option maxHeartbeats 4000000 in
theorem whole_o3_1 (n m : Int) (a b c : Nat) (w : World) (r1 : decide (n ≥ -4503599627370496) = true) (r2 : decide (n ≤ 4503599627370496) = true) (r3 : decide (m ≥ -4503599627370496) = false) (ha : a < 2^64) {c1 : Int} (C1 : Hid (c1 = (Fm.cls a : Nat))) (e1 : decide (c1 > 2) = true) :
    Calls Try.prog 6 #[.int .i64 n, .int .i64 m, .int .u64 a, .int .u64 b, .int .u64 c] w fun e w' => e = .returned (.bool true) ∧ Below w.heap.size w w' := by
  go_enter Try.func6, Try.ntmps6
  go_wp2_with fail
  refine (first7 _).mono ?_; rintro e w' ⟨rfl, rfl⟩
  go_wp2_with fail
  refine (class_is a _ ha C1).mono ?_; rintro e w' ⟨rfl, rfl⟩
  go_wp2_with fail
  refine (first7 _).mono ?_; rintro e w' ⟨rfl, rfl⟩
  go_wp2_with fail
  go_ret
  exact ⟨rfl, Below.refl _ _⟩
set_option maxRecDepth 1000000 in
set_option maxHeartbeats 4000000 in
theorem whole_o3_2 (n m : Int) (a b c : Nat) (w : World) (r1 : decide (n ≥ -4503599627370496) = true) (r2 : decide (n ≤ 4503599627370496) = true) (r3 : decide (m ≥ -4503599627370496) = false) (ha : a < 2^64) {c1 : Int} (C1 : Hid (c1 = (Fm.cls a : Nat))) (e1 : decide (c1 > 2) = false) (hb : b < 2^64) {c2 : Int} (C2 : Hid (c2 = (Fm.cls b : Nat))) (e2 : decide (c2 > 2) = true) :
    Calls Try.prog 6 #[.int .i64 n, .int .i64 m, .int .u64 a, .int .u64 b, .int .u64 c] w fun e w' => e = .returned (.bool true) ∧ Below w.heap.size w w' := by
  go_enter Try.func6, Try.ntmps6
  go_wp2_with fail
  refine (first7 _).mono ?_; rintro e w' ⟨rfl, rfl⟩
  go_wp2_with fail
  refine (class_is a _ ha C1).mono ?_; rintro e w' ⟨rfl, rfl⟩
  go_wp2_with fail
  refine (class_is b _ hb C2).mono ?_; rintro e w' ⟨rfl, rfl⟩
  go_wp2_with fail
  refine (first7 _).mono ?_; rintro e w' ⟨rfl, rfl⟩
  go_wp2_with fail
  go_ret
  exact ⟨rfl, Below.refl _ _⟩
set_option maxRecDepth 1000000 in
set_option maxHeartbeats 4000000 in
theorem whole_o3_3 (n m : Int) (a b c : Nat) (w : World) (r1 : decide (n ≥ -4503599627370496) = true) (r2 : decide (n ≤ 4503599627370496) = true) (r3 : decide (m ≥ -4503599627370496) = false) (ha : a < 2^64) {c1 : Int} (C1 : Hid (c1 = (Fm.cls a : Nat))) (e1 : decide (c1 > 2) = false) (hb : b < 2^64) {c2 : Int} (C2 : Hid (c2 = (Fm.cls b : Nat))) (e2 : decide (c2 > 2) = false) (hc : c < 2^64) {c3 : Int} (C3 : Hid (c3 = (Fm.cls c : Nat))) (e3 : decide (c3 > 2) = true) :
    Calls Try.prog 6 #[.int .i64 n, .int .i64 m, .int .u64 a, .int .u64 b, .int .u64 c] w fun e w' => e = .returned (.bool true) ∧ Below w.heap.size w w' := by
  go_enter Try.func6, Try.ntmps6
  go_wp2_with fail
  refine (first7 _).mono ?_; rintro e w' ⟨rfl, rfl⟩
  go_wp2_with fail
  refine (class_is a _ ha C1).mono ?_; rintro e w' ⟨rfl, rfl⟩
  go_wp2_with fail
  refine (class_is b _ hb C2).mono ?_; rintro e w' ⟨rfl, rfl⟩
  go_wp2_with fail
  refine (class_is c _ hc C3).mono ?_; rintro e w' ⟨rfl, rfl⟩
  go_wp2_with fail
  refine (first7 _).mono ?_; rintro e w' ⟨rfl, rfl⟩
  go_wp2_with fail
  go_ret
  exact ⟨rfl, Below.refl _ _⟩
set_option maxRecDepth 1000000 in
set_option maxHeartbeats 4000000 in
theorem whole_o3_4 (n m : Int) (a b c : Nat) (w : World) (r1 : decide (n ≥ -4503599627370496) = true) (r2 : decide (n ≤ 4503599627370496) = true) (r3 : decide (m ≥ -4503599627370496) = false) (ha : a < 2^64) {c1 : Int} (C1 : Hid (c1 = (Fm.cls a : Nat))) (e1 : decide (c1 > 2) = false) (hb : b < 2^64) {c2 : Int} (C2 : Hid (c2 = (Fm.cls b : Nat))) (e2 : decide (c2 > 2) = false) (hc : c < 2^64) {c3 : Int} (C3 : Hid (c3 = (Fm.cls c : Nat))) (e3 : decide (c3 > 2) = false) (na : Hid (Fm.cls a ≠ 4)) (nb : Hid (Fm.cls b ≠ 4)) (HL : Hid (decide (Fm.num a < Fm.num b) = false)) :
    Calls Try.prog 6 #[.int .i64 n, .int .i64 m, .int .u64 a, .int .u64 b, .int .u64 c] w fun e w' => e = .returned (.bool true) ∧ Below w.heap.size w w' := by
  go_enter Try.func6, Try.ntmps6
  go_wp2_with fail
  refine (first7 _).mono ?_; rintro e w' ⟨rfl, rfl⟩
  go_wp2_with fail
  refine (class_is a _ ha C1).mono ?_; rintro e w' ⟨rfl, rfl⟩
  go_wp2_with fail
  refine (class_is b _ hb C2).mono ?_; rintro e w' ⟨rfl, rfl⟩
  go_wp2_with fail
  refine (class_is c _ hc C3).mono ?_; rintro e w' ⟨rfl, rfl⟩
  go_wp2_with fail
  refine (less_at a b _ ha hb na nb HL).mono ?_; rintro e w' ⟨rfl, rfl⟩
  go_wp2_with fail
  refine (first7 _).mono ?_; rintro e w' ⟨rfl, rfl⟩
  go_wp2_with fail
  go_ret
  exact ⟨rfl, Below.refl _ _⟩
set_option maxRecDepth 1000000 in
set_option maxHeartbeats 4000000 in
theorem whole_o3_5 (n m : Int) (a b c : Nat) (w : World) (r1 : decide (n ≥ -4503599627370496) = true) (r2 : decide (n ≤ 4503599627370496) = true) (r3 : decide (m ≥ -4503599627370496) = false) (ha : a < 2^64) {c1 : Int} (C1 : Hid (c1 = (Fm.cls a : Nat))) (e1 : decide (c1 > 2) = false) (hb : b < 2^64) {c2 : Int} (C2 : Hid (c2 = (Fm.cls b : Nat))) (e2 : decide (c2 > 2) = false) (hc : c < 2^64) {c3 : Int} (C3 : Hid (c3 = (Fm.cls c : Nat))) (e3 : decide (c3 > 2) = false) (na : Hid (Fm.cls a ≠ 4)) (nb : Hid (Fm.cls b ≠ 4)) (HL : Hid (decide (Fm.num a < Fm.num b) = true)) {x y : Nat} (hx : x < 2^64) (hy : y < 2^64) (X : Hid (Fm.add b c = x)) (Y : Hid (Fm.add a c = y)) (X' : Hid (Fm.add c b = x)) (Y' : Hid (Fm.add c a = y)) (nx : Hid (Fm.cls x ≠ 4)) (ny : Hid (Fm.cls y ≠ 4)) (HM : Hid (decide (Fm.num x < Fm.num y) = false)) :
    Calls Try.prog 6 #[.int .i64 n, .int .i64 m, .int .u64 a, .int .u64 b, .int .u64 c] w fun e w' => e = .returned (.bool true) ∧ Below w.heap.size w w' := by
  go_enter Try.func6, Try.ntmps6
  go_wp2_with fail
  refine (first7 _).mono ?_; rintro e w' ⟨rfl, rfl⟩
  go_wp2_with fail
  refine (class_is a _ ha C1).mono ?_; rintro e w' ⟨rfl, rfl⟩
  go_wp2_with fail
  refine (class_is b _ hb C2).mono ?_; rintro e w' ⟨rfl, rfl⟩
  go_wp2_with fail
  refine (class_is c _ hc C3).mono ?_; rintro e w' ⟨rfl, rfl⟩
  go_wp2_with fail
  refine (less_at a b _ ha hb na nb HL).mono ?_; rintro e w' ⟨rfl, rfl⟩
  go_wp2_with fail
  refine (first7 _).mono ?_; rintro e w' ⟨rfl, rfl⟩
  go_wp2_with fail
  refine (add_at b c x _ hb hc X).mono ?_; rintro e w' ⟨rfl, rfl⟩
  go_wp2_with fail
  refine (add_at a c y _ ha hc Y).mono ?_; rintro e w' ⟨rfl, rfl⟩
  go_wp2_with fail
  refine (less_at x y _ hx hy nx ny HM).mono ?_; rintro e w' ⟨rfl, rfl⟩
  go_wp2_with fail
  refine (add_at c b x _ hc hb X').mono ?_; rintro e w' ⟨rfl, rfl⟩
  go_wp2_with fail
  refine (add_at c a y _ hc ha Y').mono ?_; rintro e w' ⟨rfl, rfl⟩
  go_wp2_with fail
  refine (less_at x y _ hx hy nx ny HM).mono ?_; rintro e w' ⟨rfl, rfl⟩
  go_wp2_with fail
  go_ret
  exact ⟨rfl, Below.refl _ _⟩
set_option maxRecDepth 1000000 in
set_option maxHeartbeats 4000000 in
theorem whole_o4_1 (n m : Int) (a b c : Nat) (w : World) (r1 : decide (n ≥ -4503599627370496) = true) (r2 : decide (n ≤ 4503599627370496) = true) (r3 : decide (m ≥ -4503599627370496) = true) (r4 : decide (m ≤ 4503599627370496) = false) (ha : a < 2^64) {c1 : Int} (C1 : Hid (c1 = (Fm.cls a : Nat))) (e1 : decide (c1 > 2) = true) :
    Calls Try.prog 6 #[.int .i64 n, .int .i64 m, .int .u64 a, .int .u64 b, .int .u64 c] w fun e w' => e = .returned (.bool true) ∧ Below w.heap.size w w' := by
  go_enter Try.func6, Try.ntmps6
  go_wp2_with fail
  refine (first7 _).mono ?_; rintro e w' ⟨rfl, rfl⟩
  go_wp2_with fail
  refine (class_is a _ ha C1).mono ?_; rintro e w' ⟨rfl, rfl⟩
  go_wp2_with fail
  refine (first7 _).mono ?_; rintro e w' ⟨rfl, rfl⟩
  go_wp2_with fail
  go_ret
  exact ⟨rfl, Below.refl _ _⟩
set_option maxRecDepth 1000000 in
set_option maxHeartbeats 4000000 in
theorem whole_o4_2 (n m : Int) (a b c : Nat) (w : World) (r1 : decide (n ≥ -4503599627370496) = true) (r2 : decide (n ≤ 4503599627370496) = true) (r3 : decide (m ≥ -4503599627370496) = true) (r4 : decide (m ≤ 4503599627370496) = false) (ha : a < 2^64) {c1 : Int} (C1 : Hid (c1 = (Fm.cls a : Nat))) (e1 : decide (c1 > 2) = false) (hb : b < 2^64) {c2 : Int} (C2 : Hid (c2 = (Fm.cls b : Nat))) (e2 : decide (c2 > 2) = true) :
    Calls Try.prog 6 #[.int .i64 n, .int .i64 m, .int .u64 a, .int .u64 b, .int .u64 c] w fun e w' => e = .returned (.bool true) ∧ Below w.heap.size w w' := by
  go_enter Try.func6, Try.ntmps6
  go_wp2_with fail
  refine (first7 _).mono ?_; rintro e w' ⟨rfl, rfl⟩
  go_wp2_with fail
  refine (class_is a _ ha C1).mono ?_; rintro e w' ⟨rfl, rfl⟩
  go_wp2_with fail
  refine (class_is b _ hb C2).mono ?_; rintro e w' ⟨rfl, rfl⟩
  go_wp2_with fail
  refine (first7 _).mono ?_; rintro e w' ⟨rfl, rfl⟩
  go_wp2_with fail
  go_ret
  exact ⟨rfl, Below.refl _ _⟩
set_option maxRecDepth 1000000 in
set_option maxHeartbeats 4000000 in
theorem whole_o4_3 (n m : Int) (a b c : Nat) (w : World) (r1 : decide (n ≥ -4503599627370496) = true) (r2 : decide (n ≤ 4503599627370496) = true) (r3 : decide (m ≥ -4503599627370496) = true) (r4 : decide (m ≤ 4503599627370496) = false) (ha : a < 2^64) {c1 : Int} (C1 : Hid (c1 = (Fm.cls a : Nat))) (e1 : decide (c1 > 2) = false) (hb : b < 2^64) {c2 : Int} (C2 : Hid (c2 = (Fm.cls b : Nat))) (e2 : decide (c2 > 2) = false) (hc : c < 2^64) {c3 : Int} (C3 : Hid (c3 = (Fm.cls c : Nat))) (e3 : decide (c3 > 2) = true) :
    Calls Try.prog 6 #[.int .i64 n, .int .i64 m, .int .u64 a, .int .u64 b, .int .u64 c] w fun e w' => e = .returned (.bool true) ∧ Below w.heap.size w w' := by
  go_enter Try.func6, Try.ntmps6
  go_wp2_with fail
  refine (first7 _).mono ?_; rintro e w' ⟨rfl, rfl⟩
  go_wp2_with fail
  refine (class_is a _ ha C1).mono ?_; rintro e w' ⟨rfl, rfl⟩
  go_wp2_with fail
  refine (class_is b _ hb C2).mono ?_; rintro e w' ⟨rfl, rfl⟩
  go_wp2_with fail
  refine (class_is c _ hc C3).mono ?_; rintro e w' ⟨rfl, rfl⟩
  go_wp2_with fail
  refine (first7 _).mono ?_; rintro e w' ⟨rfl, rfl⟩
  go_wp2_with fail
  go_ret
  exact ⟨rfl, Below.refl _ _⟩
set_option maxRecDepth 1000000 in
set_option maxHeartbeats 4000000 in
theorem whole_o4_4 (n m : Int) (a b c : Nat) (w : World) (r1 : decide (n ≥ -4503599627370496) = true) (r2 : decide (n ≤ 4503599627370496) = true) (r3 : decide (m ≥ -4503599627370496) = true) (r4 : decide (m ≤ 4503599627370496) = false) (ha : a < 2^64) {c1 : Int} (C1 : Hid (c1 = (Fm.cls a : Nat))) (e1 : decide (c1 > 2) = false) (hb : b < 2^64) {c2 : Int} (C2 : Hid (c2 = (Fm.cls b : Nat))) (e2 : decide (c2 > 2) = false) (hc : c < 2^64) {c3 : Int} (C3 : Hid (c3 = (Fm.cls c : Nat))) (e3 : decide (c3 > 2) = false) (na : Hid (Fm.cls a ≠ 4)) (nb : Hid (Fm.cls b ≠ 4)) (HL : Hid (decide (Fm.num a < Fm.num b) = false)) :
    Calls Try.prog 6 #[.int .i64 n, .int .i64 m, .int .u64 a, .int .u64 b, .int .u64 c] w fun e w' => e = .returned (.bool true) ∧ Below w.heap.size w w' := by
  go_enter Try.func6, Try.ntmps6
  go_wp2_with fail
  refine (first7 _).mono ?_; rintro e w' ⟨rfl, rfl⟩
  go_wp2_with fail
  refine (class_is a _ ha C1).mono ?_; rintro e w' ⟨rfl, rfl⟩
  go_wp2_with fail
  refine (class_is b _ hb C2).mono ?_; rintro e w' ⟨rfl, rfl⟩
  go_wp2_with fail
  refine (class_is c _ hc C3).mono ?_; rintro e w' ⟨rfl, rfl⟩
  go_wp2_with fail
  refine (less_at a b _ ha hb na nb HL).mono ?_; rintro e w' ⟨rfl, rfl⟩
  go_wp2_with fail
  refine (first7 _).mono ?_; rintro e w' ⟨rfl, rfl⟩
  go_wp2_with fail
  go_ret
  exact ⟨rfl, Below.refl _ _⟩
set_option maxRecDepth 1000000 in
set_option maxHeartbeats 4000000 in
theorem whole_o4_5 (n m : Int) (a b c : Nat) (w : World) (r1 : decide (n ≥ -4503599627370496) = true) (r2 : decide (n ≤ 4503599627370496) = true) (r3 : decide (m ≥ -4503599627370496) = true) (r4 : decide (m ≤ 4503599627370496) = false) (ha : a < 2^64) {c1 : Int} (C1 : Hid (c1 = (Fm.cls a : Nat))) (e1 : decide (c1 > 2) = false) (hb : b < 2^64) {c2 : Int} (C2 : Hid (c2 = (Fm.cls b : Nat))) (e2 : decide (c2 > 2) = false) (hc : c < 2^64) {c3 : Int} (C3 : Hid (c3 = (Fm.cls c : Nat))) (e3 : decide (c3 > 2) = false) (na : Hid (Fm.cls a ≠ 4)) (nb : Hid (Fm.cls b ≠ 4)) (HL : Hid (decide (Fm.num a < Fm.num b) = true)) {x y : Nat} (hx : x < 2^64) (hy : y < 2^64) (X : Hid (Fm.add b c = x)) (Y : Hid (Fm.add a c = y)) (X' : Hid (Fm.add c b = x)) (Y' : Hid (Fm.add c a = y)) (nx : Hid (Fm.cls x ≠ 4)) (ny : Hid (Fm.cls y ≠ 4)) (HM : Hid (decide (Fm.num x < Fm.num y) = false)) :
    Calls Try.prog 6 #[.int .i64 n, .int .i64 m, .int .u64 a, .int .u64 b, .int .u64 c] w fun e w' => e = .returned (.bool true) ∧ Below w.heap.size w w' := by
  go_enter Try.func6, Try.ntmps6
  go_wp2_with fail
  refine (first7 _).mono ?_; rintro e w' ⟨rfl, rfl⟩
  go_wp2_with fail
  refine (class_is a _ ha C1).mono ?_; rintro e w' ⟨rfl, rfl⟩
  go_wp2_with fail
  refine (class_is b _ hb C2).mono ?_; rintro e w' ⟨rfl, rfl⟩
  go_wp2_with fail
  refine (class_is c _ hc C3).mono ?_; rintro e w' ⟨rfl, rfl⟩
  go_wp2_with fail
  refine (less_at a b _ ha hb na nb HL).mono ?_; rintro e w' ⟨rfl, rfl⟩
  go_wp2_with fail
  refine (first7 _).mono ?_; rintro e w' ⟨rfl, rfl⟩
  go_wp2_with fail
  refine (add_at b c x _ hb hc X).mono ?_; rintro e w' ⟨rfl, rfl⟩
  go_wp2_with fail
  refine (add_at a c y _ ha hc Y).mono ?_; rintro e w' ⟨rfl, rfl⟩
  go_wp2_with fail
  refine (less_at x y _ hx hy nx ny HM).mono ?_; rintro e w' ⟨rfl, rfl⟩
  go_wp2_with fail
  refine (add_at c b x _ hc hb X').mono ?_; rintro e w' ⟨rfl, rfl⟩
  go_wp2_with fail
  refine (add_at c a y _ hc ha Y').mono ?_; rintro e w' ⟨rfl, rfl⟩
  go_wp2_with fail
  refine (less_at x y _ hx hy nx ny HM).mono ?_; rintro e w' ⟨rfl, rfl⟩
  go_wp2_with fail
  go_ret
  exact ⟨rfl, Below.refl _ _⟩
set_option maxRecDepth 1000000 in
set_option maxHeartbeats 4000000 in
theorem whole_in_1 (n m : Int) (a b c : Nat) (w : World) (r1 : -4503599627370496 ≤ n) (r2 : n ≤ 4503599627370496) (r3 : -4503599627370496 ≤ m) (r4 : m ≤ 4503599627370496) {p q r : Nat} (hp : p < 2^64) (hq : q < 2^64) (P : Hid (fi n = p)) (Q : Hid (fi m = q)) (R : Hid (fi (n + m) = r)) (S : Hid (Fm.add p q = r)) (ha : a < 2^64) {c1 : Int} (C1 : Hid (c1 = (Fm.cls a : Nat))) (e1 : decide (c1 > 2) = true) :
    Calls Try.prog 6 #[.int .i64 n, .int .i64 m, .int .u64 a, .int .u64 b, .int .u64 c] w fun e w' => e = .returned (.bool true) ∧ Below w.heap.size w w' := by
  go_enter Try.func6, Try.ntmps6
  go_wp2_with fail
  refine (first7 _).mono ?_; rintro e w' ⟨rfl, rfl⟩
  go_wp2_with fail
  refine (from_at n p _ (by omega) P).mono ?_; rintro e w1 ⟨rfl, hb⟩
  have B1 := Lib.hid hb
  clear hb
  go_wp2_with fail
  refine (from_at m q _ (by omega) Q).mono ?_; rintro e w2 ⟨rfl, hb⟩
  have B2 := Lib.hid (bstep B1.out hb)
  clear hb
  go_wp2_with fail
  refine (add_at p q r _ hp hq S).mono ?_; rintro e w' ⟨rfl, rfl⟩
  go_wp2_with fail
  refine (from_at (n + m) r _ (by omega) R).mono ?_; rintro e w3 ⟨rfl, hb⟩
  have B3 := Lib.hid (bstep B2.out hb)
  clear hb
  go_wp2_with fail
  refine (class_is a _ ha C1).mono ?_; rintro e w' ⟨rfl, rfl⟩
  go_wp2_with fail
  refine (first7 _).mono ?_; rintro e w' ⟨rfl, rfl⟩
  go_wp2_with fail
  go_ret
  exact ⟨rfl, B3.out⟩
set_option maxRecDepth 1000000 in
set_option maxHeartbeats 4000000 in
theorem whole_in_2 (n m : Int) (a b c : Nat) (w : World) (r1 : -4503599627370496 ≤ n) (r2 : n ≤ 4503599627370496) (r3 : -4503599627370496 ≤ m) (r4 : m ≤ 4503599627370496) {p q r : Nat} (hp : p < 2^64) (hq : q < 2^64) (P : Hid (fi n = p)) (Q : Hid (fi m = q)) (R : Hid (fi (n + m) = r)) (S : Hid (Fm.add p q = r)) (ha : a < 2^64) {c1 : Int} (C1 : Hid (c1 = (Fm.cls a : Nat))) (e1 : decide (c1 > 2) = false) (hb : b < 2^64) {c2 : Int} (C2 : Hid (c2 = (Fm.cls b : Nat))) (e2 : decide (c2 > 2) = true) :
    Calls Try.prog 6 #[.int .i64 n, .int .i64 m, .int .u64 a, .int .u64 b, .int .u64 c] w fun e w' => e = .returned (.bool true) ∧ Below w.heap.size w w' := by
  go_enter Try.func6, Try.ntmps6
  go_wp2_with fail
  refine (first7 _).mono ?_; rintro e w' ⟨rfl, rfl⟩
  go_wp2_with fail
  refine (from_at n p _ (by omega) P).mono ?_; rintro e w1 ⟨rfl, hb⟩
  have B1 := Lib.hid hb
  clear hb
  go_wp2_with fail
  refine (from_at m q _ (by omega) Q).mono ?_; rintro e w2 ⟨rfl, hb⟩
  have B2 := Lib.hid (bstep B1.out hb)
  clear hb
  go_wp2_with fail
  refine (add_at p q r _ hp hq S).mono ?_; rintro e w' ⟨rfl, rfl⟩
  go_wp2_with fail
  refine (from_at (n + m) r _ (by omega) R).mono ?_; rintro e w3 ⟨rfl, hb⟩
  have B3 := Lib.hid (bstep B2.out hb)
  clear hb
  go_wp2_with fail
  refine (class_is a _ ha C1).mono ?_; rintro e w' ⟨rfl, rfl⟩
  go_wp2_with fail
  refine (class_is b _ hb C2).mono ?_; rintro e w' ⟨rfl, rfl⟩
  go_wp2_with fail
  refine (first7 _).mono ?_; rintro e w' ⟨rfl, rfl⟩
  go_wp2_with fail
  go_ret
  exact ⟨rfl, B3.out⟩
set_option maxRecDepth 1000000 in
set_option maxHeartbeats 4000000 in
theorem whole_in_3 (n m : Int) (a b c : Nat) (w : World) (r1 : -4503599627370496 ≤ n) (r2 : n ≤ 4503599627370496) (r3 : -4503599627370496 ≤ m) (r4 : m ≤ 4503599627370496) {p q r : Nat} (hp : p < 2^64) (hq : q < 2^64) (P : Hid (fi n = p)) (Q : Hid (fi m = q)) (R : Hid (fi (n + m) = r)) (S : Hid (Fm.add p q = r)) (ha : a < 2^64) {c1 : Int} (C1 : Hid (c1 = (Fm.cls a : Nat))) (e1 : decide (c1 > 2) = false) (hb : b < 2^64) {c2 : Int} (C2 : Hid (c2 = (Fm.cls b : Nat))) (e2 : decide (c2 > 2) = false) (hc : c < 2^64) {c3 : Int} (C3 : Hid (c3 = (Fm.cls c : Nat))) (e3 : decide (c3 > 2) = true) :
    Calls Try.prog 6 #[.int .i64 n, .int .i64 m, .int .u64 a, .int .u64 b, .int .u64 c] w fun e w' => e = .returned (.bool true) ∧ Below w.heap.size w w' := by
  go_enter Try.func6, Try.ntmps6
  go_wp2_with fail
  refine (first7 _).mono ?_; rintro e w' ⟨rfl, rfl⟩
  go_wp2_with fail
  refine (from_at n p _ (by omega) P).mono ?_; rintro e w1 ⟨rfl, hb⟩
  have B1 := Lib.hid hb
  clear hb
  go_wp2_with fail
  refine (from_at m q _ (by omega) Q).mono ?_; rintro e w2 ⟨rfl, hb⟩
  have B2 := Lib.hid (bstep B1.out hb)
  clear hb
  go_wp2_with fail
  refine (add_at p q r _ hp hq S).mono ?_; rintro e w' ⟨rfl, rfl⟩
  go_wp2_with fail
  refine (from_at (n + m) r _ (by omega) R).mono ?_; rintro e w3 ⟨rfl, hb⟩
  have B3 := Lib.hid (bstep B2.out hb)
  clear hb
  go_wp2_with fail
  refine (class_is a _ ha C1).mono ?_; rintro e w' ⟨rfl, rfl⟩
  go_wp2_with fail
  refine (class_is b _ hb C2).mono ?_; rintro e w' ⟨rfl, rfl⟩
  go_wp2_with fail
  refine (class_is c _ hc C3).mono ?_; rintro e w' ⟨rfl, rfl⟩
  go_wp2_with fail
  refine (first7 _).mono ?_; rintro e w' ⟨rfl, rfl⟩
  go_wp2_with fail
  go_ret
  exact ⟨rfl, B3.out⟩
set_option maxRecDepth 1000000 in
set_option maxHeartbeats 4000000 in
theorem whole_in_4 (n m : Int) (a b c : Nat) (w : World) (r1 : -4503599627370496 ≤ n) (r2 : n ≤ 4503599627370496) (r3 : -4503599627370496 ≤ m) (r4 : m ≤ 4503599627370496) {p q r : Nat} (hp : p < 2^64) (hq : q < 2^64) (P : Hid (fi n = p)) (Q : Hid (fi m = q)) (R : Hid (fi (n + m) = r)) (S : Hid (Fm.add p q = r)) (ha : a < 2^64) {c1 : Int} (C1 : Hid (c1 = (Fm.cls a : Nat))) (e1 : decide (c1 > 2) = false) (hb : b < 2^64) {c2 : Int} (C2 : Hid (c2 = (Fm.cls b : Nat))) (e2 : decide (c2 > 2) = false) (hc : c < 2^64) {c3 : Int} (C3 : Hid (c3 = (Fm.cls c : Nat))) (e3 : decide (c3 > 2) = false) (na : Hid (Fm.cls a ≠ 4)) (nb : Hid (Fm.cls b ≠ 4)) (HL : Hid (decide (Fm.num a < Fm.num b) = false)) :
    Calls Try.prog 6 #[.int .i64 n, .int .i64 m, .int .u64 a, .int .u64 b, .int .u64 c] w fun e w' => e = .returned (.bool true) ∧ Below w.heap.size w w' := by
  go_enter Try.func6, Try.ntmps6
  go_wp2_with fail
  refine (first7 _).mono ?_; rintro e w' ⟨rfl, rfl⟩
  go_wp2_with fail
  refine (from_at n p _ (by omega) P).mono ?_; rintro e w1 ⟨rfl, hb⟩
  have B1 := Lib.hid hb
  clear hb
  go_wp2_with fail
  refine (from_at m q _ (by omega) Q).mono ?_; rintro e w2 ⟨rfl, hb⟩
  have B2 := Lib.hid (bstep B1.out hb)
  clear hb
  go_wp2_with fail
  refine (add_at p q r _ hp hq S).mono ?_; rintro e w' ⟨rfl, rfl⟩
  go_wp2_with fail
  refine (from_at (n + m) r _ (by omega) R).mono ?_; rintro e w3 ⟨rfl, hb⟩
  have B3 := Lib.hid (bstep B2.out hb)
  clear hb
  go_wp2_with fail
  refine (class_is a _ ha C1).mono ?_; rintro e w' ⟨rfl, rfl⟩
  go_wp2_with fail
  refine (class_is b _ hb C2).mono ?_; rintro e w' ⟨rfl, rfl⟩
  go_wp2_with fail
  refine (class_is c _ hc C3).mono ?_; rintro e w' ⟨rfl, rfl⟩
  go_wp2_with fail
  refine (less_at a b _ ha hb na nb HL).mono ?_; rintro e w' ⟨rfl, rfl⟩
  go_wp2_with fail
  refine (first7 _).mono ?_; rintro e w' ⟨rfl, rfl⟩
  go_wp2_with fail
  go_ret
  exact ⟨rfl, B3.out⟩
set_option maxRecDepth 1000000 in
set_option maxHeartbeats 4000000 in
theorem whole_in_5 (n m : Int) (a b c : Nat) (w : World) (r1 : -4503599627370496 ≤ n) (r2 : n ≤ 4503599627370496) (r3 : -4503599627370496 ≤ m) (r4 : m ≤ 4503599627370496) {p q r : Nat} (hp : p < 2^64) (hq : q < 2^64) (P : Hid (fi n = p)) (Q : Hid (fi m = q)) (R : Hid (fi (n + m) = r)) (S : Hid (Fm.add p q = r)) (ha : a < 2^64) {c1 : Int} (C1 : Hid (c1 = (Fm.cls a : Nat))) (e1 : decide (c1 > 2) = false) (hb : b < 2^64) {c2 : Int} (C2 : Hid (c2 = (Fm.cls b : Nat))) (e2 : decide (c2 > 2) = false) (hc : c < 2^64) {c3 : Int} (C3 : Hid (c3 = (Fm.cls c : Nat))) (e3 : decide (c3 > 2) = false) (na : Hid (Fm.cls a ≠ 4)) (nb : Hid (Fm.cls b ≠ 4)) (HL : Hid (decide (Fm.num a < Fm.num b) = true)) {x y : Nat} (hx : x < 2^64) (hy : y < 2^64) (X : Hid (Fm.add b c = x)) (Y : Hid (Fm.add a c = y)) (X' : Hid (Fm.add c b = x)) (Y' : Hid (Fm.add c a = y)) (nx : Hid (Fm.cls x ≠ 4)) (ny : Hid (Fm.cls y ≠ 4)) (HM : Hid (decide (Fm.num x < Fm.num y) = false)) :
    Calls Try.prog 6 #[.int .i64 n, .int .i64 m, .int .u64 a, .int .u64 b, .int .u64 c] w fun e w' => e = .returned (.bool true) ∧ Below w.heap.size w w' := by
  go_enter Try.func6, Try.ntmps6
  go_wp2_with fail
  refine (first7 _).mono ?_; rintro e w' ⟨rfl, rfl⟩
  go_wp2_with fail
  refine (from_at n p _ (by omega) P).mono ?_; rintro e w1 ⟨rfl, hb⟩
  have B1 := Lib.hid hb
  clear hb
  go_wp2_with fail
  refine (from_at m q _ (by omega) Q).mono ?_; rintro e w2 ⟨rfl, hb⟩
  have B2 := Lib.hid (bstep B1.out hb)
  clear hb
  go_wp2_with fail
  refine (add_at p q r _ hp hq S).mono ?_; rintro e w' ⟨rfl, rfl⟩
  go_wp2_with fail
  refine (from_at (n + m) r _ (by omega) R).mono ?_; rintro e w3 ⟨rfl, hb⟩
  have B3 := Lib.hid (bstep B2.out hb)
  clear hb
  go_wp2_with fail
  refine (class_is a _ ha C1).mono ?_; rintro e w' ⟨rfl, rfl⟩
  go_wp2_with fail
  refine (class_is b _ hb C2).mono ?_; rintro e w' ⟨rfl, rfl⟩
  go_wp2_with fail
  refine (class_is c _ hc C3).mono ?_; rintro e w' ⟨rfl, rfl⟩
  go_wp2_with fail
  refine (less_at a b _ ha hb na nb HL).mono ?_; rintro e w' ⟨rfl, rfl⟩
  go_wp2_with fail
  refine (first7 _).mono ?_; rintro e w' ⟨rfl, rfl⟩
  go_wp2_with fail
  refine (add_at b c x _ hb hc X).mono ?_; rintro e w' ⟨rfl, rfl⟩
  go_wp2_with fail
  refine (add_at a c y _ ha hc Y).mono ?_; rintro e w' ⟨rfl, rfl⟩
  go_wp2_with fail
  refine (less_at x y _ hx hy nx ny HM).mono ?_; rintro e w' ⟨rfl, rfl⟩
  go_wp2_with fail
  refine (add_at c b x _ hc hb X').mono ?_; rintro e w' ⟨rfl, rfl⟩
  go_wp2_with fail
  refine (add_at c a y _ hc ha Y').mono ?_; rintro e w' ⟨rfl, rfl⟩
  go_wp2_with fail
  refine (less_at x y _ hx hy nx ny HM).mono ?_; rintro e w' ⟨rfl, rfl⟩
  go_wp2_with fail
  go_ret
  exact ⟨rfl, B3.out⟩

theorem whole_any (n m : Int) (a b c : Nat) (w : World) (ha : a < 2^64) (hb : b < 2^64) (hc : c < 2^64) :
    Calls Try.prog 6 #[.int .i64 n, .int .i64 m, .int .u64 a, .int .u64 b, .int .u64 c] w fun e w' => e = .returned (.bool true) ∧ Below w.heap.size w w' := by
  have C1 : Hid (((Fm.cls a : Nat) : Int) = (Fm.cls a : Nat)) := Lib.hid rfl
  have C2 : Hid (((Fm.cls b : Nat) : Int) = (Fm.cls b : Nat)) := Lib.hid rfl
  have C3 : Hid (((Fm.cls c : Nat) : Int) = (Fm.cls c : Nat)) := Lib.hid rfl
  have up : ∀ {x : Nat}, 2 < x → decide (((x : Nat) : Int) > 2) = true := fun h => decide_eq_true (by omega)
  have dn : ∀ {x : Nat}, ¬ 2 < x → decide (((x : Nat) : Int) > 2) = false := fun h => decide_eq_false (by omega)
  have fin4 : ∀ {x : Nat}, ¬ 2 < Fm.cls x → Fm.cls x ≠ 4 := fun h h4 => by omega
  have key : 2 < Fm.cls a ∨ (¬ 2 < Fm.cls a ∧ 2 < Fm.cls b) ∨ (¬ 2 < Fm.cls a ∧ ¬ 2 < Fm.cls b ∧ 2 < Fm.cls c) ∨ (¬ 2 < Fm.cls a ∧ ¬ 2 < Fm.cls b ∧ ¬ 2 < Fm.cls c) := by omega
  have last : ¬ 2 < Fm.cls a → ¬ 2 < Fm.cls b → ¬ 2 < Fm.cls c → Fm.num a < Fm.num b → ∃ x y, x < 2^64 ∧ y < 2^64 ∧ Hid (Fm.add b c = x) ∧ Hid (Fm.add a c = y) ∧ Hid (Fm.add c b = x) ∧ Hid (Fm.add c a = y) ∧ Hid (Fm.cls x ≠ 4) ∧ Hid (Fm.cls y ≠ 4) ∧ Hid (decide (Fm.num x < Fm.num y) = false) := fun h1 h2 h3 hl => by
    have fa := Fm.cls_fin.1 (Nat.not_lt.1 h1)
    have fb := Fm.cls_fin.1 (Nat.not_lt.1 h2)
    have fc := Fm.cls_fin.1 (Nat.not_lt.1 h3)
    refine ⟨_, _, Fm.add_lt hb hc, Fm.add_lt ha hc, Lib.hid rfl, Lib.hid rfl, Lib.hid (Fm.add_comm' (fin4 h3) (fin4 h2)), Lib.hid (Fm.add_comm' (fin4 h3) (fin4 h1)), Lib.hid ?_, Lib.hid ?_, Lib.hid ?_⟩
    · rw [Fm.add_fin (Nat.not_lt.1 h2) (Nat.not_lt.1 h3)]; exact Fm.cls_of_fin
    · rw [Fm.add_fin (Nat.not_lt.1 h1) (Nat.not_lt.1 h3)]; exact Fm.cls_of_fin
    · rw [Fm.add_fin (Nat.not_lt.1 h2) (Nat.not_lt.1 h3), Fm.add_fin (Nat.not_lt.1 h1) (Nat.not_lt.1 h3)]
      have := Fm.fin_le ha hb hc (Nat.le_of_lt fa) (Nat.le_of_lt fb) (Nat.le_of_lt fc) (Int.le_of_lt hl)
      exact decide_eq_false (Int.not_lt.2 this)
  by_cases q1 : n ≥ -4503599627370496
  case neg =>
    rcases key with h1 | ⟨h1, h2⟩ | ⟨h1, h2, h3⟩ | ⟨h1, h2, h3⟩
    · exact whole_o1_1 n m a b c w (decide_eq_false q1) ha C1 (up h1)
    · exact whole_o1_2 n m a b c w (decide_eq_false q1) ha C1 (dn h1) hb C2 (up h2)
    · exact whole_o1_3 n m a b c w (decide_eq_false q1) ha C1 (dn h1) hb C2 (dn h2) hc C3 (up h3)
    · by_cases hl : Fm.num a < Fm.num b
      · obtain ⟨x, y, hx, hy, X, Y, X', Y', nx, ny, HM⟩ := last h1 h2 h3 hl
        exact whole_o1_5 n m a b c w (decide_eq_false q1) ha C1 (dn h1) hb C2 (dn h2) hc C3 (dn h3) (Lib.hid (fin4 h1)) (Lib.hid (fin4 h2)) (Lib.hid (decide_eq_true hl)) hx hy X Y X' Y' nx ny HM
      · exact whole_o1_4 n m a b c w (decide_eq_false q1) ha C1 (dn h1) hb C2 (dn h2) hc C3 (dn h3) (Lib.hid (fin4 h1)) (Lib.hid (fin4 h2)) (Lib.hid (decide_eq_false hl))
  by_cases q2 : n ≤ 4503599627370496
  case neg =>
    rcases key with h1 | ⟨h1, h2⟩ | ⟨h1, h2, h3⟩ | ⟨h1, h2, h3⟩
    · exact whole_o2_1 n m a b c w (decide_eq_true q1) (decide_eq_false q2) ha C1 (up h1)
    · exact whole_o2_2 n m a b c w (decide_eq_true q1) (decide_eq_false q2) ha C1 (dn h1) hb C2 (up h2)
    · exact whole_o2_3 n m a b c w (decide_eq_true q1) (decide_eq_false q2) ha C1 (dn h1) hb C2 (dn h2) hc C3 (up h3)
    · by_cases hl : Fm.num a < Fm.num b
      · obtain ⟨x, y, hx, hy, X, Y, X', Y', nx, ny, HM⟩ := last h1 h2 h3 hl
        exact whole_o2_5 n m a b c w (decide_eq_true q1) (decide_eq_false q2) ha C1 (dn h1) hb C2 (dn h2) hc C3 (dn h3) (Lib.hid (fin4 h1)) (Lib.hid (fin4 h2)) (Lib.hid (decide_eq_true hl)) hx hy X Y X' Y' nx ny HM
      · exact whole_o2_4 n m a b c w (decide_eq_true q1) (decide_eq_false q2) ha C1 (dn h1) hb C2 (dn h2) hc C3 (dn h3) (Lib.hid (fin4 h1)) (Lib.hid (fin4 h2)) (Lib.hid (decide_eq_false hl))
  by_cases q3 : m ≥ -4503599627370496
  case neg =>
    rcases key with h1 | ⟨h1, h2⟩ | ⟨h1, h2, h3⟩ | ⟨h1, h2, h3⟩
    · exact whole_o3_1 n m a b c w (decide_eq_true q1) (decide_eq_true q2) (decide_eq_false q3) ha C1 (up h1)
    · exact whole_o3_2 n m a b c w (decide_eq_true q1) (decide_eq_true q2) (decide_eq_false q3) ha C1 (dn h1) hb C2 (up h2)
    · exact whole_o3_3 n m a b c w (decide_eq_true q1) (decide_eq_true q2) (decide_eq_false q3) ha C1 (dn h1) hb C2 (dn h2) hc C3 (up h3)
    · by_cases hl : Fm.num a < Fm.num b
      · obtain ⟨x, y, hx, hy, X, Y, X', Y', nx, ny, HM⟩ := last h1 h2 h3 hl
        exact whole_o3_5 n m a b c w (decide_eq_true q1) (decide_eq_true q2) (decide_eq_false q3) ha C1 (dn h1) hb C2 (dn h2) hc C3 (dn h3) (Lib.hid (fin4 h1)) (Lib.hid (fin4 h2)) (Lib.hid (decide_eq_true hl)) hx hy X Y X' Y' nx ny HM
      · exact whole_o3_4 n m a b c w (decide_eq_true q1) (decide_eq_true q2) (decide_eq_false q3) ha C1 (dn h1) hb C2 (dn h2) hc C3 (dn h3) (Lib.hid (fin4 h1)) (Lib.hid (fin4 h2)) (Lib.hid (decide_eq_false hl))
  by_cases q4 : m ≤ 4503599627370496
  case neg =>
    rcases key with h1 | ⟨h1, h2⟩ | ⟨h1, h2, h3⟩ | ⟨h1, h2, h3⟩
    · exact whole_o4_1 n m a b c w (decide_eq_true q1) (decide_eq_true q2) (decide_eq_true q3) (decide_eq_false q4) ha C1 (up h1)
    · exact whole_o4_2 n m a b c w (decide_eq_true q1) (decide_eq_true q2) (decide_eq_true q3) (decide_eq_false q4) ha C1 (dn h1) hb C2 (up h2)
    · exact whole_o4_3 n m a b c w (decide_eq_true q1) (decide_eq_true q2) (decide_eq_true q3) (decide_eq_false q4) ha C1 (dn h1) hb C2 (dn h2) hc C3 (up h3)
    · by_cases hl : Fm.num a < Fm.num b
      · obtain ⟨x, y, hx, hy, X, Y, X', Y', nx, ny, HM⟩ := last h1 h2 h3 hl
        exact whole_o4_5 n m a b c w (decide_eq_true q1) (decide_eq_true q2) (decide_eq_true q3) (decide_eq_false q4) ha C1 (dn h1) hb C2 (dn h2) hc C3 (dn h3) (Lib.hid (fin4 h1)) (Lib.hid (fin4 h2)) (Lib.hid (decide_eq_true hl)) hx hy X Y X' Y' nx ny HM
      · exact whole_o4_4 n m a b c w (decide_eq_true q1) (decide_eq_true q2) (decide_eq_true q3) (decide_eq_false q4) ha C1 (dn h1) hb C2 (dn h2) hc C3 (dn h3) (Lib.hid (fin4 h1)) (Lib.hid (fin4 h2)) (Lib.hid (decide_eq_false hl))
  rcases key with h1 | ⟨h1, h2⟩ | ⟨h1, h2, h3⟩ | ⟨h1, h2, h3⟩
  · exact whole_in_1 n m a b c w q1 q2 q3 q4 (fi_lt (by omega)) (fi_lt (by omega)) (Lib.hid rfl) (Lib.hid rfl) (Lib.hid rfl) (Lib.hid (add_fi (by omega) (by omega))) ha C1 (up h1)
  · exact whole_in_2 n m a b c w q1 q2 q3 q4 (fi_lt (by omega)) (fi_lt (by omega)) (Lib.hid rfl) (Lib.hid rfl) (Lib.hid rfl) (Lib.hid (add_fi (by omega) (by omega))) ha C1 (dn h1) hb C2 (up h2)
  · exact whole_in_3 n m a b c w q1 q2 q3 q4 (fi_lt (by omega)) (fi_lt (by omega)) (Lib.hid rfl) (Lib.hid rfl) (Lib.hid rfl) (Lib.hid (add_fi (by omega) (by omega))) ha C1 (dn h1) hb C2 (dn h2) hc C3 (up h3)
  · by_cases hl : Fm.num a < Fm.num b
    · obtain ⟨x, y, hx, hy, X, Y, X', Y', nx, ny, HM⟩ := last h1 h2 h3 hl
      exact whole_in_5 n m a b c w q1 q2 q3 q4 (fi_lt (by omega)) (fi_lt (by omega)) (Lib.hid rfl) (Lib.hid rfl) (Lib.hid rfl) (Lib.hid (add_fi (by omega) (by omega))) ha C1 (dn h1) hb C2 (dn h2) hc C3 (dn h3) (Lib.hid (fin4 h1)) (Lib.hid (fin4 h2)) (Lib.hid (decide_eq_true hl)) hx hy X Y X' Y' nx ny HM
    · exact whole_in_4 n m a b c w q1 q2 q3 q4 (fi_lt (by omega)) (fi_lt (by omega)) (Lib.hid rfl) (Lib.hid rfl) (Lib.hid rfl) (Lib.hid (add_fi (by omega) (by omega))) ha C1 (dn h1) hb C2 (dn h2) hc C3 (dn h3) (Lib.hid (fin4 h1)) (Lib.hid (fin4 h2)) (Lib.hid (decide_eq_false hl))
end Go.Proofs.Ytkpljnfakidjeaa
