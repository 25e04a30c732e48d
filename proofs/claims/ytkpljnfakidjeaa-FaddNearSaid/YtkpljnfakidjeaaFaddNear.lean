/-
  hyglaw7.FaddNear: for any two doubles the law returns true.
-/
import Derived.Test.YtkpljnfakidjeaaFaddSum
import Derived.Test.YtkpljnfakidjeaaFaddLess
namespace Go.Proofs.Ytkpljnfakidjeaa
open Go.RowKit

set_option maxRecDepth 1000000 in
set_option maxHeartbeats 4000000 in
theorem near_1 (a b : Nat) (w : World) (ha : a < 2^64) (_hb : b < 2^64) {c1 c2 : Int} (C1 : Hid (c1 = (Fm.cls a : Nat))) (_C2 : Hid (c2 = (Fm.cls b : Nat))) (e1 : (c1 != 2) = true) :
    Calls Try.prog 7 #[.int .u64 a, .int .u64 b] w fun e w' => e = .returned (.bool true) ∧ w = w' := by
  go_enter Try.func7, Try.ntmps7
  go_wp2_with fail
  refine (first7 _).mono ?_; rintro e w' ⟨rfl, rfl⟩
  go_wp2_with fail
  refine (class_is a _ ha C1).mono ?_; rintro e w' ⟨rfl, rfl⟩
  go_wp2_with fail
  refine (first7 _).mono ?_; rintro e w' ⟨rfl, rfl⟩
  go_wp2_with fail
  go_ret
  first | exact ⟨rfl, rfl⟩ | exact ⟨ret_bool (decide_eq_true (by omega)), rfl⟩
set_option maxRecDepth 1000000 in
set_option maxHeartbeats 4000000 in
theorem near_2 (a b : Nat) (w : World) (ha : a < 2^64) (hb : b < 2^64) {c1 c2 : Int} (C1 : Hid (c1 = (Fm.cls a : Nat))) (C2 : Hid (c2 = (Fm.cls b : Nat))) (e1 : (c1 != 2) = false) (e2 : decide (c2 > 2) = true) :
    Calls Try.prog 7 #[.int .u64 a, .int .u64 b] w fun e w' => e = .returned (.bool true) ∧ w = w' := by
  go_enter Try.func7, Try.ntmps7
  go_wp2_with fail
  refine (first7 _).mono ?_; rintro e w' ⟨rfl, rfl⟩
  go_wp2_with fail
  refine (class_is a _ ha C1).mono ?_; rintro e w' ⟨rfl, rfl⟩
  go_wp2_with fail
  refine (class_is b _ hb C2).mono ?_; rintro e w' ⟨rfl, rfl⟩
  go_wp2_with fail
  refine (first7 _).mono ?_; rintro e w' ⟨rfl, rfl⟩
  go_wp2_with fail
  go_ret
  first | exact ⟨rfl, rfl⟩ | exact ⟨ret_bool (decide_eq_true (by omega)), rfl⟩
set_option maxRecDepth 1000000 in
set_option maxHeartbeats 4000000 in
theorem near_3 (a b : Nat) (w : World) (ha : a < 2^64) (hb : b < 2^64) {c1 c2 : Int} (C1 : Hid (c1 = (Fm.cls a : Nat))) (C2 : Hid (c2 = (Fm.cls b : Nat))) (e1 : (c1 != 2) = false) (e2 : decide (c2 > 2) = false) (e3 : ((a : Int) / 9223372036854775808 != (b : Int) / 9223372036854775808) = true) :
    Calls Try.prog 7 #[.int .u64 a, .int .u64 b] w fun e w' => e = .returned (.bool true) ∧ w = w' := by
  go_enter Try.func7, Try.ntmps7
  go_wp2_with fail
  refine (first7 _).mono ?_; rintro e w' ⟨rfl, rfl⟩
  go_wp2_with fail
  refine (class_is a _ ha C1).mono ?_; rintro e w' ⟨rfl, rfl⟩
  go_wp2_with fail
  refine (class_is b _ hb C2).mono ?_; rintro e w' ⟨rfl, rfl⟩
  go_wp2_with fail
  refine (first7 _).mono ?_; rintro e w' ⟨rfl, rfl⟩
  go_wp2_with fail
  go_ret
  first | exact ⟨rfl, rfl⟩ | exact ⟨ret_bool (decide_eq_true (by omega)), rfl⟩
set_option maxRecDepth 1000000 in
set_option maxHeartbeats 4000000 in
theorem near_4 (a b : Nat) (w : World) (ha : a < 2^64) (hb : b < 2^64) {c1 c2 : Int} (C1 : Hid (c1 = (Fm.cls a : Nat))) (C2 : Hid (c2 = (Fm.cls b : Nat))) (e1 : (c1 != 2) = false) (e2 : decide (c2 > 2) = false) (e3 : ((a : Int) / 9223372036854775808 != (b : Int) / 9223372036854775808) = false) {A B : Nat} (hA : bits .and .u64 (a : Int) 9223372036854775807 = (A : Int)) (hB : bits .and .u64 (b : Int) 9223372036854775807 = (B : Int)) (lA : A < 2^64) (lB : B < 2^64) (nA : Hid (Fm.cls A ≠ 4)) (nB : Hid (Fm.cls B ≠ 4)) (HL : Hid (decide (Fm.num A < Fm.num B) = true)) :
    Calls Try.prog 7 #[.int .u64 a, .int .u64 b] w fun e w' => e = .returned (.bool true) ∧ w = w' := by
  go_enter Try.func7, Try.ntmps7
  go_wp2_with fail
  refine (first7 _).mono ?_; rintro e w' ⟨rfl, rfl⟩
  go_wp2_with fail
  refine (class_is a _ ha C1).mono ?_; rintro e w' ⟨rfl, rfl⟩
  go_wp2_with fail
  refine (class_is b _ hb C2).mono ?_; rintro e w' ⟨rfl, rfl⟩
  go_wp2_with fail
  refine (less_at A B _ lA lB nA nB HL).mono ?_; rintro e w' ⟨rfl, rfl⟩
  go_wp2_with fail
  refine (first7 _).mono ?_; rintro e w' ⟨rfl, rfl⟩
  go_wp2_with fail
  go_ret
  first | exact ⟨rfl, rfl⟩ | exact ⟨ret_bool (decide_eq_true (by omega)), rfl⟩
set_option maxRecDepth 1000000 in
set_option maxHeartbeats 4000000 in
theorem near_far' (a b : Nat) (w : World) (ha : a < 2^64) (hb : b < 2^64) {c1 c2 : Int} (C1 : Hid (c1 = (Fm.cls a : Nat))) (C2 : Hid (c2 = (Fm.cls b : Nat))) (e1 : (c1 != 2) = false) (e2 : decide (c2 > 2) = false) (e3 : ((a : Int) / 9223372036854775808 != (b : Int) / 9223372036854775808) = false) {A B : Nat} (hA : bits .and .u64 (a : Int) 9223372036854775807 = (A : Int)) (hB : bits .and .u64 (b : Int) 9223372036854775807 = (B : Int)) (lA : A < 2^64) (lB : B < 2^64) (nA : Hid (Fm.cls A ≠ 4)) (nB : Hid (Fm.cls B ≠ 4)) (HL : Hid (decide (Fm.num A < Fm.num B) = false)) {x : Nat} (HX : Hid (Fm.add a b = x)) {p q : Nat} (hP : bits .and .u64 ((a : Int) / 4503599627370496) 2047 = (p : Int)) (hQ : bits .and .u64 ((b : Int) / 4503599627370496) 2047 = (q : Int)) (lp : p ≤ 2047) (lq : q ≤ 2047) (d1 : decide ((p : Int) - (q : Int) > 54) = true) (ex : ((x : Int) == (a : Int)) = true) :
    Calls Try.prog 7 #[.int .u64 a, .int .u64 b] w fun e w' => e = .returned (.bool true) ∧ w = w' := by
  go_enter Try.func7, Try.ntmps7
  go_wp2_with fail
  refine (first7 _).mono ?_; rintro e w' ⟨rfl, rfl⟩
  go_wp2_with fail
  refine (class_is a _ ha C1).mono ?_; rintro e w' ⟨rfl, rfl⟩
  go_wp2_with fail
  refine (class_is b _ hb C2).mono ?_; rintro e w' ⟨rfl, rfl⟩
  go_wp2_with fail
  refine (less_at A B _ lA lB nA nB HL).mono ?_; rintro e w' ⟨rfl, rfl⟩
  go_wp2_with fail
  refine (add_at a b x _ ha hb HX).mono ?_; rintro e w' ⟨rfl, rfl⟩
  go_wp2_with fail
  refine (first7 _).mono ?_; rintro e w' ⟨rfl, rfl⟩
  go_wp2_with fail
  go_ret
  first | exact ⟨rfl, rfl⟩ | exact ⟨ret_bool (decide_eq_true (by omega)), rfl⟩
set_option maxRecDepth 1000000 in
set_option maxHeartbeats 4000000 in
theorem near_tie' (a b : Nat) (w : World) (ha : a < 2^64) (hb : b < 2^64) {c1 c2 : Int} (C1 : Hid (c1 = (Fm.cls a : Nat))) (C2 : Hid (c2 = (Fm.cls b : Nat))) (e1 : (c1 != 2) = false) (e2 : decide (c2 > 2) = false) (e3 : ((a : Int) / 9223372036854775808 != (b : Int) / 9223372036854775808) = false) {A B : Nat} (hA : bits .and .u64 (a : Int) 9223372036854775807 = (A : Int)) (hB : bits .and .u64 (b : Int) 9223372036854775807 = (B : Int)) (lA : A < 2^64) (lB : B < 2^64) (nA : Hid (Fm.cls A ≠ 4)) (nB : Hid (Fm.cls B ≠ 4)) (HL : Hid (decide (Fm.num A < Fm.num B) = false)) {x : Nat} (HX : Hid (Fm.add a b = x)) {p q : Nat} (hP : bits .and .u64 ((a : Int) / 4503599627370496) 2047 = (p : Int)) (hQ : bits .and .u64 ((b : Int) / 4503599627370496) 2047 = (q : Int)) (lp : p ≤ 2047) (lq : q ≤ 2047) (d1 : decide ((p : Int) - (q : Int) > 54) = false) (d2 : ((p : Int) - (q : Int) == 53) = true) (d3 : 0 < q) (d4 : (bits .and .u64 (b : Int) 4503599627370495 == 0) = true) (d5 : 53 < p) {o : Nat} (hO : bits .and .u64 (a : Int) 1 = (o : Int)) (la : a + o < 2^64) (ex : ((x : Int) == (a : Int) + (o : Int)) = true) :
    Calls Try.prog 7 #[.int .u64 a, .int .u64 b] w fun e w' => e = .returned (.bool true) ∧ w = w' := by
  go_enter Try.func7, Try.ntmps7
  go_wp2_with fail
  refine (first7 _).mono ?_; rintro e w' ⟨rfl, rfl⟩
  go_wp2_with fail
  refine (class_is a _ ha C1).mono ?_; rintro e w' ⟨rfl, rfl⟩
  go_wp2_with fail
  refine (class_is b _ hb C2).mono ?_; rintro e w' ⟨rfl, rfl⟩
  go_wp2_with fail
  refine (less_at A B _ lA lB nA nB HL).mono ?_; rintro e w' ⟨rfl, rfl⟩
  go_wp2_with fail
  refine (add_at a b x _ ha hb HX).mono ?_; rintro e w' ⟨rfl, rfl⟩
  go_wp2_with fail
  refine (first7 _).mono ?_; rintro e w' ⟨rfl, rfl⟩
  go_wp2_with fail
  go_ret
  first | exact ⟨rfl, rfl⟩ | exact ⟨ret_bool (decide_eq_true (by omega)), rfl⟩
set_option maxRecDepth 1000000 in
set_option maxHeartbeats 4000000 in
theorem near_n1 (a b : Nat) (w : World) (ha : a < 2^64) (hb : b < 2^64) {c1 c2 : Int} (C1 : Hid (c1 = (Fm.cls a : Nat))) (C2 : Hid (c2 = (Fm.cls b : Nat))) (e1 : (c1 != 2) = false) (e2 : decide (c2 > 2) = false) (e3 : ((a : Int) / 9223372036854775808 != (b : Int) / 9223372036854775808) = false) {A B : Nat} (hA : bits .and .u64 (a : Int) 9223372036854775807 = (A : Int)) (hB : bits .and .u64 (b : Int) 9223372036854775807 = (B : Int)) (lA : A < 2^64) (lB : B < 2^64) (nA : Hid (Fm.cls A ≠ 4)) (nB : Hid (Fm.cls B ≠ 4)) (HL : Hid (decide (Fm.num A < Fm.num B) = false)) {x : Nat} (HX : Hid (Fm.add a b = x)) {p q : Nat} (hP : bits .and .u64 ((a : Int) / 4503599627370496) 2047 = (p : Int)) (hQ : bits .and .u64 ((b : Int) / 4503599627370496) 2047 = (q : Int)) (lp : p ≤ 2047) (lq : q ≤ 2047) (d1 : decide ((p : Int) - (q : Int) > 54) = false) (d2 : ((p : Int) - (q : Int) == 53) = false) (la : a + 4503599627370496 < 2^64) (g1 : a ≤ x) (g2 : x ≤ a + 4503599627370496) :
    Calls Try.prog 7 #[.int .u64 a, .int .u64 b] w fun e w' => e = .returned (.bool true) ∧ w = w' := by
  go_enter Try.func7, Try.ntmps7
  go_wp2_with fail
  refine (first7 _).mono ?_; rintro e w' ⟨rfl, rfl⟩
  go_wp2_with fail
  refine (class_is a _ ha C1).mono ?_; rintro e w' ⟨rfl, rfl⟩
  go_wp2_with fail
  refine (class_is b _ hb C2).mono ?_; rintro e w' ⟨rfl, rfl⟩
  go_wp2_with fail
  refine (less_at A B _ lA lB nA nB HL).mono ?_; rintro e w' ⟨rfl, rfl⟩
  go_wp2_with fail
  refine (add_at a b x _ ha hb HX).mono ?_; rintro e w' ⟨rfl, rfl⟩
  go_wp2_with fail
  refine (first7 _).mono ?_; rintro e w' ⟨rfl, rfl⟩
  go_wp2_with fail
  go_ret
  first | exact ⟨rfl, rfl⟩ | exact ⟨ret_bool (decide_eq_true (by omega)), rfl⟩
set_option maxRecDepth 1000000 in
set_option maxHeartbeats 4000000 in
theorem near_n2 (a b : Nat) (w : World) (ha : a < 2^64) (hb : b < 2^64) {c1 c2 : Int} (C1 : Hid (c1 = (Fm.cls a : Nat))) (C2 : Hid (c2 = (Fm.cls b : Nat))) (e1 : (c1 != 2) = false) (e2 : decide (c2 > 2) = false) (e3 : ((a : Int) / 9223372036854775808 != (b : Int) / 9223372036854775808) = false) {A B : Nat} (hA : bits .and .u64 (a : Int) 9223372036854775807 = (A : Int)) (hB : bits .and .u64 (b : Int) 9223372036854775807 = (B : Int)) (lA : A < 2^64) (lB : B < 2^64) (nA : Hid (Fm.cls A ≠ 4)) (nB : Hid (Fm.cls B ≠ 4)) (HL : Hid (decide (Fm.num A < Fm.num B) = false)) {x : Nat} (HX : Hid (Fm.add a b = x)) {p q : Nat} (hP : bits .and .u64 ((a : Int) / 4503599627370496) 2047 = (p : Int)) (hQ : bits .and .u64 ((b : Int) / 4503599627370496) 2047 = (q : Int)) (lp : p ≤ 2047) (lq : q ≤ 2047) (d1 : decide ((p : Int) - (q : Int) > 54) = false) (d2 : ((p : Int) - (q : Int) == 53) = true) (d3 : ¬ 0 < q) (la : a + 4503599627370496 < 2^64) (g1 : a ≤ x) (g2 : x ≤ a + 4503599627370496) :
    Calls Try.prog 7 #[.int .u64 a, .int .u64 b] w fun e w' => e = .returned (.bool true) ∧ w = w' := by
  go_enter Try.func7, Try.ntmps7
  go_wp2_with fail
  refine (first7 _).mono ?_; rintro e w' ⟨rfl, rfl⟩
  go_wp2_with fail
  refine (class_is a _ ha C1).mono ?_; rintro e w' ⟨rfl, rfl⟩
  go_wp2_with fail
  refine (class_is b _ hb C2).mono ?_; rintro e w' ⟨rfl, rfl⟩
  go_wp2_with fail
  refine (less_at A B _ lA lB nA nB HL).mono ?_; rintro e w' ⟨rfl, rfl⟩
  go_wp2_with fail
  refine (add_at a b x _ ha hb HX).mono ?_; rintro e w' ⟨rfl, rfl⟩
  go_wp2_with fail
  refine (first7 _).mono ?_; rintro e w' ⟨rfl, rfl⟩
  go_wp2_with fail
  go_ret
  first | exact ⟨rfl, rfl⟩ | exact ⟨ret_bool (decide_eq_true (by omega)), rfl⟩
set_option maxRecDepth 1000000 in
set_option maxHeartbeats 4000000 in
theorem near_n3 (a b : Nat) (w : World) (ha : a < 2^64) (hb : b < 2^64) {c1 c2 : Int} (C1 : Hid (c1 = (Fm.cls a : Nat))) (C2 : Hid (c2 = (Fm.cls b : Nat))) (e1 : (c1 != 2) = false) (e2 : decide (c2 > 2) = false) (e3 : ((a : Int) / 9223372036854775808 != (b : Int) / 9223372036854775808) = false) {A B : Nat} (hA : bits .and .u64 (a : Int) 9223372036854775807 = (A : Int)) (hB : bits .and .u64 (b : Int) 9223372036854775807 = (B : Int)) (lA : A < 2^64) (lB : B < 2^64) (nA : Hid (Fm.cls A ≠ 4)) (nB : Hid (Fm.cls B ≠ 4)) (HL : Hid (decide (Fm.num A < Fm.num B) = false)) {x : Nat} (HX : Hid (Fm.add a b = x)) {p q : Nat} (hP : bits .and .u64 ((a : Int) / 4503599627370496) 2047 = (p : Int)) (hQ : bits .and .u64 ((b : Int) / 4503599627370496) 2047 = (q : Int)) (lp : p ≤ 2047) (lq : q ≤ 2047) (d1 : decide ((p : Int) - (q : Int) > 54) = false) (d2 : ((p : Int) - (q : Int) == 53) = true) (d3 : 0 < q) (d4 : (bits .and .u64 (b : Int) 4503599627370495 == 0) = false) (la : a + 4503599627370496 < 2^64) (g1 : a ≤ x) (g2 : x ≤ a + 4503599627370496) :
    Calls Try.prog 7 #[.int .u64 a, .int .u64 b] w fun e w' => e = .returned (.bool true) ∧ w = w' := by
  go_enter Try.func7, Try.ntmps7
  go_wp2_with fail
  refine (first7 _).mono ?_; rintro e w' ⟨rfl, rfl⟩
  go_wp2_with fail
  refine (class_is a _ ha C1).mono ?_; rintro e w' ⟨rfl, rfl⟩
  go_wp2_with fail
  refine (class_is b _ hb C2).mono ?_; rintro e w' ⟨rfl, rfl⟩
  go_wp2_with fail
  refine (less_at A B _ lA lB nA nB HL).mono ?_; rintro e w' ⟨rfl, rfl⟩
  go_wp2_with fail
  refine (add_at a b x _ ha hb HX).mono ?_; rintro e w' ⟨rfl, rfl⟩
  go_wp2_with fail
  refine (first7 _).mono ?_; rintro e w' ⟨rfl, rfl⟩
  go_wp2_with fail
  go_ret
  first | exact ⟨rfl, rfl⟩ | exact ⟨ret_bool (decide_eq_true (by omega)), rfl⟩

theorem expo (a : Nat) (ha : a < 2^64) : bits .and .u64 ((a : Int) / 4503599627370496) 2047 = ((Fm.sz a / 2^52 : Nat) : Int) := by
  have e : ((a : Int) / 4503599627370496) = ((a / 2^52 : Nat) : Int) := by omega
  rw [e, mask64 (a / 2^52) 11 (by omega) (by decide) (by decide)]
  congr 1
  unfold Fm.sz
  omega
theorem near_any (a b : Nat) (w : World) (ha : a < 2^64) (hb : b < 2^64) :
    Calls Try.prog 7 #[.int .u64 a, .int .u64 b] w fun e w' => e = .returned (.bool true) ∧ w = w' := by
  have yes : ∀ {x k : Nat}, x = k → (((x : Nat) : Int) == ((k : Nat) : Int)) = true := fun h => by rw [h]; simp
  have C1 : Hid (((Fm.cls a : Nat) : Int) = (Fm.cls a : Nat)) := Lib.hid rfl
  have C2 : Hid (((Fm.cls b : Nat) : Int) = (Fm.cls b : Nat)) := Lib.hid rfl
  have hi : Fm.inf = 2047 * 2^52 := rfl
  by_cases n1 : Fm.cls a = 2
  case neg => exact near_1 a b w ha hb C1 C2 (by simp; omega)
  have e1 : (((Fm.cls a : Nat) : Int) != 2) = false := by rw [n1]; rfl
  by_cases n2 : 2 < Fm.cls b
  · exact near_2 a b w ha hb C1 C2 e1 (by simp; omega)
  have e2 : decide (((Fm.cls b : Nat) : Int) > 2) = false := by simp; omega
  have fa : Fm.sz a < Fm.inf := Fm.cls_fin.1 (by omega)
  have fb : Fm.sz b < Fm.inf := Fm.cls_fin.1 (by omega)
  have hna : 2^52 ≤ Fm.sz a := by
    have h1 := @cls_small a
    omega
  have s1 : ((a : Int) / 9223372036854775808) = ((Fm.sg a : Nat) : Int) := by unfold Fm.sg; omega
  have s2 : ((b : Int) / 9223372036854775808) = ((Fm.sg b : Nat) : Int) := by unfold Fm.sg; omega
  by_cases n3 : Fm.sg a = Fm.sg b
  case neg => exact near_3 a b w ha hb C1 C2 e1 e2 (by rw [s1, s2]; simp; omega)
  have e3 : ((a : Int) / 9223372036854775808 != (b : Int) / 9223372036854775808) = false := by rw [s1, s2, n3]; simp
  have hA := mask64 a 63 ha (by decide) (M := 9223372036854775807) (by decide)
  have hB := mask64 b 63 hb (by decide) (M := 9223372036854775807) (by decide)
  have zz : ∀ x : Nat, Fm.sz (x % 2^63) = x % 2^63 := fun x => by unfold Fm.sz; omega
  have nn : ∀ x : Nat, Fm.sz x < Fm.inf → Fm.cls (x % 2^63) ≠ 4 := fun x h h4 => by
    rw [Fm.cls_nan, zz] at h4
    unfold Fm.sz at h
    omega
  have mm : ∀ x : Nat, Fm.num (x % 2^63) = ((Fm.sz x : Nat) : Int) := fun x => by
    have : Fm.sg (x % 2^63) = 0 := by unfold Fm.sg; omega
    rw [Fm.num_of (by omega), zz]
    rfl
  by_cases n4 : Fm.sz a < Fm.sz b
  · exact near_4 a b w ha hb C1 C2 e1 e2 e3 hA hB (by omega) (by omega) (Lib.hid (nn a fa)) (Lib.hid (nn b fb)) (Lib.hid (by rw [mm, mm]; simp; omega))
  have HL : Hid (decide (Fm.num (a % 2^63) < Fm.num (b % 2^63)) = false) := Lib.hid (by rw [mm, mm]; simp; omega)
  have HX : Fm.add a b = Fm.sg a * 2^63 + Fm.rnd (Fm.dec (Fm.sz a) + Fm.dec (Fm.sz b)) := by
    rw [Fm.add_fin (Fm.cls_fin.2 fa) (Fm.cls_fin.2 fb)]
    unfold Fm.fin
    rw [if_pos n3]
  have hP := expo a ha
  have hQ := expo b hb
  have pe := Fm.parts_eq a
  have sl := Fm.sg_lt ha
  have lp : Fm.sz a / 2^52 ≤ 2047 := by omega
  have lq : Fm.sz b / 2^52 ≤ 2047 := by omega
  have hF := mask64 b 52 hb (by decide) (M := 4503599627370495) (by decide)
  have hf : b % 2^52 = Fm.sz b % 2^52 := by unfold Fm.sz; omega
  rw [hf] at hF
  obtain ⟨x, hx⟩ : ∃ x, Fm.add a b = x := ⟨_, rfl⟩
  have HX' : Hid (Fm.add a b = x) := Lib.hid hx
  rw [hx] at HX
  have far := @Fm.near_far (Fm.sz a) (Fm.sz b) fa
  have tie := @Fm.near_tie (Fm.sz a) (Fm.sz b) fa
  have rng := Fm.near_range fa hna (Nat.not_lt.1 n4)
  generalize Fm.rnd (Fm.dec (Fm.sz a) + Fm.dec (Fm.sz b)) = X at *
  by_cases n5 : Fm.sz b / 2^52 + 54 < Fm.sz a / 2^52
  · have h5 := far n5
    exact near_far' a b w ha hb C1 C2 e1 e2 e3 hA hB (by omega) (by omega) (Lib.hid (nn a fa)) (Lib.hid (nn b fb)) HL HX' hP hQ lp lq (decide_eq_true (by omega)) (yes (by omega))
  have d1 : decide (((Fm.sz a / 2^52 : Nat) : Int) - ((Fm.sz b / 2^52 : Nat) : Int) > 54) = false := decide_eq_false (by omega)
  have la : a + 4503599627370496 < 2^64 := by omega
  have g1 : a ≤ x := by omega
  have g2 : x ≤ a + 4503599627370496 := by omega
  by_cases n6 : Fm.sz b / 2^52 + 53 = Fm.sz a / 2^52
  · have d2 : (((Fm.sz a / 2^52 : Nat) : Int) - ((Fm.sz b / 2^52 : Nat) : Int) == 53) = true := beq_iff_eq.2 (by omega)
    by_cases n7 : 0 < Fm.sz b / 2^52
    · have d3 := n7
      by_cases n8 : Fm.sz b % 2^52 = 0
      · have h8 := tie n6 n7 n8
        have par : Fm.sz a % 2 = a % 2 := by unfold Fm.sz; omega
        exact near_tie' a b w ha hb C1 C2 e1 e2 e3 hA hB (by omega) (by omega) (Lib.hid (nn a fa)) (Lib.hid (nn b fb)) HL HX' hP hQ lp lq d1 d2 d3 (by rw [hF, n8]; rfl) (by omega) (u64_and_one a) (by omega) (beq_iff_eq.2 (by omega))
      · exact near_n3 a b w ha hb C1 C2 e1 e2 e3 hA hB (by omega) (by omega) (Lib.hid (nn a fa)) (Lib.hid (nn b fb)) HL HX' hP hQ lp lq d1 d2 d3 (by rw [hF]; generalize Fm.sz b % 2^52 = r at n8 ⊢; simp; omega) la g1 g2
    · exact near_n2 a b w ha hb C1 C2 e1 e2 e3 hA hB (by omega) (by omega) (Lib.hid (nn a fa)) (Lib.hid (nn b fb)) HL HX' hP hQ lp lq d1 d2 n7 la g1 g2
  · exact near_n1 a b w ha hb C1 C2 e1 e2 e3 hA hB (by omega) (by omega) (Lib.hid (nn a fa)) (Lib.hid (nn b fb)) HL HX' hP hQ lp lq d1 (beq_eq_false_iff_ne.2 (by omega)) la g1 g2
end Go.Proofs.Ytkpljnfakidjeaa
