/-
  hyglaw7.FaddTurns: for any two doubles the law returns true.
-/
import Derived.Test.YtkpljnfakidjeaaFaddSum
namespace Go.Proofs.Ytkpljnfakidjeaa
open Go.RowKit

set_option maxRecDepth 1000000 in
set_option maxHeartbeats 4000000 in
theorem turns_nan1 (a b x : Nat) (w : World) (ha : a < 2^64) (hb : b < 2^64) (hx : x < 2^64) (HX : Hid (Fm.add a b = x)) {y : Nat} (hy : y < 2^64) (HY : Hid (Fm.add b a = y)) {c1 c3 c4 : Int} (C1 : Hid (c1 = (Fm.cls a : Nat))) (C3 : Hid (c3 = (Fm.cls x : Nat))) (C4 : Hid (c4 = (Fm.cls y : Nat))) (e3 : (c3 == 4) = true) (e4 : (c4 == 4) = true) (hbit : bits .and .u64 ((x : Int) / 2251799813685248) 1 = 1) (e1 : (c1 == 4) = true) :
    Calls Try.prog 5 #[.int .u64 a, .int .u64 b] w fun e w' => e = .returned (.bool true) ∧ w = w' := by
  go_enter Try.func5, Try.ntmps5
  go_wp2_with fail
  refine (first7 _).mono ?_; rintro e w' ⟨rfl, rfl⟩
  go_wp2_with fail
  refine (add_at a b x _ ha hb HX).mono ?_; rintro e w' ⟨rfl, rfl⟩
  go_wp2_with fail
  refine (add_at b a y _ hb ha HY).mono ?_; rintro e w' ⟨rfl, rfl⟩
  go_wp2_with fail
  refine (class_is a _ ha C1).mono ?_; rintro e w' ⟨rfl, rfl⟩
  go_wp2_with fail
  refine (first7 _).mono ?_; rintro e w' ⟨rfl, rfl⟩
  go_wp2_with fail
  refine (class_is x _ hx C3).mono ?_; rintro e w' ⟨rfl, rfl⟩
  go_wp2_with fail
  refine (class_is y _ hy C4).mono ?_; rintro e w' ⟨rfl, rfl⟩
  go_wp2_with fail
  go_ret
  exact ⟨rfl, rfl⟩
set_option maxRecDepth 1000000 in
set_option maxHeartbeats 4000000 in
theorem turns_nan2 (a b x : Nat) (w : World) (ha : a < 2^64) (hb : b < 2^64) (hx : x < 2^64) (HX : Hid (Fm.add a b = x)) {y : Nat} (hy : y < 2^64) (HY : Hid (Fm.add b a = y)) {c1 c3 c4 : Int} (C1 : Hid (c1 = (Fm.cls a : Nat))) (C3 : Hid (c3 = (Fm.cls x : Nat))) (C4 : Hid (c4 = (Fm.cls y : Nat))) (e3 : (c3 == 4) = true) (e4 : (c4 == 4) = true) (hbit : bits .and .u64 ((x : Int) / 2251799813685248) 1 = 1) (e1 : (c1 == 4) = false) {c2 : Int} (C2 : Hid (c2 = (Fm.cls b : Nat))) (e2 : (c2 == 4) = true) :
    Calls Try.prog 5 #[.int .u64 a, .int .u64 b] w fun e w' => e = .returned (.bool true) ∧ w = w' := by
  go_enter Try.func5, Try.ntmps5
  go_wp2_with fail
  refine (first7 _).mono ?_; rintro e w' ⟨rfl, rfl⟩
  go_wp2_with fail
  refine (add_at a b x _ ha hb HX).mono ?_; rintro e w' ⟨rfl, rfl⟩
  go_wp2_with fail
  refine (add_at b a y _ hb ha HY).mono ?_; rintro e w' ⟨rfl, rfl⟩
  go_wp2_with fail
  refine (class_is a _ ha C1).mono ?_; rintro e w' ⟨rfl, rfl⟩
  go_wp2_with fail
  refine (class_is b _ hb C2).mono ?_; rintro e w' ⟨rfl, rfl⟩
  go_wp2_with fail
  refine (first7 _).mono ?_; rintro e w' ⟨rfl, rfl⟩
  go_wp2_with fail
  refine (class_is x _ hx C3).mono ?_; rintro e w' ⟨rfl, rfl⟩
  go_wp2_with fail
  refine (class_is y _ hy C4).mono ?_; rintro e w' ⟨rfl, rfl⟩
  go_wp2_with fail
  go_ret
  exact ⟨rfl, rfl⟩
set_option maxRecDepth 1000000 in
set_option maxHeartbeats 4000000 in
theorem turns_infs (a b x : Nat) (w : World) (ha : a < 2^64) (hb : b < 2^64) (hx : x < 2^64) (HX : Hid (Fm.add a b = x)) (HY : Hid (Fm.add b a = x)) {c1 c2 c3 : Int} (C1 : Hid (c1 = (Fm.cls a : Nat))) (C2 : Hid (c2 = (Fm.cls b : Nat))) (C3 : Hid (c3 = (Fm.cls x : Nat))) (e1 : (c1 == 4) = false) (e2 : (c2 == 4) = false) (Z1 : Hid (Fm.add a 9223372036854775808 = a)) (Z2 : Hid (Fm.sub a 0 = a)) {na : Nat} (HN : Hid (Fm.ngt a = na)) (ez : ((a : Int) != 9223372036854775808) = true) (Z0 : Hid (Fm.add a 0 = a)) (e3 : (c3 == 4) = true) (e4 : (c1 == 3) = true) (e6 : (c1 != 3) = false) (e5 : ((b : Int) == (na : Int)) = true) :
    Calls Try.prog 5 #[.int .u64 a, .int .u64 b] w fun e w' => e = .returned (.bool true) ∧ w = w' := by
  go_enter Try.func5, Try.ntmps5
  go_wp2_with fail
  refine (first7 _).mono ?_; rintro e w' ⟨rfl, rfl⟩
  go_wp2_with fail
  refine (add_at a b x _ ha hb HX).mono ?_; rintro e w' ⟨rfl, rfl⟩
  go_wp2_with fail
  refine (add_at b a x _ hb ha HY).mono ?_; rintro e w' ⟨rfl, rfl⟩
  go_wp2_with fail
  refine (class_is a _ ha C1).mono ?_; rintro e w' ⟨rfl, rfl⟩
  go_wp2_with fail
  refine (class_is b _ hb C2).mono ?_; rintro e w' ⟨rfl, rfl⟩
  go_wp2_with fail
  refine (class_is x _ hx C3).mono ?_; rintro e w' ⟨rfl, rfl⟩
  go_wp2_with fail
  refine (class_is a _ ha C1).mono ?_; rintro e w' ⟨rfl, rfl⟩
  go_wp2_with fail
  refine (neg_at a na _ ha HN).mono ?_; rintro e w' ⟨rfl, rfl⟩
  go_wp2_with fail
  refine (add_at a 0 a _ ha (by decide) Z0).mono ?_; rintro e w' ⟨rfl, rfl⟩
  go_wp2_with fail
  refine (add_at a 9223372036854775808 a _ ha (by decide) Z1).mono ?_; rintro e w' ⟨rfl, rfl⟩
  go_wp2_with fail
  refine (sub_at a 0 a _ ha (by decide) Z2).mono ?_; rintro e w' ⟨rfl, rfl⟩
  go_wp2_with fail
  refine (class_is a _ ha C1).mono ?_; rintro e w' ⟨rfl, rfl⟩
  go_wp2_with fail
  refine (class_is x _ hx C3).mono ?_; rintro e w' ⟨rfl, rfl⟩
  go_wp2_with fail
  refine (first7 _).mono ?_; rintro e w' ⟨rfl, rfl⟩
  go_wp2_with fail
  go_ret
  exact ⟨rfl, rfl⟩
set_option maxRecDepth 1000000 in
set_option maxHeartbeats 4000000 in
theorem turns_inf1 (a b x : Nat) (w : World) (ha : a < 2^64) (hb : b < 2^64) (hx : x < 2^64) (HX : Hid (Fm.add a b = x)) (HY : Hid (Fm.add b a = x)) {c1 c2 c3 : Int} (C1 : Hid (c1 = (Fm.cls a : Nat))) (C2 : Hid (c2 = (Fm.cls b : Nat))) (C3 : Hid (c3 = (Fm.cls x : Nat))) (e1 : (c1 == 4) = false) (e2 : (c2 == 4) = false) (Z1 : Hid (Fm.add a 9223372036854775808 = a)) (Z2 : Hid (Fm.sub a 0 = a)) {na : Nat} (HN : Hid (Fm.ngt a = na)) (ez : ((a : Int) != 9223372036854775808) = true) (Z0 : Hid (Fm.add a 0 = a)) (e3 : (c3 == 4) = false) {nb z nx s : Nat} (hna : na < 2^64) (hnb : nb < 2^64) (HB : Hid (Fm.ngt b = nb)) (HZ : Hid (Fm.add na nb = z)) (HM : Hid (Fm.ngt x = nx)) (HS1 : Hid (Fm.sub a b = s)) (HS2 : Hid (Fm.add a nb = s)) (ee : ((z : Int) == (nx : Int)) = true) (e4 : (c1 == 3) = true) (e6 : (c1 != 3) = false) (e5 : ((b : Int) == (na : Int)) = false) :
    Calls Try.prog 5 #[.int .u64 a, .int .u64 b] w fun e w' => e = .returned (.bool true) ∧ w = w' := by
  go_enter Try.func5, Try.ntmps5
  go_wp2_with fail
  refine (first7 _).mono ?_; rintro e w' ⟨rfl, rfl⟩
  go_wp2_with fail
  refine (add_at a b x _ ha hb HX).mono ?_; rintro e w' ⟨rfl, rfl⟩
  go_wp2_with fail
  refine (add_at b a x _ hb ha HY).mono ?_; rintro e w' ⟨rfl, rfl⟩
  go_wp2_with fail
  refine (class_is a _ ha C1).mono ?_; rintro e w' ⟨rfl, rfl⟩
  go_wp2_with fail
  refine (class_is b _ hb C2).mono ?_; rintro e w' ⟨rfl, rfl⟩
  go_wp2_with fail
  refine (class_is x _ hx C3).mono ?_; rintro e w' ⟨rfl, rfl⟩
  go_wp2_with fail
  refine (class_is a _ ha C1).mono ?_; rintro e w' ⟨rfl, rfl⟩
  go_wp2_with fail
  refine (neg_at a na _ ha HN).mono ?_; rintro e w' ⟨rfl, rfl⟩
  go_wp2_with fail
  refine (add_at a 0 a _ ha (by decide) Z0).mono ?_; rintro e w' ⟨rfl, rfl⟩
  go_wp2_with fail
  refine (add_at a 9223372036854775808 a _ ha (by decide) Z1).mono ?_; rintro e w' ⟨rfl, rfl⟩
  go_wp2_with fail
  refine (sub_at a 0 a _ ha (by decide) Z2).mono ?_; rintro e w' ⟨rfl, rfl⟩
  go_wp2_with fail
  refine (class_is a _ ha C1).mono ?_; rintro e w' ⟨rfl, rfl⟩
  go_wp2_with fail
  refine (class_is x _ hx C3).mono ?_; rintro e w' ⟨rfl, rfl⟩
  go_wp2_with fail
  refine (neg_at a na _ ha HN).mono ?_; rintro e w' ⟨rfl, rfl⟩
  go_wp2_with fail
  refine (neg_at b nb _ hb HB).mono ?_; rintro e w' ⟨rfl, rfl⟩
  go_wp2_with fail
  refine (add_at na nb z _ hna hnb HZ).mono ?_; rintro e w' ⟨rfl, rfl⟩
  go_wp2_with fail
  refine (first7 _).mono ?_; rintro e w' ⟨rfl, rfl⟩
  go_wp2_with fail
  refine (neg_at x nx _ hx HM).mono ?_; rintro e w' ⟨rfl, rfl⟩
  go_wp2_with fail
  refine (sub_at a b s _ ha hb HS1).mono ?_; rintro e w' ⟨rfl, rfl⟩
  go_wp2_with fail
  refine (neg_at b nb _ hb HB).mono ?_; rintro e w' ⟨rfl, rfl⟩
  go_wp2_with fail
  refine (add_at a nb s _ ha hnb HS2).mono ?_; rintro e w' ⟨rfl, rfl⟩
  go_wp2_with fail
  go_ret
  exact ⟨rfl, rfl⟩
set_option maxRecDepth 1000000 in
set_option maxHeartbeats 4000000 in
theorem turns_fin1 (a b x : Nat) (w : World) (ha : a < 2^64) (hb : b < 2^64) (hx : x < 2^64) (HX : Hid (Fm.add a b = x)) (HY : Hid (Fm.add b a = x)) {c1 c2 c3 : Int} (C1 : Hid (c1 = (Fm.cls a : Nat))) (C2 : Hid (c2 = (Fm.cls b : Nat))) (C3 : Hid (c3 = (Fm.cls x : Nat))) (e1 : (c1 == 4) = false) (e2 : (c2 == 4) = false) (Z1 : Hid (Fm.add a 9223372036854775808 = a)) (Z2 : Hid (Fm.sub a 0 = a)) {na : Nat} (HN : Hid (Fm.ngt a = na)) (ez : ((a : Int) != 9223372036854775808) = true) (Z0 : Hid (Fm.add a 0 = a)) (e3 : (c3 == 4) = false) {nb z nx s : Nat} (hna : na < 2^64) (hnb : nb < 2^64) (HB : Hid (Fm.ngt b = nb)) (HZ : Hid (Fm.add na nb = z)) (HM : Hid (Fm.ngt x = nx)) (HS1 : Hid (Fm.sub a b = s)) (HS2 : Hid (Fm.add a nb = s)) (ee : ((z : Int) == (nx : Int)) = true) (e4 : (c1 == 3) = false) (e6 : (c1 != 3) = true) (HS : Hid (Fm.sub a a = 0)) :
    Calls Try.prog 5 #[.int .u64 a, .int .u64 b] w fun e w' => e = .returned (.bool true) ∧ w = w' := by
  go_enter Try.func5, Try.ntmps5
  go_wp2_with fail
  refine (first7 _).mono ?_; rintro e w' ⟨rfl, rfl⟩
  go_wp2_with fail
  refine (add_at a b x _ ha hb HX).mono ?_; rintro e w' ⟨rfl, rfl⟩
  go_wp2_with fail
  refine (add_at b a x _ hb ha HY).mono ?_; rintro e w' ⟨rfl, rfl⟩
  go_wp2_with fail
  refine (class_is a _ ha C1).mono ?_; rintro e w' ⟨rfl, rfl⟩
  go_wp2_with fail
  refine (class_is b _ hb C2).mono ?_; rintro e w' ⟨rfl, rfl⟩
  go_wp2_with fail
  refine (class_is x _ hx C3).mono ?_; rintro e w' ⟨rfl, rfl⟩
  go_wp2_with fail
  refine (class_is a _ ha C1).mono ?_; rintro e w' ⟨rfl, rfl⟩
  go_wp2_with fail
  refine (add_at a 0 a _ ha (by decide) Z0).mono ?_; rintro e w' ⟨rfl, rfl⟩
  go_wp2_with fail
  refine (add_at a 9223372036854775808 a _ ha (by decide) Z1).mono ?_; rintro e w' ⟨rfl, rfl⟩
  go_wp2_with fail
  refine (sub_at a 0 a _ ha (by decide) Z2).mono ?_; rintro e w' ⟨rfl, rfl⟩
  go_wp2_with fail
  refine (class_is a _ ha C1).mono ?_; rintro e w' ⟨rfl, rfl⟩
  go_wp2_with fail
  refine (sub_at a a 0 _ ha ha HS).mono ?_; rintro e w' ⟨rfl, rfl⟩
  go_wp2_with fail
  refine (class_is x _ hx C3).mono ?_; rintro e w' ⟨rfl, rfl⟩
  go_wp2_with fail
  refine (neg_at a na _ ha HN).mono ?_; rintro e w' ⟨rfl, rfl⟩
  go_wp2_with fail
  refine (neg_at b nb _ hb HB).mono ?_; rintro e w' ⟨rfl, rfl⟩
  go_wp2_with fail
  refine (add_at na nb z _ hna hnb HZ).mono ?_; rintro e w' ⟨rfl, rfl⟩
  go_wp2_with fail
  refine (first7 _).mono ?_; rintro e w' ⟨rfl, rfl⟩
  go_wp2_with fail
  refine (neg_at x nx _ hx HM).mono ?_; rintro e w' ⟨rfl, rfl⟩
  go_wp2_with fail
  refine (sub_at a b s _ ha hb HS1).mono ?_; rintro e w' ⟨rfl, rfl⟩
  go_wp2_with fail
  refine (neg_at b nb _ hb HB).mono ?_; rintro e w' ⟨rfl, rfl⟩
  go_wp2_with fail
  refine (add_at a nb s _ ha hnb HS2).mono ?_; rintro e w' ⟨rfl, rfl⟩
  go_wp2_with fail
  go_ret
  exact ⟨rfl, rfl⟩
set_option maxRecDepth 1000000 in
set_option maxHeartbeats 4000000 in
theorem turns_min1 (a b x : Nat) (w : World) (ha : a < 2^64) (hb : b < 2^64) (hx : x < 2^64) (HX : Hid (Fm.add a b = x)) (HY : Hid (Fm.add b a = x)) {c1 c2 c3 : Int} (C1 : Hid (c1 = (Fm.cls a : Nat))) (C2 : Hid (c2 = (Fm.cls b : Nat))) (C3 : Hid (c3 = (Fm.cls x : Nat))) (e1 : (c1 == 4) = false) (e2 : (c2 == 4) = false) (Z1 : Hid (Fm.add a 9223372036854775808 = a)) (Z2 : Hid (Fm.sub a 0 = a)) {na : Nat} (HN : Hid (Fm.ngt a = na)) (ez : ((a : Int) != 9223372036854775808) = false) (e3 : (c3 == 4) = false) {nb z nx s : Nat} (hna : na < 2^64) (hnb : nb < 2^64) (HB : Hid (Fm.ngt b = nb)) (HZ : Hid (Fm.add na nb = z)) (HM : Hid (Fm.ngt x = nx)) (HS1 : Hid (Fm.sub a b = s)) (HS2 : Hid (Fm.add a nb = s)) (ee : ((z : Int) == (nx : Int)) = true) (e4 : (c1 == 3) = false) (e6 : (c1 != 3) = true) (HS : Hid (Fm.sub a a = 0)) :
    Calls Try.prog 5 #[.int .u64 a, .int .u64 b] w fun e w' => e = .returned (.bool true) ∧ w = w' := by
  go_enter Try.func5, Try.ntmps5
  go_wp2_with fail
  refine (first7 _).mono ?_; rintro e w' ⟨rfl, rfl⟩
  go_wp2_with fail
  refine (add_at a b x _ ha hb HX).mono ?_; rintro e w' ⟨rfl, rfl⟩
  go_wp2_with fail
  refine (add_at b a x _ hb ha HY).mono ?_; rintro e w' ⟨rfl, rfl⟩
  go_wp2_with fail
  refine (class_is a _ ha C1).mono ?_; rintro e w' ⟨rfl, rfl⟩
  go_wp2_with fail
  refine (class_is b _ hb C2).mono ?_; rintro e w' ⟨rfl, rfl⟩
  go_wp2_with fail
  refine (class_is x _ hx C3).mono ?_; rintro e w' ⟨rfl, rfl⟩
  go_wp2_with fail
  refine (class_is a _ ha C1).mono ?_; rintro e w' ⟨rfl, rfl⟩
  go_wp2_with fail
  refine (add_at a 9223372036854775808 a _ ha (by decide) Z1).mono ?_; rintro e w' ⟨rfl, rfl⟩
  go_wp2_with fail
  refine (sub_at a 0 a _ ha (by decide) Z2).mono ?_; rintro e w' ⟨rfl, rfl⟩
  go_wp2_with fail
  refine (class_is a _ ha C1).mono ?_; rintro e w' ⟨rfl, rfl⟩
  go_wp2_with fail
  refine (sub_at a a 0 _ ha ha HS).mono ?_; rintro e w' ⟨rfl, rfl⟩
  go_wp2_with fail
  refine (class_is x _ hx C3).mono ?_; rintro e w' ⟨rfl, rfl⟩
  go_wp2_with fail
  refine (neg_at a na _ ha HN).mono ?_; rintro e w' ⟨rfl, rfl⟩
  go_wp2_with fail
  refine (neg_at b nb _ hb HB).mono ?_; rintro e w' ⟨rfl, rfl⟩
  go_wp2_with fail
  refine (add_at na nb z _ hna hnb HZ).mono ?_; rintro e w' ⟨rfl, rfl⟩
  go_wp2_with fail
  refine (first7 _).mono ?_; rintro e w' ⟨rfl, rfl⟩
  go_wp2_with fail
  refine (neg_at x nx _ hx HM).mono ?_; rintro e w' ⟨rfl, rfl⟩
  go_wp2_with fail
  refine (sub_at a b s _ ha hb HS1).mono ?_; rintro e w' ⟨rfl, rfl⟩
  go_wp2_with fail
  refine (neg_at b nb _ hb HB).mono ?_; rintro e w' ⟨rfl, rfl⟩
  go_wp2_with fail
  refine (add_at a nb s _ ha hnb HS2).mono ?_; rintro e w' ⟨rfl, rfl⟩
  go_wp2_with fail
  go_ret
  exact ⟨rfl, rfl⟩
set_option maxRecDepth 1000000 in
set_option maxHeartbeats 4000000 in
theorem turns_inf2 (a b x : Nat) (w : World) (ha : a < 2^64) (hb : b < 2^64) (hx : x < 2^64) (HX : Hid (Fm.add a b = x)) (HY : Hid (Fm.add b a = x)) {c1 c2 c3 : Int} (C1 : Hid (c1 = (Fm.cls a : Nat))) (C2 : Hid (c2 = (Fm.cls b : Nat))) (C3 : Hid (c3 = (Fm.cls x : Nat))) (e1 : (c1 == 4) = false) (e2 : (c2 == 4) = false) (Z1 : Hid (Fm.add a 9223372036854775808 = a)) (Z2 : Hid (Fm.sub a 0 = a)) {na : Nat} (HN : Hid (Fm.ngt a = na)) (ez : ((a : Int) != 9223372036854775808) = true) (Z0 : Hid (Fm.add a 0 = a)) (e3 : (c3 == 4) = false) {nb z nx s : Nat} (hna : na < 2^64) (hnb : nb < 2^64) (HB : Hid (Fm.ngt b = nb)) (HZ : Hid (Fm.add na nb = z)) (HM : Hid (Fm.ngt x = nx)) (HS1 : Hid (Fm.sub a b = s)) (HS2 : Hid (Fm.add a nb = s)) (ee : ((z : Int) == (nx : Int)) = false) (ex : ((x : Int) == 0) = true) (ezz : ((z : Int) == 0) = true) (e4 : (c1 == 3) = true) (e6 : (c1 != 3) = false) (e5 : ((b : Int) == (na : Int)) = false) :
    Calls Try.prog 5 #[.int .u64 a, .int .u64 b] w fun e w' => e = .returned (.bool true) ∧ w = w' := by
  go_enter Try.func5, Try.ntmps5
  go_wp2_with fail
  refine (first7 _).mono ?_; rintro e w' ⟨rfl, rfl⟩
  go_wp2_with fail
  refine (add_at a b x _ ha hb HX).mono ?_; rintro e w' ⟨rfl, rfl⟩
  go_wp2_with fail
  refine (add_at b a x _ hb ha HY).mono ?_; rintro e w' ⟨rfl, rfl⟩
  go_wp2_with fail
  refine (class_is a _ ha C1).mono ?_; rintro e w' ⟨rfl, rfl⟩
  go_wp2_with fail
  refine (class_is b _ hb C2).mono ?_; rintro e w' ⟨rfl, rfl⟩
  go_wp2_with fail
  refine (class_is x _ hx C3).mono ?_; rintro e w' ⟨rfl, rfl⟩
  go_wp2_with fail
  refine (class_is a _ ha C1).mono ?_; rintro e w' ⟨rfl, rfl⟩
  go_wp2_with fail
  refine (neg_at a na _ ha HN).mono ?_; rintro e w' ⟨rfl, rfl⟩
  go_wp2_with fail
  refine (add_at a 0 a _ ha (by decide) Z0).mono ?_; rintro e w' ⟨rfl, rfl⟩
  go_wp2_with fail
  refine (add_at a 9223372036854775808 a _ ha (by decide) Z1).mono ?_; rintro e w' ⟨rfl, rfl⟩
  go_wp2_with fail
  refine (sub_at a 0 a _ ha (by decide) Z2).mono ?_; rintro e w' ⟨rfl, rfl⟩
  go_wp2_with fail
  refine (class_is a _ ha C1).mono ?_; rintro e w' ⟨rfl, rfl⟩
  go_wp2_with fail
  refine (class_is x _ hx C3).mono ?_; rintro e w' ⟨rfl, rfl⟩
  go_wp2_with fail
  refine (neg_at a na _ ha HN).mono ?_; rintro e w' ⟨rfl, rfl⟩
  go_wp2_with fail
  refine (neg_at b nb _ hb HB).mono ?_; rintro e w' ⟨rfl, rfl⟩
  go_wp2_with fail
  refine (add_at na nb z _ hna hnb HZ).mono ?_; rintro e w' ⟨rfl, rfl⟩
  go_wp2_with fail
  refine (first7 _).mono ?_; rintro e w' ⟨rfl, rfl⟩
  go_wp2_with fail
  refine (neg_at x nx _ hx HM).mono ?_; rintro e w' ⟨rfl, rfl⟩
  go_wp2_with fail
  refine (sub_at a b s _ ha hb HS1).mono ?_; rintro e w' ⟨rfl, rfl⟩
  go_wp2_with fail
  refine (neg_at b nb _ hb HB).mono ?_; rintro e w' ⟨rfl, rfl⟩
  go_wp2_with fail
  refine (add_at a nb s _ ha hnb HS2).mono ?_; rintro e w' ⟨rfl, rfl⟩
  go_wp2_with fail
  go_ret
  exact ⟨rfl, rfl⟩
set_option maxRecDepth 1000000 in
set_option maxHeartbeats 4000000 in
theorem turns_fin2 (a b x : Nat) (w : World) (ha : a < 2^64) (hb : b < 2^64) (hx : x < 2^64) (HX : Hid (Fm.add a b = x)) (HY : Hid (Fm.add b a = x)) {c1 c2 c3 : Int} (C1 : Hid (c1 = (Fm.cls a : Nat))) (C2 : Hid (c2 = (Fm.cls b : Nat))) (C3 : Hid (c3 = (Fm.cls x : Nat))) (e1 : (c1 == 4) = false) (e2 : (c2 == 4) = false) (Z1 : Hid (Fm.add a 9223372036854775808 = a)) (Z2 : Hid (Fm.sub a 0 = a)) {na : Nat} (HN : Hid (Fm.ngt a = na)) (ez : ((a : Int) != 9223372036854775808) = true) (Z0 : Hid (Fm.add a 0 = a)) (e3 : (c3 == 4) = false) {nb z nx s : Nat} (hna : na < 2^64) (hnb : nb < 2^64) (HB : Hid (Fm.ngt b = nb)) (HZ : Hid (Fm.add na nb = z)) (HM : Hid (Fm.ngt x = nx)) (HS1 : Hid (Fm.sub a b = s)) (HS2 : Hid (Fm.add a nb = s)) (ee : ((z : Int) == (nx : Int)) = false) (ex : ((x : Int) == 0) = true) (ezz : ((z : Int) == 0) = true) (e4 : (c1 == 3) = false) (e6 : (c1 != 3) = true) (HS : Hid (Fm.sub a a = 0)) :
    Calls Try.prog 5 #[.int .u64 a, .int .u64 b] w fun e w' => e = .returned (.bool true) ∧ w = w' := by
  go_enter Try.func5, Try.ntmps5
  go_wp2_with fail
  refine (first7 _).mono ?_; rintro e w' ⟨rfl, rfl⟩
  go_wp2_with fail
  refine (add_at a b x _ ha hb HX).mono ?_; rintro e w' ⟨rfl, rfl⟩
  go_wp2_with fail
  refine (add_at b a x _ hb ha HY).mono ?_; rintro e w' ⟨rfl, rfl⟩
  go_wp2_with fail
  refine (class_is a _ ha C1).mono ?_; rintro e w' ⟨rfl, rfl⟩
  go_wp2_with fail
  refine (class_is b _ hb C2).mono ?_; rintro e w' ⟨rfl, rfl⟩
  go_wp2_with fail
  refine (class_is x _ hx C3).mono ?_; rintro e w' ⟨rfl, rfl⟩
  go_wp2_with fail
  refine (class_is a _ ha C1).mono ?_; rintro e w' ⟨rfl, rfl⟩
  go_wp2_with fail
  refine (add_at a 0 a _ ha (by decide) Z0).mono ?_; rintro e w' ⟨rfl, rfl⟩
  go_wp2_with fail
  refine (add_at a 9223372036854775808 a _ ha (by decide) Z1).mono ?_; rintro e w' ⟨rfl, rfl⟩
  go_wp2_with fail
  refine (sub_at a 0 a _ ha (by decide) Z2).mono ?_; rintro e w' ⟨rfl, rfl⟩
  go_wp2_with fail
  refine (class_is a _ ha C1).mono ?_; rintro e w' ⟨rfl, rfl⟩
  go_wp2_with fail
  refine (sub_at a a 0 _ ha ha HS).mono ?_; rintro e w' ⟨rfl, rfl⟩
  go_wp2_with fail
  refine (class_is x _ hx C3).mono ?_; rintro e w' ⟨rfl, rfl⟩
  go_wp2_with fail
  refine (neg_at a na _ ha HN).mono ?_; rintro e w' ⟨rfl, rfl⟩
  go_wp2_with fail
  refine (neg_at b nb _ hb HB).mono ?_; rintro e w' ⟨rfl, rfl⟩
  go_wp2_with fail
  refine (add_at na nb z _ hna hnb HZ).mono ?_; rintro e w' ⟨rfl, rfl⟩
  go_wp2_with fail
  refine (first7 _).mono ?_; rintro e w' ⟨rfl, rfl⟩
  go_wp2_with fail
  refine (neg_at x nx _ hx HM).mono ?_; rintro e w' ⟨rfl, rfl⟩
  go_wp2_with fail
  refine (sub_at a b s _ ha hb HS1).mono ?_; rintro e w' ⟨rfl, rfl⟩
  go_wp2_with fail
  refine (neg_at b nb _ hb HB).mono ?_; rintro e w' ⟨rfl, rfl⟩
  go_wp2_with fail
  refine (add_at a nb s _ ha hnb HS2).mono ?_; rintro e w' ⟨rfl, rfl⟩
  go_wp2_with fail
  go_ret
  exact ⟨rfl, rfl⟩
set_option maxRecDepth 1000000 in
set_option maxHeartbeats 4000000 in
theorem turns_min2 (a b x : Nat) (w : World) (ha : a < 2^64) (hb : b < 2^64) (hx : x < 2^64) (HX : Hid (Fm.add a b = x)) (HY : Hid (Fm.add b a = x)) {c1 c2 c3 : Int} (C1 : Hid (c1 = (Fm.cls a : Nat))) (C2 : Hid (c2 = (Fm.cls b : Nat))) (C3 : Hid (c3 = (Fm.cls x : Nat))) (e1 : (c1 == 4) = false) (e2 : (c2 == 4) = false) (Z1 : Hid (Fm.add a 9223372036854775808 = a)) (Z2 : Hid (Fm.sub a 0 = a)) {na : Nat} (HN : Hid (Fm.ngt a = na)) (ez : ((a : Int) != 9223372036854775808) = false) (e3 : (c3 == 4) = false) {nb z nx s : Nat} (hna : na < 2^64) (hnb : nb < 2^64) (HB : Hid (Fm.ngt b = nb)) (HZ : Hid (Fm.add na nb = z)) (HM : Hid (Fm.ngt x = nx)) (HS1 : Hid (Fm.sub a b = s)) (HS2 : Hid (Fm.add a nb = s)) (ee : ((z : Int) == (nx : Int)) = false) (ex : ((x : Int) == 0) = true) (ezz : ((z : Int) == 0) = true) (e4 : (c1 == 3) = false) (e6 : (c1 != 3) = true) (HS : Hid (Fm.sub a a = 0)) :
    Calls Try.prog 5 #[.int .u64 a, .int .u64 b] w fun e w' => e = .returned (.bool true) ∧ w = w' := by
  go_enter Try.func5, Try.ntmps5
  go_wp2_with fail
  refine (first7 _).mono ?_; rintro e w' ⟨rfl, rfl⟩
  go_wp2_with fail
  refine (add_at a b x _ ha hb HX).mono ?_; rintro e w' ⟨rfl, rfl⟩
  go_wp2_with fail
  refine (add_at b a x _ hb ha HY).mono ?_; rintro e w' ⟨rfl, rfl⟩
  go_wp2_with fail
  refine (class_is a _ ha C1).mono ?_; rintro e w' ⟨rfl, rfl⟩
  go_wp2_with fail
  refine (class_is b _ hb C2).mono ?_; rintro e w' ⟨rfl, rfl⟩
  go_wp2_with fail
  refine (class_is x _ hx C3).mono ?_; rintro e w' ⟨rfl, rfl⟩
  go_wp2_with fail
  refine (class_is a _ ha C1).mono ?_; rintro e w' ⟨rfl, rfl⟩
  go_wp2_with fail
  refine (add_at a 9223372036854775808 a _ ha (by decide) Z1).mono ?_; rintro e w' ⟨rfl, rfl⟩
  go_wp2_with fail
  refine (sub_at a 0 a _ ha (by decide) Z2).mono ?_; rintro e w' ⟨rfl, rfl⟩
  go_wp2_with fail
  refine (class_is a _ ha C1).mono ?_; rintro e w' ⟨rfl, rfl⟩
  go_wp2_with fail
  refine (sub_at a a 0 _ ha ha HS).mono ?_; rintro e w' ⟨rfl, rfl⟩
  go_wp2_with fail
  refine (class_is x _ hx C3).mono ?_; rintro e w' ⟨rfl, rfl⟩
  go_wp2_with fail
  refine (neg_at a na _ ha HN).mono ?_; rintro e w' ⟨rfl, rfl⟩
  go_wp2_with fail
  refine (neg_at b nb _ hb HB).mono ?_; rintro e w' ⟨rfl, rfl⟩
  go_wp2_with fail
  refine (add_at na nb z _ hna hnb HZ).mono ?_; rintro e w' ⟨rfl, rfl⟩
  go_wp2_with fail
  refine (first7 _).mono ?_; rintro e w' ⟨rfl, rfl⟩
  go_wp2_with fail
  refine (neg_at x nx _ hx HM).mono ?_; rintro e w' ⟨rfl, rfl⟩
  go_wp2_with fail
  refine (sub_at a b s _ ha hb HS1).mono ?_; rintro e w' ⟨rfl, rfl⟩
  go_wp2_with fail
  refine (neg_at b nb _ hb HB).mono ?_; rintro e w' ⟨rfl, rfl⟩
  go_wp2_with fail
  refine (add_at a nb s _ ha hnb HS2).mono ?_; rintro e w' ⟨rfl, rfl⟩
  go_wp2_with fail
  go_ret
  exact ⟨rfl, rfl⟩

theorem bit51 {x : Nat} (h : x / 2^51 % 2 = 1) : bits .and .u64 ((x : Int) / 2251799813685248) 1 = 1 := by
  have e : ((x : Int) / 2251799813685248) = ((x / 2^51 : Nat) : Int) := by omega
  rw [e, u64_and_one, h]; rfl
theorem turns_any (a b : Nat) (w : World) (ha : a < 2^64) (hb : b < 2^64) :
    Calls Try.prog 5 #[.int .u64 a, .int .u64 b] w fun e w' => e = .returned (.bool true) ∧ w = w' := by
  have yes : ∀ {x k : Nat}, x = k → (((x : Nat) : Int) == ((k : Nat) : Int)) = true := fun h => by rw [h]; simp
  have no : ∀ {x k : Nat}, x ≠ k → (((x : Nat) : Int) == ((k : Nat) : Int)) = false := fun h => by simp; omega
  have yes' : ∀ {x k : Nat}, x = k → (((x : Nat) : Int) != ((k : Nat) : Int)) = false := fun h => by rw [h]; simp
  have no' : ∀ {x k : Nat}, x ≠ k → (((x : Nat) : Int) != ((k : Nat) : Int)) = true := fun h => by simp; omega
  have hx := Fm.add_lt ha hb
  have hy := Fm.add_lt hb ha
  have C1 : Hid (((Fm.cls a : Nat) : Int) = (Fm.cls a : Nat)) := Lib.hid rfl
  have C2 : Hid (((Fm.cls b : Nat) : Int) = (Fm.cls b : Nat)) := Lib.hid rfl
  have C3 : Hid (((Fm.cls (Fm.add a b) : Nat) : Int) = (Fm.cls (Fm.add a b) : Nat)) := Lib.hid rfl
  have C4 : Hid (((Fm.cls (Fm.add b a) : Nat) : Int) = (Fm.cls (Fm.add b a) : Nat)) := Lib.hid rfl
  have hn : ∀ {a b : Nat}, Fm.cls a = 4 → Fm.add a b = Fm.quiet a := fun h => by unfold Fm.add; rw [if_pos h]
  have hn2 : ∀ {a b : Nat}, Fm.cls a ≠ 4 → Fm.cls b = 4 → Fm.add a b = Fm.quiet b := fun h h2 => by unfold Fm.add; rw [if_neg h, if_pos h2]
  have key : Fm.cls a = 4 ∨ Fm.cls b = 4 → Fm.cls (Fm.add a b) = 4 ∧ Fm.add a b / 2^51 % 2 = 1 := by
    intro h
    by_cases h1 : Fm.cls a = 4
    · rw [hn h1]; exact Fm.quiet_nan h1
    · have h2 : Fm.cls b = 4 := by omega
      rw [hn2 h1 h2]; exact Fm.quiet_nan h2
  have key2 : Fm.cls a = 4 ∨ Fm.cls b = 4 → Fm.cls (Fm.add b a) = 4 := by
    intro h
    by_cases h1 : Fm.cls b = 4
    · rw [hn h1]; exact (Fm.quiet_nan h1).1
    · have h2 : Fm.cls a = 4 := by omega
      rw [hn2 h1 h2]; exact (Fm.quiet_nan h2).1
  by_cases n1 : Fm.cls a = 4
  · exact turns_nan1 a b _ w ha hb hx (Lib.hid rfl) hy (Lib.hid rfl) C1 C3 C4 (yes (key (.inl n1)).1) (yes (key2 (.inl n1))) (bit51 (key (.inl n1)).2) (yes n1)
  by_cases n2 : Fm.cls b = 4
  · exact turns_nan2 a b _ w ha hb hx (Lib.hid rfl) hy (Lib.hid rfl) C1 C3 C4 (yes (key (.inr n2)).1) (yes (key2 (.inr n2))) (bit51 (key (.inr n2)).2) (no n1) C2 (yes n2)
  have HX : Hid (Fm.add a b = Fm.add a b) := Lib.hid rfl
  have HY : Hid (Fm.add b a = Fm.add a b) := Lib.hid (Fm.add_comm' n2 n1)
  have hp : (9223372036854775808 : Nat) = 2^63 := by decide
  have Z1 : Hid (Fm.add a 9223372036854775808 = a) := Lib.hid (by rw [hp]; exact Fm.add_minus ha n1)
  have z0 : Fm.cls 0 ≠ 4 := by rw [Fm.cls_zero]; decide
  have Z2 : Hid (Fm.sub a 0 = a) := Lib.hid (by
    unfold Fm.sub
    rw [if_neg z0, show Fm.ngt 0 = 2^63 from by decide +kernel]
    exact Fm.add_minus ha n1)
  have HN : Hid (Fm.ngt a = Fm.ngt a) := Lib.hid rfl
  have hnan := Fm.add_nan ha hb n1 n2
  by_cases n3 : Fm.cls (Fm.add a b) = 4
  · obtain ⟨i1, i2⟩ := hnan.1 n3
    have hne : a ≠ 2^63 := fun h => by rw [h, Fm.cls_minus] at i1; exact absurd i1 (by decide)
    exact turns_infs a b _ w ha hb hx HX HY C1 C2 C3 (no n1) (no n2) Z1 Z2 HN (by simp; omega) (Lib.hid (Fm.add_zero' ha n1 hne)) (yes n3) (yes i1) (yes' i1) (yes i2)
  have HS1 : Hid (Fm.sub a b = Fm.add a (Fm.ngt b)) := Lib.hid (by unfold Fm.sub; rw [if_neg n2])
  have hng := Fm.add_ngt ha hb n1 n2 n3
  by_cases n4 : Fm.cls a = 3
  · have hne : a ≠ 2^63 := fun h => by rw [h, Fm.cls_minus] at n4; exact absurd n4 (by decide)
    have ez : ((a : Int) != 9223372036854775808) = true := by simp; omega
    have n5 : b ≠ Fm.ngt a := fun h => n3 (hnan.2 ⟨n4, h⟩)
    by_cases n6 : Fm.add (Fm.ngt a) (Fm.ngt b) = Fm.ngt (Fm.add a b)
    · exact turns_inf1 a b _ w ha hb hx HX HY C1 C2 C3 (no n1) (no n2) Z1 Z2 HN ez (Lib.hid (Fm.add_zero' ha n1 hne)) (no n3) Fm.ngt_lt Fm.ngt_lt (Lib.hid rfl) (Lib.hid rfl) (Lib.hid rfl) HS1 (Lib.hid rfl) (yes n6) (yes n4) (yes' n4) (no n5)
    · have h7 := hng.resolve_left n6
      exact turns_inf2 a b _ w ha hb hx HX HY C1 C2 C3 (no n1) (no n2) Z1 Z2 HN ez (Lib.hid (Fm.add_zero' ha n1 hne)) (no n3) Fm.ngt_lt Fm.ngt_lt (Lib.hid rfl) (Lib.hid rfl) (Lib.hid rfl) HS1 (Lib.hid rfl) (no n6) (yes h7.1) (yes h7.2) (yes n4) (yes' n4) (no n5)
  have HS : Hid (Fm.sub a a = 0) := Lib.hid (by unfold Fm.sub; rw [if_neg n1]; exact Fm.add_self ha n1 n4)
  by_cases n7 : a = 2^63
  · have ez : ((a : Int) != 9223372036854775808) = false := by simp; omega
    by_cases n6 : Fm.add (Fm.ngt a) (Fm.ngt b) = Fm.ngt (Fm.add a b)
    · exact turns_min1 a b _ w ha hb hx HX HY C1 C2 C3 (no n1) (no n2) Z1 Z2 HN ez (no n3) Fm.ngt_lt Fm.ngt_lt (Lib.hid rfl) (Lib.hid rfl) (Lib.hid rfl) HS1 (Lib.hid rfl) (yes n6) (no n4) (no' n4) HS
    · have h7 := hng.resolve_left n6
      exact turns_min2 a b _ w ha hb hx HX HY C1 C2 C3 (no n1) (no n2) Z1 Z2 HN ez (no n3) Fm.ngt_lt Fm.ngt_lt (Lib.hid rfl) (Lib.hid rfl) (Lib.hid rfl) HS1 (Lib.hid rfl) (no n6) (yes h7.1) (yes h7.2) (no n4) (no' n4) HS
  have ez : ((a : Int) != 9223372036854775808) = true := by simp; omega
  by_cases n6 : Fm.add (Fm.ngt a) (Fm.ngt b) = Fm.ngt (Fm.add a b)
  · exact turns_fin1 a b _ w ha hb hx HX HY C1 C2 C3 (no n1) (no n2) Z1 Z2 HN ez (Lib.hid (Fm.add_zero' ha n1 n7)) (no n3) Fm.ngt_lt Fm.ngt_lt (Lib.hid rfl) (Lib.hid rfl) (Lib.hid rfl) HS1 (Lib.hid rfl) (yes n6) (no n4) (no' n4) HS
  · have h7 := hng.resolve_left n6
    exact turns_fin2 a b _ w ha hb hx HX HY C1 C2 C3 (no n1) (no n2) Z1 Z2 HN ez (Lib.hid (Fm.add_zero' ha n1 n7)) (no n3) Fm.ngt_lt Fm.ngt_lt (Lib.hid rfl) (Lib.hid rfl) (Lib.hid rfl) HS1 (Lib.hid rfl) (no n6) (yes h7.1) (yes h7.2) (no n4) (no' n4) HS
end Go.Proofs.Ytkpljnfakidjeaa
