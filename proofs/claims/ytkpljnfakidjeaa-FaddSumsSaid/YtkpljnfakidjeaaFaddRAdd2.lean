/-
  Doubles added: the reference's Add, two finite ones, the first one 0.
-/
import Derived.Test.YtkpljnfakidjeaaFaddRefA
namespace Go.Proofs.Ytkpljnfakidjeaa
open Go.RowKit

set_option maxRecDepth 1000000 in
set_option maxHeartbeats 4000000 in
theorem radd_2_0_same (a b R : Nat) (w : World) (ha : a < 2^64) (hb : b < 2^64) {c1 c2 : Int} (C1 : Hid (c1 = (Fm.cls a : Nat))) (C2 : Hid (c2 = (Fm.cls b : Nat))) (e1 : (c1 == 4) = false) (e2 : (c2 == 4) = false) (e3 : (c1 == 3) = false) (e4 : (c2 == 3) = false) {A B : Nat} (HA : Hid (Fm.sz a = A)) (HB : Hid (Fm.sz b = B)) (z1 : ((A : Int) == 0) = true) (z2 : ((B : Int) == 0) = false) (lt : A < B) {m n d N : Nat} {e f : Int} {na nb : Bool} (PM : Hid (Fm.pm (Fm.sz b) = m)) (PE : Hid ((Fm.pe (Fm.sz b) : Int) - 1075 = e)) (QM : Hid (Fm.pm (Fm.sz a) = n)) (QE : Hid ((Fm.pe (Fm.sz a) : Int) - 1075 = f)) (lm : m < 9007199254740992) (_ln : n < 9007199254740992) (b1 : -1074 ≤ e) (b2 : e ≤ 971) (b3 : -1074 ≤ f) (b4 : f ≤ 971) (NA : Hid (decide (Fm.sg b = 1) = na)) (NB : Hid (decide (Fm.sg a = 1) = nb)) (hd : e - 10 - (f - 10) = (d : Int)) (d0 : ¬ 0 < d) (hN : (n : Int) * 1024 = (N : Int)) (sn : (na == nb) = true) (lN : N ≤ 9223372036854775808) {S j : Nat} (KK : Hid (Fm.K S j (m * 1024 + N))) (SS : Hid (0 < S)) (jj : j ≤ 2045) (JE : Hid (e - 10 = (j : Int) - 1084)) (HR : Hid ((if na then 1 else 0) * 2^63 + Fm.rnd S = R)) :
    Calls Try.prog 13 #[.int .u64 a, .int .u64 b] w fun e w' => e = .returned (.int .u64 R) ∧ w = w' := by
  go_enter Try.func13, Try.ntmps13
  go_wp2_with fail
  refine (rclass_is a _ ha C1).mono ?_; rintro e w' ⟨rfl, rfl⟩
  go_wp2_with fail
  refine (rclass_is b _ hb C2).mono ?_; rintro e w' ⟨rfl, rfl⟩
  go_wp2_with fail
  refine (rclass_is a _ ha C1).mono ?_; rintro e w' ⟨rfl, rfl⟩
  go_wp2_with fail
  refine (rclass_is a _ ha C1).mono ?_; rintro e w' ⟨rfl, rfl⟩
  go_wp2_with fail
  refine (rclass_is b _ hb C2).mono ?_; rintro e w' ⟨rfl, rfl⟩
  go_wp2_with fail
  refine (rsize_at a A _ ha HA).mono ?_; rintro e w' ⟨rfl, rfl⟩
  go_wp2_with fail
  refine (rsize_at b B _ hb HB).mono ?_; rintro e w' ⟨rfl, rfl⟩
  go_wp2_with fail
  refine (rsize_at a A _ ha HA).mono ?_; rintro e w' ⟨rfl, rfl⟩
  go_wp2_with fail
  refine (rsize_at b B _ hb HB).mono ?_; rintro e w' ⟨rfl, rfl⟩
  go_wp2_with fail
  refine (rparts_at b m e _ hb PM PE).mono ?_; rintro e w' ⟨rfl, rfl⟩
  go_wp2_with fail
  refine (rparts_at a n f _ ha QM QE).mono ?_; rintro e w' ⟨rfl, rfl⟩
  go_wp2_with fail
  refine (rneg_at b na _ hb NA).mono ?_; rintro e w' ⟨rfl, rfl⟩
  go_wp2_with fail
  refine (rneg_at a nb _ ha NB).mono ?_; rintro e w' ⟨rfl, rfl⟩
  go_wp2_with fail
  refine (rneg_at b na _ hb NA).mono ?_; rintro e w' ⟨rfl, rfl⟩
  go_wp2_with fail
  refine (rround_to na (m * 1024 + N) j S R _ _ KK.out SS.out jj JE.out HR (by omega)).mono ?_; rintro e w' ⟨rfl, rfl⟩
  go_wp2_with fail
  go_ret
  exact ⟨rfl, rfl⟩
set_option maxRecDepth 1000000 in
set_option maxHeartbeats 4000000 in
theorem radd_2_0_diff (a b R : Nat) (w : World) (ha : a < 2^64) (hb : b < 2^64) {c1 c2 : Int} (C1 : Hid (c1 = (Fm.cls a : Nat))) (C2 : Hid (c2 = (Fm.cls b : Nat))) (e1 : (c1 == 4) = false) (e2 : (c2 == 4) = false) (e3 : (c1 == 3) = false) (e4 : (c2 == 3) = false) {A B : Nat} (HA : Hid (Fm.sz a = A)) (HB : Hid (Fm.sz b = B)) (z1 : ((A : Int) == 0) = true) (z2 : ((B : Int) == 0) = false) (lt : A < B) {m n d N : Nat} {e f : Int} {na nb : Bool} (PM : Hid (Fm.pm (Fm.sz b) = m)) (PE : Hid ((Fm.pe (Fm.sz b) : Int) - 1075 = e)) (QM : Hid (Fm.pm (Fm.sz a) = n)) (QE : Hid ((Fm.pe (Fm.sz a) : Int) - 1075 = f)) (lm : m < 9007199254740992) (_ln : n < 9007199254740992) (b1 : -1074 ≤ e) (b2 : e ≤ 971) (b3 : -1074 ≤ f) (b4 : f ≤ 971) (NA : Hid (decide (Fm.sg b = 1) = na)) (NB : Hid (decide (Fm.sg a = 1) = nb)) (hd : e - 10 - (f - 10) = (d : Int)) (d0 : ¬ 0 < d) (hN : (n : Int) * 1024 = (N : Int)) (sn : (na == nb) = false) (lN : N ≤ m * 1024) (ne : ((m : Int) * 1024 == (N : Int)) = false) {S j : Nat} (KK : Hid (Fm.K S j (m * 1024 - N))) (SS : Hid (0 < S)) (jj : j ≤ 2045) (JE : Hid (e - 10 = (j : Int) - 1084)) (HR : Hid ((if na then 1 else 0) * 2^63 + Fm.rnd S = R)) :
    Calls Try.prog 13 #[.int .u64 a, .int .u64 b] w fun e w' => e = .returned (.int .u64 R) ∧ w = w' := by
  go_enter Try.func13, Try.ntmps13
  go_wp2_with fail
  refine (rclass_is a _ ha C1).mono ?_; rintro e w' ⟨rfl, rfl⟩
  go_wp2_with fail
  refine (rclass_is b _ hb C2).mono ?_; rintro e w' ⟨rfl, rfl⟩
  go_wp2_with fail
  refine (rclass_is a _ ha C1).mono ?_; rintro e w' ⟨rfl, rfl⟩
  go_wp2_with fail
  refine (rclass_is a _ ha C1).mono ?_; rintro e w' ⟨rfl, rfl⟩
  go_wp2_with fail
  refine (rclass_is b _ hb C2).mono ?_; rintro e w' ⟨rfl, rfl⟩
  go_wp2_with fail
  refine (rsize_at a A _ ha HA).mono ?_; rintro e w' ⟨rfl, rfl⟩
  go_wp2_with fail
  refine (rsize_at b B _ hb HB).mono ?_; rintro e w' ⟨rfl, rfl⟩
  go_wp2_with fail
  refine (rsize_at a A _ ha HA).mono ?_; rintro e w' ⟨rfl, rfl⟩
  go_wp2_with fail
  refine (rsize_at b B _ hb HB).mono ?_; rintro e w' ⟨rfl, rfl⟩
  go_wp2_with fail
  refine (rparts_at b m e _ hb PM PE).mono ?_; rintro e w' ⟨rfl, rfl⟩
  go_wp2_with fail
  refine (rparts_at a n f _ ha QM QE).mono ?_; rintro e w' ⟨rfl, rfl⟩
  go_wp2_with fail
  refine (rneg_at b na _ hb NA).mono ?_; rintro e w' ⟨rfl, rfl⟩
  go_wp2_with fail
  refine (rneg_at a nb _ ha NB).mono ?_; rintro e w' ⟨rfl, rfl⟩
  go_wp2_with fail
  refine (rneg_at b na _ hb NA).mono ?_; rintro e w' ⟨rfl, rfl⟩
  go_wp2_with fail
  refine (rround_to na (m * 1024 - N) j S R _ _ KK.out SS.out jj JE.out HR (by omega)).mono ?_; rintro e w' ⟨rfl, rfl⟩
  go_wp2_with fail
  go_ret
  exact ⟨rfl, rfl⟩
set_option maxRecDepth 1000000 in
set_option maxHeartbeats 4000000 in
theorem radd_2_0_null (a b R : Nat) (w : World) (ha : a < 2^64) (hb : b < 2^64) {c1 c2 : Int} (C1 : Hid (c1 = (Fm.cls a : Nat))) (C2 : Hid (c2 = (Fm.cls b : Nat))) (e1 : (c1 == 4) = false) (e2 : (c2 == 4) = false) (e3 : (c1 == 3) = false) (e4 : (c2 == 3) = false) {A B : Nat} (HA : Hid (Fm.sz a = A)) (HB : Hid (Fm.sz b = B)) (z1 : ((A : Int) == 0) = true) (z2 : ((B : Int) == 0) = false) (lt : A < B) {m n d N : Nat} {e f : Int} {na nb : Bool} (PM : Hid (Fm.pm (Fm.sz b) = m)) (PE : Hid ((Fm.pe (Fm.sz b) : Int) - 1075 = e)) (QM : Hid (Fm.pm (Fm.sz a) = n)) (QE : Hid ((Fm.pe (Fm.sz a) : Int) - 1075 = f)) (lm : m < 9007199254740992) (ln : n < 9007199254740992) (b1 : -1074 ≤ e) (b2 : e ≤ 971) (b3 : -1074 ≤ f) (b4 : f ≤ 971) (NA : Hid (decide (Fm.sg b = 1) = na)) (NB : Hid (decide (Fm.sg a = 1) = nb)) (hd : e - 10 - (f - 10) = (d : Int)) (d0 : ¬ 0 < d) (hN : (n : Int) * 1024 = (N : Int)) (sn : (na == nb) = false) (ne : ((m : Int) * 1024 == (N : Int)) = true) (HR : Hid ((0 : Int) = (R : Int))) :
    Calls Try.prog 13 #[.int .u64 a, .int .u64 b] w fun e w' => e = .returned (.int .u64 R) ∧ w = w' := by
  go_enter Try.func13, Try.ntmps13
  go_wp2_with fail
  refine (rclass_is a _ ha C1).mono ?_; rintro e w' ⟨rfl, rfl⟩
  go_wp2_with fail
  refine (rclass_is b _ hb C2).mono ?_; rintro e w' ⟨rfl, rfl⟩
  go_wp2_with fail
  refine (rclass_is a _ ha C1).mono ?_; rintro e w' ⟨rfl, rfl⟩
  go_wp2_with fail
  refine (rclass_is a _ ha C1).mono ?_; rintro e w' ⟨rfl, rfl⟩
  go_wp2_with fail
  refine (rclass_is b _ hb C2).mono ?_; rintro e w' ⟨rfl, rfl⟩
  go_wp2_with fail
  refine (rsize_at a A _ ha HA).mono ?_; rintro e w' ⟨rfl, rfl⟩
  go_wp2_with fail
  refine (rsize_at b B _ hb HB).mono ?_; rintro e w' ⟨rfl, rfl⟩
  go_wp2_with fail
  refine (rsize_at a A _ ha HA).mono ?_; rintro e w' ⟨rfl, rfl⟩
  go_wp2_with fail
  refine (rsize_at b B _ hb HB).mono ?_; rintro e w' ⟨rfl, rfl⟩
  go_wp2_with fail
  refine (rparts_at b m e _ hb PM PE).mono ?_; rintro e w' ⟨rfl, rfl⟩
  go_wp2_with fail
  refine (rparts_at a n f _ ha QM QE).mono ?_; rintro e w' ⟨rfl, rfl⟩
  go_wp2_with fail
  refine (rneg_at b na _ hb NA).mono ?_; rintro e w' ⟨rfl, rfl⟩
  go_wp2_with fail
  refine (rneg_at a nb _ ha NB).mono ?_; rintro e w' ⟨rfl, rfl⟩
  go_wp2_with fail
  go_ret
  exact ⟨ret_int HR.out, rfl⟩
set_option maxRecDepth 1000000 in
set_option maxHeartbeats 4000000 in
theorem radd_2_1_same (a b R : Nat) (w : World) (ha : a < 2^64) (hb : b < 2^64) {c1 c2 : Int} (C1 : Hid (c1 = (Fm.cls a : Nat))) (C2 : Hid (c2 = (Fm.cls b : Nat))) (e1 : (c1 == 4) = false) (e2 : (c2 == 4) = false) (e3 : (c1 == 3) = false) (e4 : (c2 == 3) = false) {A B : Nat} (HA : Hid (Fm.sz a = A)) (HB : Hid (Fm.sz b = B)) (z1 : ((A : Int) == 0) = true) (z2 : ((B : Int) == 0) = false) (lt : A < B) {m n d N : Nat} {e f : Int} {na nb : Bool} (PM : Hid (Fm.pm (Fm.sz b) = m)) (PE : Hid ((Fm.pe (Fm.sz b) : Int) - 1075 = e)) (QM : Hid (Fm.pm (Fm.sz a) = n)) (QE : Hid ((Fm.pe (Fm.sz a) : Int) - 1075 = f)) (lm : m < 9007199254740992) (ln : n < 9007199254740992) (b1 : -1074 ≤ e) (b2 : e ≤ 971) (b3 : -1074 ≤ f) (b4 : f ≤ 971) (NA : Hid (decide (Fm.sg b = 1) = na)) (NB : Hid (decide (Fm.sg a = 1) = nb)) (hd : e - 10 - (f - 10) = (d : Int)) (d0 : 63 < d) (hn : 0 < n) (hN : bits .or .u64 0 1 = (N : Int)) (sn : (na == nb) = true) (lN : N ≤ 9223372036854775808) {S j : Nat} (KK : Hid (Fm.K S j (m * 1024 + N))) (SS : Hid (0 < S)) (jj : j ≤ 2045) (JE : Hid (e - 10 = (j : Int) - 1084)) (HR : Hid ((if na then 1 else 0) * 2^63 + Fm.rnd S = R)) :
    Calls Try.prog 13 #[.int .u64 a, .int .u64 b] w fun e w' => e = .returned (.int .u64 R) ∧ w = w' := by
  go_enter Try.func13, Try.ntmps13
  go_wp2_with fail
  refine (rclass_is a _ ha C1).mono ?_; rintro e w' ⟨rfl, rfl⟩
  go_wp2_with fail
  refine (rclass_is b _ hb C2).mono ?_; rintro e w' ⟨rfl, rfl⟩
  go_wp2_with fail
  refine (rclass_is a _ ha C1).mono ?_; rintro e w' ⟨rfl, rfl⟩
  go_wp2_with fail
  refine (rclass_is a _ ha C1).mono ?_; rintro e w' ⟨rfl, rfl⟩
  go_wp2_with fail
  refine (rclass_is b _ hb C2).mono ?_; rintro e w' ⟨rfl, rfl⟩
  go_wp2_with fail
  refine (rsize_at a A _ ha HA).mono ?_; rintro e w' ⟨rfl, rfl⟩
  go_wp2_with fail
  refine (rsize_at b B _ hb HB).mono ?_; rintro e w' ⟨rfl, rfl⟩
  go_wp2_with fail
  refine (rsize_at a A _ ha HA).mono ?_; rintro e w' ⟨rfl, rfl⟩
  go_wp2_with fail
  refine (rsize_at b B _ hb HB).mono ?_; rintro e w' ⟨rfl, rfl⟩
  go_wp2_with fail
  refine (rparts_at b m e _ hb PM PE).mono ?_; rintro e w' ⟨rfl, rfl⟩
  go_wp2_with fail
  refine (rparts_at a n f _ ha QM QE).mono ?_; rintro e w' ⟨rfl, rfl⟩
  go_wp2_with fail
  refine (rneg_at b na _ hb NA).mono ?_; rintro e w' ⟨rfl, rfl⟩
  go_wp2_with fail
  refine (rneg_at a nb _ ha NB).mono ?_; rintro e w' ⟨rfl, rfl⟩
  go_wp2_with fail
  refine (rneg_at b na _ hb NA).mono ?_; rintro e w' ⟨rfl, rfl⟩
  go_wp2_with fail
  refine (rround_to na (m * 1024 + N) j S R _ _ KK.out SS.out jj JE.out HR (by omega)).mono ?_; rintro e w' ⟨rfl, rfl⟩
  go_wp2_with fail
  go_ret
  exact ⟨rfl, rfl⟩
set_option maxRecDepth 1000000 in
set_option maxHeartbeats 4000000 in
theorem radd_2_1_diff (a b R : Nat) (w : World) (ha : a < 2^64) (hb : b < 2^64) {c1 c2 : Int} (C1 : Hid (c1 = (Fm.cls a : Nat))) (C2 : Hid (c2 = (Fm.cls b : Nat))) (e1 : (c1 == 4) = false) (e2 : (c2 == 4) = false) (e3 : (c1 == 3) = false) (e4 : (c2 == 3) = false) {A B : Nat} (HA : Hid (Fm.sz a = A)) (HB : Hid (Fm.sz b = B)) (z1 : ((A : Int) == 0) = true) (z2 : ((B : Int) == 0) = false) (lt : A < B) {m n d N : Nat} {e f : Int} {na nb : Bool} (PM : Hid (Fm.pm (Fm.sz b) = m)) (PE : Hid ((Fm.pe (Fm.sz b) : Int) - 1075 = e)) (QM : Hid (Fm.pm (Fm.sz a) = n)) (QE : Hid ((Fm.pe (Fm.sz a) : Int) - 1075 = f)) (lm : m < 9007199254740992) (ln : n < 9007199254740992) (b1 : -1074 ≤ e) (b2 : e ≤ 971) (b3 : -1074 ≤ f) (b4 : f ≤ 971) (NA : Hid (decide (Fm.sg b = 1) = na)) (NB : Hid (decide (Fm.sg a = 1) = nb)) (hd : e - 10 - (f - 10) = (d : Int)) (d0 : 63 < d) (hn : 0 < n) (hN : bits .or .u64 0 1 = (N : Int)) (sn : (na == nb) = false) (lN : N ≤ m * 1024) (ne : ((m : Int) * 1024 == (N : Int)) = false) {S j : Nat} (KK : Hid (Fm.K S j (m * 1024 - N))) (SS : Hid (0 < S)) (jj : j ≤ 2045) (JE : Hid (e - 10 = (j : Int) - 1084)) (HR : Hid ((if na then 1 else 0) * 2^63 + Fm.rnd S = R)) :
    Calls Try.prog 13 #[.int .u64 a, .int .u64 b] w fun e w' => e = .returned (.int .u64 R) ∧ w = w' := by
  go_enter Try.func13, Try.ntmps13
  go_wp2_with fail
  refine (rclass_is a _ ha C1).mono ?_; rintro e w' ⟨rfl, rfl⟩
  go_wp2_with fail
  refine (rclass_is b _ hb C2).mono ?_; rintro e w' ⟨rfl, rfl⟩
  go_wp2_with fail
  refine (rclass_is a _ ha C1).mono ?_; rintro e w' ⟨rfl, rfl⟩
  go_wp2_with fail
  refine (rclass_is a _ ha C1).mono ?_; rintro e w' ⟨rfl, rfl⟩
  go_wp2_with fail
  refine (rclass_is b _ hb C2).mono ?_; rintro e w' ⟨rfl, rfl⟩
  go_wp2_with fail
  refine (rsize_at a A _ ha HA).mono ?_; rintro e w' ⟨rfl, rfl⟩
  go_wp2_with fail
  refine (rsize_at b B _ hb HB).mono ?_; rintro e w' ⟨rfl, rfl⟩
  go_wp2_with fail
  refine (rsize_at a A _ ha HA).mono ?_; rintro e w' ⟨rfl, rfl⟩
  go_wp2_with fail
  refine (rsize_at b B _ hb HB).mono ?_; rintro e w' ⟨rfl, rfl⟩
  go_wp2_with fail
  refine (rparts_at b m e _ hb PM PE).mono ?_; rintro e w' ⟨rfl, rfl⟩
  go_wp2_with fail
  refine (rparts_at a n f _ ha QM QE).mono ?_; rintro e w' ⟨rfl, rfl⟩
  go_wp2_with fail
  refine (rneg_at b na _ hb NA).mono ?_; rintro e w' ⟨rfl, rfl⟩
  go_wp2_with fail
  refine (rneg_at a nb _ ha NB).mono ?_; rintro e w' ⟨rfl, rfl⟩
  go_wp2_with fail
  refine (rneg_at b na _ hb NA).mono ?_; rintro e w' ⟨rfl, rfl⟩
  go_wp2_with fail
  refine (rround_to na (m * 1024 - N) j S R _ _ KK.out SS.out jj JE.out HR (by omega)).mono ?_; rintro e w' ⟨rfl, rfl⟩
  go_wp2_with fail
  go_ret
  exact ⟨rfl, rfl⟩
set_option maxRecDepth 1000000 in
set_option maxHeartbeats 4000000 in
theorem radd_2_1_null (a b R : Nat) (w : World) (ha : a < 2^64) (hb : b < 2^64) {c1 c2 : Int} (C1 : Hid (c1 = (Fm.cls a : Nat))) (C2 : Hid (c2 = (Fm.cls b : Nat))) (e1 : (c1 == 4) = false) (e2 : (c2 == 4) = false) (e3 : (c1 == 3) = false) (e4 : (c2 == 3) = false) {A B : Nat} (HA : Hid (Fm.sz a = A)) (HB : Hid (Fm.sz b = B)) (z1 : ((A : Int) == 0) = true) (z2 : ((B : Int) == 0) = false) (lt : A < B) {m n d N : Nat} {e f : Int} {na nb : Bool} (PM : Hid (Fm.pm (Fm.sz b) = m)) (PE : Hid ((Fm.pe (Fm.sz b) : Int) - 1075 = e)) (QM : Hid (Fm.pm (Fm.sz a) = n)) (QE : Hid ((Fm.pe (Fm.sz a) : Int) - 1075 = f)) (lm : m < 9007199254740992) (ln : n < 9007199254740992) (b1 : -1074 ≤ e) (b2 : e ≤ 971) (b3 : -1074 ≤ f) (b4 : f ≤ 971) (NA : Hid (decide (Fm.sg b = 1) = na)) (NB : Hid (decide (Fm.sg a = 1) = nb)) (hd : e - 10 - (f - 10) = (d : Int)) (d0 : 63 < d) (hn : 0 < n) (hN : bits .or .u64 0 1 = (N : Int)) (sn : (na == nb) = false) (ne : ((m : Int) * 1024 == (N : Int)) = true) (HR : Hid ((0 : Int) = (R : Int))) :
    Calls Try.prog 13 #[.int .u64 a, .int .u64 b] w fun e w' => e = .returned (.int .u64 R) ∧ w = w' := by
  go_enter Try.func13, Try.ntmps13
  go_wp2_with fail
  refine (rclass_is a _ ha C1).mono ?_; rintro e w' ⟨rfl, rfl⟩
  go_wp2_with fail
  refine (rclass_is b _ hb C2).mono ?_; rintro e w' ⟨rfl, rfl⟩
  go_wp2_with fail
  refine (rclass_is a _ ha C1).mono ?_; rintro e w' ⟨rfl, rfl⟩
  go_wp2_with fail
  refine (rclass_is a _ ha C1).mono ?_; rintro e w' ⟨rfl, rfl⟩
  go_wp2_with fail
  refine (rclass_is b _ hb C2).mono ?_; rintro e w' ⟨rfl, rfl⟩
  go_wp2_with fail
  refine (rsize_at a A _ ha HA).mono ?_; rintro e w' ⟨rfl, rfl⟩
  go_wp2_with fail
  refine (rsize_at b B _ hb HB).mono ?_; rintro e w' ⟨rfl, rfl⟩
  go_wp2_with fail
  refine (rsize_at a A _ ha HA).mono ?_; rintro e w' ⟨rfl, rfl⟩
  go_wp2_with fail
  refine (rsize_at b B _ hb HB).mono ?_; rintro e w' ⟨rfl, rfl⟩
  go_wp2_with fail
  refine (rparts_at b m e _ hb PM PE).mono ?_; rintro e w' ⟨rfl, rfl⟩
  go_wp2_with fail
  refine (rparts_at a n f _ ha QM QE).mono ?_; rintro e w' ⟨rfl, rfl⟩
  go_wp2_with fail
  refine (rneg_at b na _ hb NA).mono ?_; rintro e w' ⟨rfl, rfl⟩
  go_wp2_with fail
  refine (rneg_at a nb _ ha NB).mono ?_; rintro e w' ⟨rfl, rfl⟩
  go_wp2_with fail
  go_ret
  exact ⟨ret_int HR.out, rfl⟩
set_option maxRecDepth 1000000 in
set_option maxHeartbeats 4000000 in
theorem radd_2_2_same (a b R : Nat) (w : World) (ha : a < 2^64) (hb : b < 2^64) {c1 c2 : Int} (C1 : Hid (c1 = (Fm.cls a : Nat))) (C2 : Hid (c2 = (Fm.cls b : Nat))) (e1 : (c1 == 4) = false) (e2 : (c2 == 4) = false) (e3 : (c1 == 3) = false) (e4 : (c2 == 3) = false) {A B : Nat} (HA : Hid (Fm.sz a = A)) (HB : Hid (Fm.sz b = B)) (z1 : ((A : Int) == 0) = true) (z2 : ((B : Int) == 0) = false) (lt : A < B) {m n d N : Nat} {e f : Int} {na nb : Bool} (PM : Hid (Fm.pm (Fm.sz b) = m)) (PE : Hid ((Fm.pe (Fm.sz b) : Int) - 1075 = e)) (QM : Hid (Fm.pm (Fm.sz a) = n)) (QE : Hid ((Fm.pe (Fm.sz a) : Int) - 1075 = f)) (lm : m < 9007199254740992) (ln : n < 9007199254740992) (b1 : -1074 ≤ e) (b2 : e ≤ 971) (b3 : -1074 ≤ f) (b4 : f ≤ 971) (NA : Hid (decide (Fm.sg b = 1) = na)) (NB : Hid (decide (Fm.sg a = 1) = nb)) (hd : e - 10 - (f - 10) = (d : Int)) (d0 : 63 < d) (hn : ¬ 0 < n) (hN : bits .or .u64 0 0 = (N : Int)) (sn : (na == nb) = true) (lN : N ≤ 9223372036854775808) {S j : Nat} (KK : Hid (Fm.K S j (m * 1024 + N))) (SS : Hid (0 < S)) (jj : j ≤ 2045) (JE : Hid (e - 10 = (j : Int) - 1084)) (HR : Hid ((if na then 1 else 0) * 2^63 + Fm.rnd S = R)) :
    Calls Try.prog 13 #[.int .u64 a, .int .u64 b] w fun e w' => e = .returned (.int .u64 R) ∧ w = w' := by
  go_enter Try.func13, Try.ntmps13
  go_wp2_with fail
  refine (rclass_is a _ ha C1).mono ?_; rintro e w' ⟨rfl, rfl⟩
  go_wp2_with fail
  refine (rclass_is b _ hb C2).mono ?_; rintro e w' ⟨rfl, rfl⟩
  go_wp2_with fail
  refine (rclass_is a _ ha C1).mono ?_; rintro e w' ⟨rfl, rfl⟩
  go_wp2_with fail
  refine (rclass_is a _ ha C1).mono ?_; rintro e w' ⟨rfl, rfl⟩
  go_wp2_with fail
  refine (rclass_is b _ hb C2).mono ?_; rintro e w' ⟨rfl, rfl⟩
  go_wp2_with fail
  refine (rsize_at a A _ ha HA).mono ?_; rintro e w' ⟨rfl, rfl⟩
  go_wp2_with fail
  refine (rsize_at b B _ hb HB).mono ?_; rintro e w' ⟨rfl, rfl⟩
  go_wp2_with fail
  refine (rsize_at a A _ ha HA).mono ?_; rintro e w' ⟨rfl, rfl⟩
  go_wp2_with fail
  refine (rsize_at b B _ hb HB).mono ?_; rintro e w' ⟨rfl, rfl⟩
  go_wp2_with fail
  refine (rparts_at b m e _ hb PM PE).mono ?_; rintro e w' ⟨rfl, rfl⟩
  go_wp2_with fail
  refine (rparts_at a n f _ ha QM QE).mono ?_; rintro e w' ⟨rfl, rfl⟩
  go_wp2_with fail
  refine (rneg_at b na _ hb NA).mono ?_; rintro e w' ⟨rfl, rfl⟩
  go_wp2_with fail
  refine (rneg_at a nb _ ha NB).mono ?_; rintro e w' ⟨rfl, rfl⟩
  go_wp2_with fail
  refine (rneg_at b na _ hb NA).mono ?_; rintro e w' ⟨rfl, rfl⟩
  go_wp2_with fail
  refine (rround_to na (m * 1024 + N) j S R _ _ KK.out SS.out jj JE.out HR (by omega)).mono ?_; rintro e w' ⟨rfl, rfl⟩
  go_wp2_with fail
  go_ret
  exact ⟨rfl, rfl⟩
set_option maxRecDepth 1000000 in
set_option maxHeartbeats 4000000 in
theorem radd_2_2_diff (a b R : Nat) (w : World) (ha : a < 2^64) (hb : b < 2^64) {c1 c2 : Int} (C1 : Hid (c1 = (Fm.cls a : Nat))) (C2 : Hid (c2 = (Fm.cls b : Nat))) (e1 : (c1 == 4) = false) (e2 : (c2 == 4) = false) (e3 : (c1 == 3) = false) (e4 : (c2 == 3) = false) {A B : Nat} (HA : Hid (Fm.sz a = A)) (HB : Hid (Fm.sz b = B)) (z1 : ((A : Int) == 0) = true) (z2 : ((B : Int) == 0) = false) (lt : A < B) {m n d N : Nat} {e f : Int} {na nb : Bool} (PM : Hid (Fm.pm (Fm.sz b) = m)) (PE : Hid ((Fm.pe (Fm.sz b) : Int) - 1075 = e)) (QM : Hid (Fm.pm (Fm.sz a) = n)) (QE : Hid ((Fm.pe (Fm.sz a) : Int) - 1075 = f)) (lm : m < 9007199254740992) (ln : n < 9007199254740992) (b1 : -1074 ≤ e) (b2 : e ≤ 971) (b3 : -1074 ≤ f) (b4 : f ≤ 971) (NA : Hid (decide (Fm.sg b = 1) = na)) (NB : Hid (decide (Fm.sg a = 1) = nb)) (hd : e - 10 - (f - 10) = (d : Int)) (d0 : 63 < d) (hn : ¬ 0 < n) (hN : bits .or .u64 0 0 = (N : Int)) (sn : (na == nb) = false) (lN : N ≤ m * 1024) (ne : ((m : Int) * 1024 == (N : Int)) = false) {S j : Nat} (KK : Hid (Fm.K S j (m * 1024 - N))) (SS : Hid (0 < S)) (jj : j ≤ 2045) (JE : Hid (e - 10 = (j : Int) - 1084)) (HR : Hid ((if na then 1 else 0) * 2^63 + Fm.rnd S = R)) :
    Calls Try.prog 13 #[.int .u64 a, .int .u64 b] w fun e w' => e = .returned (.int .u64 R) ∧ w = w' := by
  go_enter Try.func13, Try.ntmps13
  go_wp2_with fail
  refine (rclass_is a _ ha C1).mono ?_; rintro e w' ⟨rfl, rfl⟩
  go_wp2_with fail
  refine (rclass_is b _ hb C2).mono ?_; rintro e w' ⟨rfl, rfl⟩
  go_wp2_with fail
  refine (rclass_is a _ ha C1).mono ?_; rintro e w' ⟨rfl, rfl⟩
  go_wp2_with fail
  refine (rclass_is a _ ha C1).mono ?_; rintro e w' ⟨rfl, rfl⟩
  go_wp2_with fail
  refine (rclass_is b _ hb C2).mono ?_; rintro e w' ⟨rfl, rfl⟩
  go_wp2_with fail
  refine (rsize_at a A _ ha HA).mono ?_; rintro e w' ⟨rfl, rfl⟩
  go_wp2_with fail
  refine (rsize_at b B _ hb HB).mono ?_; rintro e w' ⟨rfl, rfl⟩
  go_wp2_with fail
  refine (rsize_at a A _ ha HA).mono ?_; rintro e w' ⟨rfl, rfl⟩
  go_wp2_with fail
  refine (rsize_at b B _ hb HB).mono ?_; rintro e w' ⟨rfl, rfl⟩
  go_wp2_with fail
  refine (rparts_at b m e _ hb PM PE).mono ?_; rintro e w' ⟨rfl, rfl⟩
  go_wp2_with fail
  refine (rparts_at a n f _ ha QM QE).mono ?_; rintro e w' ⟨rfl, rfl⟩
  go_wp2_with fail
  refine (rneg_at b na _ hb NA).mono ?_; rintro e w' ⟨rfl, rfl⟩
  go_wp2_with fail
  refine (rneg_at a nb _ ha NB).mono ?_; rintro e w' ⟨rfl, rfl⟩
  go_wp2_with fail
  refine (rneg_at b na _ hb NA).mono ?_; rintro e w' ⟨rfl, rfl⟩
  go_wp2_with fail
  refine (rround_to na (m * 1024 - N) j S R _ _ KK.out SS.out jj JE.out HR (by omega)).mono ?_; rintro e w' ⟨rfl, rfl⟩
  go_wp2_with fail
  go_ret
  exact ⟨rfl, rfl⟩
set_option maxRecDepth 1000000 in
set_option maxHeartbeats 4000000 in
theorem radd_2_2_null (a b R : Nat) (w : World) (ha : a < 2^64) (hb : b < 2^64) {c1 c2 : Int} (C1 : Hid (c1 = (Fm.cls a : Nat))) (C2 : Hid (c2 = (Fm.cls b : Nat))) (e1 : (c1 == 4) = false) (e2 : (c2 == 4) = false) (e3 : (c1 == 3) = false) (e4 : (c2 == 3) = false) {A B : Nat} (HA : Hid (Fm.sz a = A)) (HB : Hid (Fm.sz b = B)) (z1 : ((A : Int) == 0) = true) (z2 : ((B : Int) == 0) = false) (lt : A < B) {m n d N : Nat} {e f : Int} {na nb : Bool} (PM : Hid (Fm.pm (Fm.sz b) = m)) (PE : Hid ((Fm.pe (Fm.sz b) : Int) - 1075 = e)) (QM : Hid (Fm.pm (Fm.sz a) = n)) (QE : Hid ((Fm.pe (Fm.sz a) : Int) - 1075 = f)) (lm : m < 9007199254740992) (ln : n < 9007199254740992) (b1 : -1074 ≤ e) (b2 : e ≤ 971) (b3 : -1074 ≤ f) (b4 : f ≤ 971) (NA : Hid (decide (Fm.sg b = 1) = na)) (NB : Hid (decide (Fm.sg a = 1) = nb)) (hd : e - 10 - (f - 10) = (d : Int)) (d0 : 63 < d) (hn : ¬ 0 < n) (hN : bits .or .u64 0 0 = (N : Int)) (sn : (na == nb) = false) (ne : ((m : Int) * 1024 == (N : Int)) = true) (HR : Hid ((0 : Int) = (R : Int))) :
    Calls Try.prog 13 #[.int .u64 a, .int .u64 b] w fun e w' => e = .returned (.int .u64 R) ∧ w = w' := by
  go_enter Try.func13, Try.ntmps13
  go_wp2_with fail
  refine (rclass_is a _ ha C1).mono ?_; rintro e w' ⟨rfl, rfl⟩
  go_wp2_with fail
  refine (rclass_is b _ hb C2).mono ?_; rintro e w' ⟨rfl, rfl⟩
  go_wp2_with fail
  refine (rclass_is a _ ha C1).mono ?_; rintro e w' ⟨rfl, rfl⟩
  go_wp2_with fail
  refine (rclass_is a _ ha C1).mono ?_; rintro e w' ⟨rfl, rfl⟩
  go_wp2_with fail
  refine (rclass_is b _ hb C2).mono ?_; rintro e w' ⟨rfl, rfl⟩
  go_wp2_with fail
  refine (rsize_at a A _ ha HA).mono ?_; rintro e w' ⟨rfl, rfl⟩
  go_wp2_with fail
  refine (rsize_at b B _ hb HB).mono ?_; rintro e w' ⟨rfl, rfl⟩
  go_wp2_with fail
  refine (rsize_at a A _ ha HA).mono ?_; rintro e w' ⟨rfl, rfl⟩
  go_wp2_with fail
  refine (rsize_at b B _ hb HB).mono ?_; rintro e w' ⟨rfl, rfl⟩
  go_wp2_with fail
  refine (rparts_at b m e _ hb PM PE).mono ?_; rintro e w' ⟨rfl, rfl⟩
  go_wp2_with fail
  refine (rparts_at a n f _ ha QM QE).mono ?_; rintro e w' ⟨rfl, rfl⟩
  go_wp2_with fail
  refine (rneg_at b na _ hb NA).mono ?_; rintro e w' ⟨rfl, rfl⟩
  go_wp2_with fail
  refine (rneg_at a nb _ ha NB).mono ?_; rintro e w' ⟨rfl, rfl⟩
  go_wp2_with fail
  go_ret
  exact ⟨ret_int HR.out, rfl⟩
set_option maxRecDepth 1000000 in
set_option maxHeartbeats 4000000 in
theorem radd_2_3_same (a b R : Nat) (w : World) (ha : a < 2^64) (hb : b < 2^64) {c1 c2 : Int} (C1 : Hid (c1 = (Fm.cls a : Nat))) (C2 : Hid (c2 = (Fm.cls b : Nat))) (e1 : (c1 == 4) = false) (e2 : (c2 == 4) = false) (e3 : (c1 == 3) = false) (e4 : (c2 == 3) = false) {A B : Nat} (HA : Hid (Fm.sz a = A)) (HB : Hid (Fm.sz b = B)) (z1 : ((A : Int) == 0) = true) (z2 : ((B : Int) == 0) = false) (lt : A < B) {m n d N : Nat} {e f : Int} {na nb : Bool} (PM : Hid (Fm.pm (Fm.sz b) = m)) (PE : Hid ((Fm.pe (Fm.sz b) : Int) - 1075 = e)) (QM : Hid (Fm.pm (Fm.sz a) = n)) (QE : Hid ((Fm.pe (Fm.sz a) : Int) - 1075 = f)) (lm : m < 9007199254740992) (ln : n < 9007199254740992) (b1 : -1074 ≤ e) (b2 : e ≤ 971) (b3 : -1074 ≤ f) (b4 : f ≤ 971) (NA : Hid (decide (Fm.sg b = 1) = na)) (NB : Hid (decide (Fm.sg a = 1) = nb)) (hd : e - 10 - (f - 10) = (d : Int)) (d0 : 0 < d) (d1 : d ≤ 63) {q0 r0 : Nat} {M0 : Int} (e_q : (n : Int) * 1024 / 2 ^ d = (q0 : Int)) (e_m : IntKind.u64.wrap (IntKind.u64.wrap (2 ^ d) - 1) = M0) (e_r : bits .and .u64 ((n : Int) * 1024) M0 = (r0 : Int)) (r1 : 0 < r0) (hN : bits .or .u64 (q0 : Int) 1 = (N : Int)) (sn : (na == nb) = true) (lN : N ≤ 9223372036854775808) {S j : Nat} (KK : Hid (Fm.K S j (m * 1024 + N))) (SS : Hid (0 < S)) (jj : j ≤ 2045) (JE : Hid (e - 10 = (j : Int) - 1084)) (HR : Hid ((if na then 1 else 0) * 2^63 + Fm.rnd S = R)) :
    Calls Try.prog 13 #[.int .u64 a, .int .u64 b] w fun e w' => e = .returned (.int .u64 R) ∧ w = w' := by
  go_enter Try.func13, Try.ntmps13
  go_wp2_with fail
  refine (rclass_is a _ ha C1).mono ?_; rintro e w' ⟨rfl, rfl⟩
  go_wp2_with fail
  refine (rclass_is b _ hb C2).mono ?_; rintro e w' ⟨rfl, rfl⟩
  go_wp2_with fail
  refine (rclass_is a _ ha C1).mono ?_; rintro e w' ⟨rfl, rfl⟩
  go_wp2_with fail
  refine (rclass_is a _ ha C1).mono ?_; rintro e w' ⟨rfl, rfl⟩
  go_wp2_with fail
  refine (rclass_is b _ hb C2).mono ?_; rintro e w' ⟨rfl, rfl⟩
  go_wp2_with fail
  refine (rsize_at a A _ ha HA).mono ?_; rintro e w' ⟨rfl, rfl⟩
  go_wp2_with fail
  refine (rsize_at b B _ hb HB).mono ?_; rintro e w' ⟨rfl, rfl⟩
  go_wp2_with fail
  refine (rsize_at a A _ ha HA).mono ?_; rintro e w' ⟨rfl, rfl⟩
  go_wp2_with fail
  refine (rsize_at b B _ hb HB).mono ?_; rintro e w' ⟨rfl, rfl⟩
  go_wp2_with fail
  refine (rparts_at b m e _ hb PM PE).mono ?_; rintro e w' ⟨rfl, rfl⟩
  go_wp2_with fail
  refine (rparts_at a n f _ ha QM QE).mono ?_; rintro e w' ⟨rfl, rfl⟩
  go_wp2_with fail
  refine (rneg_at b na _ hb NA).mono ?_; rintro e w' ⟨rfl, rfl⟩
  go_wp2_with fail
  refine (rneg_at a nb _ ha NB).mono ?_; rintro e w' ⟨rfl, rfl⟩
  go_wp2_with fail
  refine (rneg_at b na _ hb NA).mono ?_; rintro e w' ⟨rfl, rfl⟩
  go_wp2_with fail
  refine (rround_to na (m * 1024 + N) j S R _ _ KK.out SS.out jj JE.out HR (by omega)).mono ?_; rintro e w' ⟨rfl, rfl⟩
  go_wp2_with fail
  go_ret
  exact ⟨rfl, rfl⟩
set_option maxRecDepth 1000000 in
set_option maxHeartbeats 4000000 in
theorem radd_2_3_diff (a b R : Nat) (w : World) (ha : a < 2^64) (hb : b < 2^64) {c1 c2 : Int} (C1 : Hid (c1 = (Fm.cls a : Nat))) (C2 : Hid (c2 = (Fm.cls b : Nat))) (e1 : (c1 == 4) = false) (e2 : (c2 == 4) = false) (e3 : (c1 == 3) = false) (e4 : (c2 == 3) = false) {A B : Nat} (HA : Hid (Fm.sz a = A)) (HB : Hid (Fm.sz b = B)) (z1 : ((A : Int) == 0) = true) (z2 : ((B : Int) == 0) = false) (lt : A < B) {m n d N : Nat} {e f : Int} {na nb : Bool} (PM : Hid (Fm.pm (Fm.sz b) = m)) (PE : Hid ((Fm.pe (Fm.sz b) : Int) - 1075 = e)) (QM : Hid (Fm.pm (Fm.sz a) = n)) (QE : Hid ((Fm.pe (Fm.sz a) : Int) - 1075 = f)) (lm : m < 9007199254740992) (ln : n < 9007199254740992) (b1 : -1074 ≤ e) (b2 : e ≤ 971) (b3 : -1074 ≤ f) (b4 : f ≤ 971) (NA : Hid (decide (Fm.sg b = 1) = na)) (NB : Hid (decide (Fm.sg a = 1) = nb)) (hd : e - 10 - (f - 10) = (d : Int)) (d0 : 0 < d) (d1 : d ≤ 63) {q0 r0 : Nat} {M0 : Int} (e_q : (n : Int) * 1024 / 2 ^ d = (q0 : Int)) (e_m : IntKind.u64.wrap (IntKind.u64.wrap (2 ^ d) - 1) = M0) (e_r : bits .and .u64 ((n : Int) * 1024) M0 = (r0 : Int)) (r1 : 0 < r0) (hN : bits .or .u64 (q0 : Int) 1 = (N : Int)) (sn : (na == nb) = false) (lN : N ≤ m * 1024) (ne : ((m : Int) * 1024 == (N : Int)) = false) {S j : Nat} (KK : Hid (Fm.K S j (m * 1024 - N))) (SS : Hid (0 < S)) (jj : j ≤ 2045) (JE : Hid (e - 10 = (j : Int) - 1084)) (HR : Hid ((if na then 1 else 0) * 2^63 + Fm.rnd S = R)) :
    Calls Try.prog 13 #[.int .u64 a, .int .u64 b] w fun e w' => e = .returned (.int .u64 R) ∧ w = w' := by
  go_enter Try.func13, Try.ntmps13
  go_wp2_with fail
  refine (rclass_is a _ ha C1).mono ?_; rintro e w' ⟨rfl, rfl⟩
  go_wp2_with fail
  refine (rclass_is b _ hb C2).mono ?_; rintro e w' ⟨rfl, rfl⟩
  go_wp2_with fail
  refine (rclass_is a _ ha C1).mono ?_; rintro e w' ⟨rfl, rfl⟩
  go_wp2_with fail
  refine (rclass_is a _ ha C1).mono ?_; rintro e w' ⟨rfl, rfl⟩
  go_wp2_with fail
  refine (rclass_is b _ hb C2).mono ?_; rintro e w' ⟨rfl, rfl⟩
  go_wp2_with fail
  refine (rsize_at a A _ ha HA).mono ?_; rintro e w' ⟨rfl, rfl⟩
  go_wp2_with fail
  refine (rsize_at b B _ hb HB).mono ?_; rintro e w' ⟨rfl, rfl⟩
  go_wp2_with fail
  refine (rsize_at a A _ ha HA).mono ?_; rintro e w' ⟨rfl, rfl⟩
  go_wp2_with fail
  refine (rsize_at b B _ hb HB).mono ?_; rintro e w' ⟨rfl, rfl⟩
  go_wp2_with fail
  refine (rparts_at b m e _ hb PM PE).mono ?_; rintro e w' ⟨rfl, rfl⟩
  go_wp2_with fail
  refine (rparts_at a n f _ ha QM QE).mono ?_; rintro e w' ⟨rfl, rfl⟩
  go_wp2_with fail
  refine (rneg_at b na _ hb NA).mono ?_; rintro e w' ⟨rfl, rfl⟩
  go_wp2_with fail
  refine (rneg_at a nb _ ha NB).mono ?_; rintro e w' ⟨rfl, rfl⟩
  go_wp2_with fail
  refine (rneg_at b na _ hb NA).mono ?_; rintro e w' ⟨rfl, rfl⟩
  go_wp2_with fail
  refine (rround_to na (m * 1024 - N) j S R _ _ KK.out SS.out jj JE.out HR (by omega)).mono ?_; rintro e w' ⟨rfl, rfl⟩
  go_wp2_with fail
  go_ret
  exact ⟨rfl, rfl⟩
set_option maxRecDepth 1000000 in
set_option maxHeartbeats 4000000 in
theorem radd_2_3_null (a b R : Nat) (w : World) (ha : a < 2^64) (hb : b < 2^64) {c1 c2 : Int} (C1 : Hid (c1 = (Fm.cls a : Nat))) (C2 : Hid (c2 = (Fm.cls b : Nat))) (e1 : (c1 == 4) = false) (e2 : (c2 == 4) = false) (e3 : (c1 == 3) = false) (e4 : (c2 == 3) = false) {A B : Nat} (HA : Hid (Fm.sz a = A)) (HB : Hid (Fm.sz b = B)) (z1 : ((A : Int) == 0) = true) (z2 : ((B : Int) == 0) = false) (lt : A < B) {m n d N : Nat} {e f : Int} {na nb : Bool} (PM : Hid (Fm.pm (Fm.sz b) = m)) (PE : Hid ((Fm.pe (Fm.sz b) : Int) - 1075 = e)) (QM : Hid (Fm.pm (Fm.sz a) = n)) (QE : Hid ((Fm.pe (Fm.sz a) : Int) - 1075 = f)) (lm : m < 9007199254740992) (ln : n < 9007199254740992) (b1 : -1074 ≤ e) (b2 : e ≤ 971) (b3 : -1074 ≤ f) (b4 : f ≤ 971) (NA : Hid (decide (Fm.sg b = 1) = na)) (NB : Hid (decide (Fm.sg a = 1) = nb)) (hd : e - 10 - (f - 10) = (d : Int)) (d0 : 0 < d) (d1 : d ≤ 63) {q0 r0 : Nat} {M0 : Int} (e_q : (n : Int) * 1024 / 2 ^ d = (q0 : Int)) (e_m : IntKind.u64.wrap (IntKind.u64.wrap (2 ^ d) - 1) = M0) (e_r : bits .and .u64 ((n : Int) * 1024) M0 = (r0 : Int)) (r1 : 0 < r0) (hN : bits .or .u64 (q0 : Int) 1 = (N : Int)) (sn : (na == nb) = false) (ne : ((m : Int) * 1024 == (N : Int)) = true) (HR : Hid ((0 : Int) = (R : Int))) :
    Calls Try.prog 13 #[.int .u64 a, .int .u64 b] w fun e w' => e = .returned (.int .u64 R) ∧ w = w' := by
  go_enter Try.func13, Try.ntmps13
  go_wp2_with fail
  refine (rclass_is a _ ha C1).mono ?_; rintro e w' ⟨rfl, rfl⟩
  go_wp2_with fail
  refine (rclass_is b _ hb C2).mono ?_; rintro e w' ⟨rfl, rfl⟩
  go_wp2_with fail
  refine (rclass_is a _ ha C1).mono ?_; rintro e w' ⟨rfl, rfl⟩
  go_wp2_with fail
  refine (rclass_is a _ ha C1).mono ?_; rintro e w' ⟨rfl, rfl⟩
  go_wp2_with fail
  refine (rclass_is b _ hb C2).mono ?_; rintro e w' ⟨rfl, rfl⟩
  go_wp2_with fail
  refine (rsize_at a A _ ha HA).mono ?_; rintro e w' ⟨rfl, rfl⟩
  go_wp2_with fail
  refine (rsize_at b B _ hb HB).mono ?_; rintro e w' ⟨rfl, rfl⟩
  go_wp2_with fail
  refine (rsize_at a A _ ha HA).mono ?_; rintro e w' ⟨rfl, rfl⟩
  go_wp2_with fail
  refine (rsize_at b B _ hb HB).mono ?_; rintro e w' ⟨rfl, rfl⟩
  go_wp2_with fail
  refine (rparts_at b m e _ hb PM PE).mono ?_; rintro e w' ⟨rfl, rfl⟩
  go_wp2_with fail
  refine (rparts_at a n f _ ha QM QE).mono ?_; rintro e w' ⟨rfl, rfl⟩
  go_wp2_with fail
  refine (rneg_at b na _ hb NA).mono ?_; rintro e w' ⟨rfl, rfl⟩
  go_wp2_with fail
  refine (rneg_at a nb _ ha NB).mono ?_; rintro e w' ⟨rfl, rfl⟩
  go_wp2_with fail
  go_ret
  exact ⟨ret_int HR.out, rfl⟩
set_option maxRecDepth 1000000 in
set_option maxHeartbeats 4000000 in
theorem radd_2_4_same (a b R : Nat) (w : World) (ha : a < 2^64) (hb : b < 2^64) {c1 c2 : Int} (C1 : Hid (c1 = (Fm.cls a : Nat))) (C2 : Hid (c2 = (Fm.cls b : Nat))) (e1 : (c1 == 4) = false) (e2 : (c2 == 4) = false) (e3 : (c1 == 3) = false) (e4 : (c2 == 3) = false) {A B : Nat} (HA : Hid (Fm.sz a = A)) (HB : Hid (Fm.sz b = B)) (z1 : ((A : Int) == 0) = true) (z2 : ((B : Int) == 0) = false) (lt : A < B) {m n d N : Nat} {e f : Int} {na nb : Bool} (PM : Hid (Fm.pm (Fm.sz b) = m)) (PE : Hid ((Fm.pe (Fm.sz b) : Int) - 1075 = e)) (QM : Hid (Fm.pm (Fm.sz a) = n)) (QE : Hid ((Fm.pe (Fm.sz a) : Int) - 1075 = f)) (lm : m < 9007199254740992) (ln : n < 9007199254740992) (b1 : -1074 ≤ e) (b2 : e ≤ 971) (b3 : -1074 ≤ f) (b4 : f ≤ 971) (NA : Hid (decide (Fm.sg b = 1) = na)) (NB : Hid (decide (Fm.sg a = 1) = nb)) (hd : e - 10 - (f - 10) = (d : Int)) (d0 : 0 < d) (d1 : d ≤ 63) {q0 r0 : Nat} {M0 : Int} (e_q : (n : Int) * 1024 / 2 ^ d = (q0 : Int)) (e_m : IntKind.u64.wrap (IntKind.u64.wrap (2 ^ d) - 1) = M0) (e_r : bits .and .u64 ((n : Int) * 1024) M0 = (r0 : Int)) (r1 : ¬ 0 < r0) (hN : bits .or .u64 (q0 : Int) 0 = (N : Int)) (sn : (na == nb) = true) (lN : N ≤ 9223372036854775808) {S j : Nat} (KK : Hid (Fm.K S j (m * 1024 + N))) (SS : Hid (0 < S)) (jj : j ≤ 2045) (JE : Hid (e - 10 = (j : Int) - 1084)) (HR : Hid ((if na then 1 else 0) * 2^63 + Fm.rnd S = R)) :
    Calls Try.prog 13 #[.int .u64 a, .int .u64 b] w fun e w' => e = .returned (.int .u64 R) ∧ w = w' := by
  go_enter Try.func13, Try.ntmps13
  go_wp2_with fail
  refine (rclass_is a _ ha C1).mono ?_; rintro e w' ⟨rfl, rfl⟩
  go_wp2_with fail
  refine (rclass_is b _ hb C2).mono ?_; rintro e w' ⟨rfl, rfl⟩
  go_wp2_with fail
  refine (rclass_is a _ ha C1).mono ?_; rintro e w' ⟨rfl, rfl⟩
  go_wp2_with fail
  refine (rclass_is a _ ha C1).mono ?_; rintro e w' ⟨rfl, rfl⟩
  go_wp2_with fail
  refine (rclass_is b _ hb C2).mono ?_; rintro e w' ⟨rfl, rfl⟩
  go_wp2_with fail
  refine (rsize_at a A _ ha HA).mono ?_; rintro e w' ⟨rfl, rfl⟩
  go_wp2_with fail
  refine (rsize_at b B _ hb HB).mono ?_; rintro e w' ⟨rfl, rfl⟩
  go_wp2_with fail
  refine (rsize_at a A _ ha HA).mono ?_; rintro e w' ⟨rfl, rfl⟩
  go_wp2_with fail
  refine (rsize_at b B _ hb HB).mono ?_; rintro e w' ⟨rfl, rfl⟩
  go_wp2_with fail
  refine (rparts_at b m e _ hb PM PE).mono ?_; rintro e w' ⟨rfl, rfl⟩
  go_wp2_with fail
  refine (rparts_at a n f _ ha QM QE).mono ?_; rintro e w' ⟨rfl, rfl⟩
  go_wp2_with fail
  refine (rneg_at b na _ hb NA).mono ?_; rintro e w' ⟨rfl, rfl⟩
  go_wp2_with fail
  refine (rneg_at a nb _ ha NB).mono ?_; rintro e w' ⟨rfl, rfl⟩
  go_wp2_with fail
  refine (rneg_at b na _ hb NA).mono ?_; rintro e w' ⟨rfl, rfl⟩
  go_wp2_with fail
  refine (rround_to na (m * 1024 + N) j S R _ _ KK.out SS.out jj JE.out HR (by omega)).mono ?_; rintro e w' ⟨rfl, rfl⟩
  go_wp2_with fail
  go_ret
  exact ⟨rfl, rfl⟩
set_option maxRecDepth 1000000 in
set_option maxHeartbeats 4000000 in
theorem radd_2_4_diff (a b R : Nat) (w : World) (ha : a < 2^64) (hb : b < 2^64) {c1 c2 : Int} (C1 : Hid (c1 = (Fm.cls a : Nat))) (C2 : Hid (c2 = (Fm.cls b : Nat))) (e1 : (c1 == 4) = false) (e2 : (c2 == 4) = false) (e3 : (c1 == 3) = false) (e4 : (c2 == 3) = false) {A B : Nat} (HA : Hid (Fm.sz a = A)) (HB : Hid (Fm.sz b = B)) (z1 : ((A : Int) == 0) = true) (z2 : ((B : Int) == 0) = false) (lt : A < B) {m n d N : Nat} {e f : Int} {na nb : Bool} (PM : Hid (Fm.pm (Fm.sz b) = m)) (PE : Hid ((Fm.pe (Fm.sz b) : Int) - 1075 = e)) (QM : Hid (Fm.pm (Fm.sz a) = n)) (QE : Hid ((Fm.pe (Fm.sz a) : Int) - 1075 = f)) (lm : m < 9007199254740992) (ln : n < 9007199254740992) (b1 : -1074 ≤ e) (b2 : e ≤ 971) (b3 : -1074 ≤ f) (b4 : f ≤ 971) (NA : Hid (decide (Fm.sg b = 1) = na)) (NB : Hid (decide (Fm.sg a = 1) = nb)) (hd : e - 10 - (f - 10) = (d : Int)) (d0 : 0 < d) (d1 : d ≤ 63) {q0 r0 : Nat} {M0 : Int} (e_q : (n : Int) * 1024 / 2 ^ d = (q0 : Int)) (e_m : IntKind.u64.wrap (IntKind.u64.wrap (2 ^ d) - 1) = M0) (e_r : bits .and .u64 ((n : Int) * 1024) M0 = (r0 : Int)) (r1 : ¬ 0 < r0) (hN : bits .or .u64 (q0 : Int) 0 = (N : Int)) (sn : (na == nb) = false) (lN : N ≤ m * 1024) (ne : ((m : Int) * 1024 == (N : Int)) = false) {S j : Nat} (KK : Hid (Fm.K S j (m * 1024 - N))) (SS : Hid (0 < S)) (jj : j ≤ 2045) (JE : Hid (e - 10 = (j : Int) - 1084)) (HR : Hid ((if na then 1 else 0) * 2^63 + Fm.rnd S = R)) :
    Calls Try.prog 13 #[.int .u64 a, .int .u64 b] w fun e w' => e = .returned (.int .u64 R) ∧ w = w' := by
  go_enter Try.func13, Try.ntmps13
  go_wp2_with fail
  refine (rclass_is a _ ha C1).mono ?_; rintro e w' ⟨rfl, rfl⟩
  go_wp2_with fail
  refine (rclass_is b _ hb C2).mono ?_; rintro e w' ⟨rfl, rfl⟩
  go_wp2_with fail
  refine (rclass_is a _ ha C1).mono ?_; rintro e w' ⟨rfl, rfl⟩
  go_wp2_with fail
  refine (rclass_is a _ ha C1).mono ?_; rintro e w' ⟨rfl, rfl⟩
  go_wp2_with fail
  refine (rclass_is b _ hb C2).mono ?_; rintro e w' ⟨rfl, rfl⟩
  go_wp2_with fail
  refine (rsize_at a A _ ha HA).mono ?_; rintro e w' ⟨rfl, rfl⟩
  go_wp2_with fail
  refine (rsize_at b B _ hb HB).mono ?_; rintro e w' ⟨rfl, rfl⟩
  go_wp2_with fail
  refine (rsize_at a A _ ha HA).mono ?_; rintro e w' ⟨rfl, rfl⟩
  go_wp2_with fail
  refine (rsize_at b B _ hb HB).mono ?_; rintro e w' ⟨rfl, rfl⟩
  go_wp2_with fail
  refine (rparts_at b m e _ hb PM PE).mono ?_; rintro e w' ⟨rfl, rfl⟩
  go_wp2_with fail
  refine (rparts_at a n f _ ha QM QE).mono ?_; rintro e w' ⟨rfl, rfl⟩
  go_wp2_with fail
  refine (rneg_at b na _ hb NA).mono ?_; rintro e w' ⟨rfl, rfl⟩
  go_wp2_with fail
  refine (rneg_at a nb _ ha NB).mono ?_; rintro e w' ⟨rfl, rfl⟩
  go_wp2_with fail
  refine (rneg_at b na _ hb NA).mono ?_; rintro e w' ⟨rfl, rfl⟩
  go_wp2_with fail
  refine (rround_to na (m * 1024 - N) j S R _ _ KK.out SS.out jj JE.out HR (by omega)).mono ?_; rintro e w' ⟨rfl, rfl⟩
  go_wp2_with fail
  go_ret
  exact ⟨rfl, rfl⟩
set_option maxRecDepth 1000000 in
set_option maxHeartbeats 4000000 in
theorem radd_2_4_null (a b R : Nat) (w : World) (ha : a < 2^64) (hb : b < 2^64) {c1 c2 : Int} (C1 : Hid (c1 = (Fm.cls a : Nat))) (C2 : Hid (c2 = (Fm.cls b : Nat))) (e1 : (c1 == 4) = false) (e2 : (c2 == 4) = false) (e3 : (c1 == 3) = false) (e4 : (c2 == 3) = false) {A B : Nat} (HA : Hid (Fm.sz a = A)) (HB : Hid (Fm.sz b = B)) (z1 : ((A : Int) == 0) = true) (z2 : ((B : Int) == 0) = false) (lt : A < B) {m n d N : Nat} {e f : Int} {na nb : Bool} (PM : Hid (Fm.pm (Fm.sz b) = m)) (PE : Hid ((Fm.pe (Fm.sz b) : Int) - 1075 = e)) (QM : Hid (Fm.pm (Fm.sz a) = n)) (QE : Hid ((Fm.pe (Fm.sz a) : Int) - 1075 = f)) (lm : m < 9007199254740992) (ln : n < 9007199254740992) (b1 : -1074 ≤ e) (b2 : e ≤ 971) (b3 : -1074 ≤ f) (b4 : f ≤ 971) (NA : Hid (decide (Fm.sg b = 1) = na)) (NB : Hid (decide (Fm.sg a = 1) = nb)) (hd : e - 10 - (f - 10) = (d : Int)) (d0 : 0 < d) (d1 : d ≤ 63) {q0 r0 : Nat} {M0 : Int} (e_q : (n : Int) * 1024 / 2 ^ d = (q0 : Int)) (e_m : IntKind.u64.wrap (IntKind.u64.wrap (2 ^ d) - 1) = M0) (e_r : bits .and .u64 ((n : Int) * 1024) M0 = (r0 : Int)) (r1 : ¬ 0 < r0) (hN : bits .or .u64 (q0 : Int) 0 = (N : Int)) (sn : (na == nb) = false) (ne : ((m : Int) * 1024 == (N : Int)) = true) (HR : Hid ((0 : Int) = (R : Int))) :
    Calls Try.prog 13 #[.int .u64 a, .int .u64 b] w fun e w' => e = .returned (.int .u64 R) ∧ w = w' := by
  go_enter Try.func13, Try.ntmps13
  go_wp2_with fail
  refine (rclass_is a _ ha C1).mono ?_; rintro e w' ⟨rfl, rfl⟩
  go_wp2_with fail
  refine (rclass_is b _ hb C2).mono ?_; rintro e w' ⟨rfl, rfl⟩
  go_wp2_with fail
  refine (rclass_is a _ ha C1).mono ?_; rintro e w' ⟨rfl, rfl⟩
  go_wp2_with fail
  refine (rclass_is a _ ha C1).mono ?_; rintro e w' ⟨rfl, rfl⟩
  go_wp2_with fail
  refine (rclass_is b _ hb C2).mono ?_; rintro e w' ⟨rfl, rfl⟩
  go_wp2_with fail
  refine (rsize_at a A _ ha HA).mono ?_; rintro e w' ⟨rfl, rfl⟩
  go_wp2_with fail
  refine (rsize_at b B _ hb HB).mono ?_; rintro e w' ⟨rfl, rfl⟩
  go_wp2_with fail
  refine (rsize_at a A _ ha HA).mono ?_; rintro e w' ⟨rfl, rfl⟩
  go_wp2_with fail
  refine (rsize_at b B _ hb HB).mono ?_; rintro e w' ⟨rfl, rfl⟩
  go_wp2_with fail
  refine (rparts_at b m e _ hb PM PE).mono ?_; rintro e w' ⟨rfl, rfl⟩
  go_wp2_with fail
  refine (rparts_at a n f _ ha QM QE).mono ?_; rintro e w' ⟨rfl, rfl⟩
  go_wp2_with fail
  refine (rneg_at b na _ hb NA).mono ?_; rintro e w' ⟨rfl, rfl⟩
  go_wp2_with fail
  refine (rneg_at a nb _ ha NB).mono ?_; rintro e w' ⟨rfl, rfl⟩
  go_wp2_with fail
  go_ret
  exact ⟨ret_int HR.out, rfl⟩
end Go.Proofs.Ytkpljnfakidjeaa
