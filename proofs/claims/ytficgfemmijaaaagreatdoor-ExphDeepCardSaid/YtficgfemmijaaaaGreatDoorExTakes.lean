/-
  exem.takes.
-/
import Derived.Test.YtficgfemmijaaaaGreatDoorExBack
set_option maxRecDepth 1000000
set_option maxHeartbeats 16000000
namespace Go.Proofs.YtficgfemmijaaaaGreatDoor
open Go.RowKit
theorem extakes_any (r : Rec) (w : World) : Calls Tryz.prog 113 #[.int .i64 (r.num : Int), .int .i64 (r.ty : Int)] w fun e w' => e = .returned (.bool (exF.tk r)) ∧ w = w' := by
 obtain ⟨num, ty, n, s, raw⟩ := r
 have hq := exF_tk ⟨num, ty, n, s, raw⟩
 dsimp only at hq
 obtain ⟨q, hqe⟩ : ∃ q, exF.tk ⟨num, ty, n, s, raw⟩ = q := ⟨_, rfl⟩
 rw [hqe] at hq ⊢
 clear hqe
 by_cases h2 : num = 2
 ·subst h2
  have hb : Hid (q = ((ty : Int) == (1 : Int))) := Lib.hid (by rw [show ((1 : Int)) = ((1 : Nat) : Int) from rfl, ibeq, hq]; exact decide_eq_decide.2 (by omega))
  clear hq
  go_enter Tryz.func113, Tryz.ntmps113
  go_wp2_with fail
  go_ret
  exact ⟨by rw [hb.out]; rfl, rfl⟩
 by_cases h6 : num = 6
 ·subst h6
  have hb : Hid (q = ((ty : Int) == (1 : Int))) := Lib.hid (by rw [show ((1 : Int)) = ((1 : Nat) : Int) from rfl, ibeq, hq]; exact decide_eq_decide.2 (by omega))
  clear hq
  go_enter Tryz.func113, Tryz.ntmps113
  go_wp2_with fail
  go_ret
  exact ⟨by rw [hb.out]; rfl, rfl⟩
 by_cases h3 : num = 3
 ·subst h3
  have hb : Hid (q = ((ty : Int) == (1 : Int))) := Lib.hid (by rw [show ((1 : Int)) = ((1 : Nat) : Int) from rfl, ibeq, hq]; exact decide_eq_decide.2 (by omega))
  clear hq
  go_enter Tryz.func113, Tryz.ntmps113
  go_wp2_with fail
  go_ret
  exact ⟨by rw [hb.out]; rfl, rfl⟩
 by_cases h4 : num = 4
 ·subst h4
  have hb : Hid (q = ((ty : Int) == (2 : Int))) := Lib.hid (by rw [show ((2 : Int)) = ((2 : Nat) : Int) from rfl, ibeq, hq]; exact decide_eq_decide.2 (by omega))
  clear hq
  go_enter Tryz.func113, Tryz.ntmps113
  go_wp2_with fail
  go_ret
  exact ⟨by rw [hb.out]; rfl, rfl⟩
 by_cases h5 : num = 5
 ·subst h5
  have hb : Hid (q = ((ty : Int) == (2 : Int))) := Lib.hid (by rw [show ((2 : Int)) = ((2 : Nat) : Int) from rfl, ibeq, hq]; exact decide_eq_decide.2 (by omega))
  clear hq
  go_enter Tryz.func113, Tryz.ntmps113
  go_wp2_with fail
  go_ret
  exact ⟨by rw [hb.out]; rfl, rfl⟩
 by_cases h7 : num = 7
 ·subst h7
  have hb : Hid (q = ((ty : Int) == (2 : Int))) := Lib.hid (by rw [show ((2 : Int)) = ((2 : Nat) : Int) from rfl, ibeq, hq]; exact decide_eq_decide.2 (by omega))
  clear hq
  go_enter Tryz.func113, Tryz.ntmps113
  go_wp2_with fail
  go_ret
  exact ⟨by rw [hb.out]; rfl, rfl⟩
 have d2 : ((num : Int) == (2 : Int)) = false := by rw [beq_eq_false_iff_ne]; omega
 have d6 : ((num : Int) == (6 : Int)) = false := by rw [beq_eq_false_iff_ne]; omega
 have d3 : ((num : Int) == (3 : Int)) = false := by rw [beq_eq_false_iff_ne]; omega
 have d4 : ((num : Int) == (4 : Int)) = false := by rw [beq_eq_false_iff_ne]; omega
 have d5 : ((num : Int) == (5 : Int)) = false := by rw [beq_eq_false_iff_ne]; omega
 have d7 : ((num : Int) == (7 : Int)) = false := by rw [beq_eq_false_iff_ne]; omega
 have hb : Hid (q = false) := Lib.hid (by rw [hq]; exact decide_eq_false (by omega))
 clear h2 h6 h3 h4 h5 h7 hq
 go_enter Tryz.func113, Tryz.ntmps113
 go_wp2_with fail
 go_ret
 exact ⟨by rw [hb.out]; rfl, rfl⟩
end Go.Proofs.YtficgfemmijaaaaGreatDoor
