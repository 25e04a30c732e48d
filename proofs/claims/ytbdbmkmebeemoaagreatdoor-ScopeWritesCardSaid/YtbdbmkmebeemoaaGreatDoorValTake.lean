/-
  message.Parts: Add, Has, Bytes.
-/
/-
  utf.Check.
-/
/-
  value.takes, takesKey, takesItem.
-/
import Derived.Test.YtbdbmkmebeemoaaGreatDoorMsgRead
import Derived.Test.YtbdbmkmebeemoaaGreatDoorMsgUn
import Derived.Test.YtbdbmkmebeemoaaGreatDoorUtf2
import Derived.Test.YtbdbmkmebeemoaaGreatDoorErrNew
import Derived.Test.YtbdbmkmebeemoaaGreatDoorGet
import Derived.Test.YtbdbmkmebeemoaaGreatDoorVal
import Derived.Deep.Cut
namespace Go.Proofs.YtbdbmkmebeemoaaGreatDoor
open Go.RowKit

end Go.Proofs.YtbdbmkmebeemoaaGreatDoor
namespace Go.Proofs.YtbdbmkmebeemoaaGreatDoor
open Go.RowKit

end Go.Proofs.YtbdbmkmebeemoaaGreatDoor
/-
  (*message.One).Take.
-/
/-
  value.Unmarshal$1.
-/
namespace Go.Proofs.YtbdbmkmebeemoaaGreatDoor
open Go.RowKit

set_option maxRecDepth 100000 in
set_option maxHeartbeats 2000000 in
theorem vtakes_any (r : Rec) (w : World) : Calls Tryz.prog 121 #[.int .i64 (r.num : Int), .int .i64 (r.ty : Int)] w fun e w' => e = .returned (.bool (vtk r)) ∧ w = w' := by
  obtain ⟨num, ty, n, s, raw⟩ := r
  by_cases h1 : num = 1
  · subst h1
    have hb : Hid (vtk ⟨1, ty, n, s, raw⟩ = ((ty : Int) == (2 : Int))) := Lib.hid (by rw [show ((2 : Int)) = ((2 : Nat) : Int) from rfl, ibeq]; unfold vtk; simp)
    go_enter Tryz.func121, Tryz.ntmps121
    go_wp2_with fail
    go_ret
    exact ⟨by rw [hb.out]; rfl, rfl⟩
  by_cases h5 : num = 5
  · subst h5
    have hb : Hid (vtk ⟨5, ty, n, s, raw⟩ = ((ty : Int) == (2 : Int))) := Lib.hid (by rw [show ((2 : Int)) = ((2 : Nat) : Int) from rfl, ibeq]; unfold vtk; simp)
    go_enter Tryz.func121, Tryz.ntmps121
    go_wp2_with fail
    go_ret
    exact ⟨by rw [hb.out]; rfl, rfl⟩
  by_cases h6 : num = 6
  · subst h6
    have hb : Hid (vtk ⟨6, ty, n, s, raw⟩ = ((ty : Int) == (2 : Int))) := Lib.hid (by rw [show ((2 : Int)) = ((2 : Nat) : Int) from rfl, ibeq]; unfold vtk; simp)
    go_enter Tryz.func121, Tryz.ntmps121
    go_wp2_with fail
    go_ret
    exact ⟨by rw [hb.out]; rfl, rfl⟩
  by_cases h7 : num = 7
  · subst h7
    have hb : Hid (vtk ⟨7, ty, n, s, raw⟩ = ((ty : Int) == (2 : Int))) := Lib.hid (by rw [show ((2 : Int)) = ((2 : Nat) : Int) from rfl, ibeq]; unfold vtk; simp)
    go_enter Tryz.func121, Tryz.ntmps121
    go_wp2_with fail
    go_ret
    exact ⟨by rw [hb.out]; rfl, rfl⟩
  by_cases h2 : num = 2
  · subst h2
    have hb : Hid (vtk ⟨2, ty, n, s, raw⟩ = ((ty : Int) == (0 : Int))) := Lib.hid (by rw [show ((0 : Int)) = ((0 : Nat) : Int) from rfl, ibeq]; unfold vtk; simp)
    go_enter Tryz.func121, Tryz.ntmps121
    go_wp2_with fail
    go_ret
    exact ⟨by rw [hb.out]; rfl, rfl⟩
  by_cases h3 : num = 3
  · subst h3
    have hb : Hid (vtk ⟨3, ty, n, s, raw⟩ = ((ty : Int) == (0 : Int))) := Lib.hid (by rw [show ((0 : Int)) = ((0 : Nat) : Int) from rfl, ibeq]; unfold vtk; simp)
    go_enter Tryz.func121, Tryz.ntmps121
    go_wp2_with fail
    go_ret
    exact ⟨by rw [hb.out]; rfl, rfl⟩
  by_cases h4 : num = 4
  · subst h4
    have hb : Hid (vtk ⟨4, ty, n, s, raw⟩ = ((ty : Int) == (1 : Int))) := Lib.hid (by rw [show ((1 : Int)) = ((1 : Nat) : Int) from rfl, ibeq]; unfold vtk; simp)
    go_enter Tryz.func121, Tryz.ntmps121
    go_wp2_with fail
    go_ret
    exact ⟨by rw [hb.out]; rfl, rfl⟩
  have d1 : ((num : Int) == (1 : Int)) = false := by rw [beq_eq_false_iff_ne]; omega
  have d5 : ((num : Int) == (5 : Int)) = false := by rw [beq_eq_false_iff_ne]; omega
  have d6 : ((num : Int) == (6 : Int)) = false := by rw [beq_eq_false_iff_ne]; omega
  have d7 : ((num : Int) == (7 : Int)) = false := by rw [beq_eq_false_iff_ne]; omega
  have d2 : ((num : Int) == (2 : Int)) = false := by rw [beq_eq_false_iff_ne]; omega
  have d3 : ((num : Int) == (3 : Int)) = false := by rw [beq_eq_false_iff_ne]; omega
  have d4 : ((num : Int) == (4 : Int)) = false := by rw [beq_eq_false_iff_ne]; omega
  have hb : Hid (vtk ⟨num, ty, n, s, raw⟩ = false) := Lib.hid (by unfold vtk; simp; omega)
  clear h1 h5 h6 h7 h2 h3 h4
  go_enter Tryz.func121, Tryz.ntmps121
  go_wp2_with fail
  go_ret
  exact ⟨by rw [hb.out]; rfl, rfl⟩
set_option maxRecDepth 100000 in
set_option maxHeartbeats 2000000 in
theorem ktakes_any (r : Rec) (w : World) : Calls Tryz.prog 90 #[.int .i64 (r.num : Int), .int .i64 (r.ty : Int)] w fun e w' => e = .returned (.bool (ktk r)) ∧ w = w' := by
  obtain ⟨num, ty, n, s, raw⟩ := r
  by_cases h1 : num = 1
  · subst h1
    have hb : Hid (ktk ⟨1, ty, n, s, raw⟩ = ((ty : Int) == (2 : Int))) := Lib.hid (by rw [show ((2 : Int)) = ((2 : Nat) : Int) from rfl, ibeq]; unfold ktk; simp)
    go_enter Tryz.func90, Tryz.ntmps90
    go_wp2_with fail
    go_ret
    exact ⟨by rw [hb.out]; rfl, rfl⟩
  by_cases h2 : num = 2
  · subst h2
    have hb : Hid (ktk ⟨2, ty, n, s, raw⟩ = ((ty : Int) == (2 : Int))) := Lib.hid (by rw [show ((2 : Int)) = ((2 : Nat) : Int) from rfl, ibeq]; unfold ktk; simp)
    go_enter Tryz.func90, Tryz.ntmps90
    go_wp2_with fail
    go_ret
    exact ⟨by rw [hb.out]; rfl, rfl⟩
  have d1 : ((num : Int) == (1 : Int)) = false := by rw [beq_eq_false_iff_ne]; omega
  have d2 : ((num : Int) == (2 : Int)) = false := by rw [beq_eq_false_iff_ne]; omega
  have hb : Hid (ktk ⟨num, ty, n, s, raw⟩ = false) := Lib.hid (by unfold ktk; simp; omega)
  clear h1 h2
  go_enter Tryz.func90, Tryz.ntmps90
  go_wp2_with fail
  go_ret
  exact ⟨by rw [hb.out]; rfl, rfl⟩
set_option maxRecDepth 100000 in
set_option maxHeartbeats 2000000 in
theorem itakes_any (r : Rec) (w : World) : Calls Tryz.prog 149 #[.int .i64 (r.num : Int), .int .i64 (r.ty : Int)] w fun e w' => e = .returned (.bool (itk r)) ∧ w = w' := by
  obtain ⟨num, ty, n, s, raw⟩ := r
  by_cases h1 : num = 1
  · subst h1
    have hb : Hid (itk ⟨1, ty, n, s, raw⟩ = ((ty : Int) == (2 : Int))) := Lib.hid (by rw [show ((2 : Int)) = ((2 : Nat) : Int) from rfl, ibeq]; unfold itk; simp)
    go_enter Tryz.func149, Tryz.ntmps149
    go_wp2_with fail
    go_ret
    exact ⟨by rw [hb.out]; rfl, rfl⟩
  have d1 : ((num : Int) == (1 : Int)) = false := by rw [beq_eq_false_iff_ne]; omega
  have hb : Hid (itk ⟨num, ty, n, s, raw⟩ = false) := Lib.hid (by unfold itk; simp; omega)
  clear h1
  go_enter Tryz.func149, Tryz.ntmps149
  go_wp2_with fail
  go_ret
  exact ⟨by rw [hb.out]; rfl, rfl⟩
end Go.Proofs.YtbdbmkmebeemoaaGreatDoor
namespace Go.Proofs.YtbdbmkmebeemoaaGreatDoor
open Go.RowKit

/-- the record that stands, in memory; v: the parts -/
def oneRow (r : Rec) (v : Value) : Array Value := #[.int .i64 (r.num : Int), .int .i64 (r.ty : Int), .int .u64 (r.n : Int), strV r.s, strV r.raw, v]
end Go.Proofs.YtbdbmkmebeemoaaGreatDoor
namespace Go.Proofs.YtbdbmkmebeemoaaGreatDoor
open Go.RowKit

end Go.Proofs.YtbdbmkmebeemoaaGreatDoor


