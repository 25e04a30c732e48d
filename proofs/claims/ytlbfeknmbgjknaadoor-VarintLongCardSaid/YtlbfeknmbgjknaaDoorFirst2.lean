/-
  hyglaw2.first: what the chapter's examples fix.
-/
import Derived.Test.YtlbfeknmbgjknaaDoorGet
namespace Go.Proofs.YtlbfeknmbgjknaaDoor
open Go.RowKit

set_option maxRecDepth 100000 in
set_option maxHeartbeats 1000000 in
theorem first2 (w : World) : Calls Tryd.prog 21 #[] w fun e w' => e = .returned (.bool true) ∧ Below w.heap.size w w' := by
  have hg := Lib.hid (show vget [172, 2] 0 = .ok (300, 2) from rfl)
  have hp := Lib.hid (show PutRel 300 300 9 [] from put_start (by omega))
  have hl := Lib.hid (show (vput 300) = [172, 2] by decide)
  go_enter Tryd.func21, Tryd.ntmps21
  go_wp2_with fail
  refine (get_ok _ _ w (by decide) hg.out).mono ?_; rintro e w1 ⟨rfl, rfl⟩
  go_wp2_with fail
  refine (put_any 300 w hp.out).mono ?_; rintro e w1 ⟨rfl, hb1⟩
  rw [hl.out]
  go_wp2_with fail
  refine (size_any 300 w1 hp.out).mono ?_; rintro e w2 ⟨rfl, rfl⟩
  rw [hl.out]
  go_wp2_with fail
  refine (zig_any (-2) _ (by omega) (by omega)).mono ?_; rintro e w2 ⟨rfl, rfl⟩
  rw [show zig (-2) = 3 by decide]
  go_wp2_with fail
  refine (zag_any 3 _ (Lib.hid (by omega))).mono ?_; rintro e w2 ⟨rfl, rfl⟩
  rw [show zag 3 = -2 by decide]
  go_wp2
  go_ret
  exact ⟨rfl, hb1⟩
end Go.Proofs.YtlbfeknmbgjknaaDoor
