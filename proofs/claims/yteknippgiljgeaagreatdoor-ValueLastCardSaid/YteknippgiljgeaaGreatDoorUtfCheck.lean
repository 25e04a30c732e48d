/-
  utf.Check.
-/
import Derived.Test.YteknippgiljgeaaGreatDoorUtf2
import Derived.Test.YteknippgiljgeaaGreatDoorErrNew
import Derived.Test.YteknippgiljgeaaGreatDoorGet
namespace Go.Proofs.YteknippgiljgeaaGreatDoor
open Go.RowKit

/-- what Check answers -/
def UChk (l : List UInt8) (w : World) (e : Ending) (w' : World) : Prop :=
  if ubad l < 0 then e = .returned .nilIface ∧ w = w' else ∃ v, e = .returned v ∧ ErrNew w (ubad l) 5 v w'
theorem uchk_ok {l : List UInt8} (h : ubad l < 0) (w : World) : UChk l w (.returned .nilIface) w := by
  unfold UChk; rw [if_pos h]; exact ⟨rfl, rfl⟩
theorem uchk_bad {l : List UInt8} {b : Int} (hb : b = ubad l) (h : ¬ b < 0) {w w' : World} {v : Value} (hE : ErrNew w b 5 v w') : UChk l w (.returned v) w' := by
  subst hb; unfold UChk; rw [if_neg h]; exact ⟨v, rfl, hE⟩
theorem check_any (s : ByteArray) (w : World) (hs : s.size ≤ 4611686018427387904) :
    Calls Tryz.prog 44 #[.string s] w (UChk s.data.toList w) := by
  obtain ⟨b, HB⟩ : ∃ b, Hid (b = ubad s.data.toList) := ⟨_, Lib.hid rfl⟩
  by_cases hb : b < 0
  · have HF := Lib.hid (uchk_ok (by rw [← HB.out]; exact hb) w)
    go_enter Tryz.func44, Tryz.ntmps44
    go_wp2_with fail
    refine (bad_any s w hs).mono ?_; rintro e w' ⟨rfl, rfl⟩
    rw [← HB.out]
    go_wp2
    go_ret
    exact HF.out
  · have HF : Hid (¬ b < 0) := Lib.hid hb
    go_enter Tryz.func44, Tryz.ntmps44
    go_wp2_with fail
    refine (bad_any s w hs).mono ?_; rintro e w' ⟨rfl, rfl⟩
    rw [← HB.out]
    go_wp2_with fail
    refine (at_any _ _ _ w).mono ?_; rintro e w' ⟨rfl, rfl⟩
    go_wp2
    go_ret
    exact uchk_bad HB.out (by have := HF.out; omega) (errNew_at (Below.refl _ _))
end Go.Proofs.YteknippgiljgeaaGreatDoor
