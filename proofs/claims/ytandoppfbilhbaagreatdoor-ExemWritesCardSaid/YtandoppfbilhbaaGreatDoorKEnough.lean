/-
 What may be at some depth may be at any that is deep enough; variable numbers written.
-/
import Derived.Test.YtandoppfbilhbaaGreatDoorValMar
import Derived.Test.YtandoppfbilhbaaGreatDoorFld
namespace Go.Proofs.YtandoppfbilhbaaGreatDoor
open Go.RowKit
theorem kmays_ref (d : Int) (_ : 0 ≤ d) (l : List KV) : (l.all fun x => kmayD x (d - 1)) = kmays l d := by
 have h := kmays_all (d + 1) l
 rw [show d + 1 - 1 = d by omega, show d + 1 - 2 = d - 1 by omega] at h
 exact h.symm
theorem kmays_enq {l : List KV} {d : Int} (hw : ksw l ≤ 100000) (h : kmays l d = true) : kmays l 262144 = true := by
 induction l with
 | nil => rw [kmays]
 | cons x l ih =>
  rw [kmays] at h ⊢
  rw [ksw] at hw
  simp only [Bool.and_eq_true, decide_eq_true_eq] at h ⊢
  exact ⟨⟨by omega, kmay_enough x _ _ h.1.2 (by omega)⟩, ih (by omega) h.2⟩
end Go.Proofs.YtandoppfbilhbaaGreatDoor

