/-
 What may be at some depth may be at any that is deep enough; variable numbers written.
-/
import Derived.Test.YtjbingoliffjiaaGreatDoorValMar
import Derived.Test.YtjbingoliffjiaaGreatDoorFld
namespace Go.Proofs.YtjbingoliffjiaaGreatDoor
open Go.RowKit
theorem kmays_ref (d : Int) (_ : 0 ≤ d) (l : List KV) : (l.all fun x => kmayD x (d - 1)) = kmays l d := by
 have h := kmays_all (d + 1) l
 rw [show d + 1 - 1 = d by omega, show d + 1 - 2 = d - 1 by omega] at h
 exact h.symm
end Go.Proofs.YtjbingoliffjiaaGreatDoor
