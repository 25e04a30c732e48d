/-
  An error that a call has made: a new wrap of a code, at a place.
-/
import Derived.Test.YteknippgiljgeaaGreatDoorCodeIs
import Derived.Test.YteknippgiljgeaaGreatDoorErrMk
namespace Go.Proofs.YteknippgiljgeaaGreatDoor
open Go.RowKit

/-- such an error, told by the call's own end -/
theorem ErrNew.isErr {w : World} {n c : Int} {v : Value} {w' : World} (h : ErrNew w n c v w') : isErr w' [(true, n)] v (codeV c) := by
  obtain ⟨⟨a, _, rfl, hh⟩, _⟩ := h
  exact isErr_new hh
theorem ErrNew.codeIs {w : World} {n c : Int} {v : Value} {w' : World} (h : ErrNew w n c v w') : CodeIs w' v c := .inr ⟨_, h.isErr⟩
end Go.Proofs.YteknippgiljgeaaGreatDoor
