/-
  Three results, the first one a struct that lies in a cell of its own.
-/
import Derived.Test.YtandoppfbilhbaaGreatDoorKit
import Derived.Laws.Rows
namespace Go.Proofs.YtandoppfbilhbaaGreatDoor
open Go.RowKit

theorem body_cell3 {P : Program} {fn : Func} {R : Ending → World → Prop} {a : Act} {w : World} {p u x : Tmp} {ty : TypeId} {g : Nat} {cs : Array Value}
    (h : fn.results = #[.cell p ty, .tmp u, .tmp x]) (hp : a.tmps.getD p undef = .pointer (some ⟨g, 0, none⟩)) (hl : (loadVar ty ⟨g, 0, none⟩).run P w = .ok (.agg cs) w) (hdf : a.defers = [])
    (hR : R (.returned (.tuple #[.agg cs, a.tmps.getD u undef, a.tmps.getD x undef])) w) : bodyPost P fn R .ret a w := by
  refine bodyPost_ret ?_ hdf hR
  have hp' : a.tmps[p]?.getD undef = .pointer (some ⟨g, 0, none⟩) := by simpa using hp
  have hr : (asAddr (a.tmps[p]?.getD undef)).run P w = .ok ⟨g, 0, none⟩ w := by rw [hp']; rfl
  simp [results, h, Sem.run_bind, Result.andThen, hr, hl]
end Go.Proofs.YtandoppfbilhbaaGreatDoor
