/-
  A point of an exponential histogram: one behind the other, read.
-/
import Derived.Test.YtficgfemmijaaaaGreatDoorXpUn
import Derived.Test.YtficgfemmijaaaaGreatDoorFx
namespace Go.Proofs.YtficgfemmijaaaaGreatDoor
open Go.RowKit
theorem xprd_unk {s u : List UInt8} {x : xpN.τ} {d : Int} (h : xprd s d = .ok (x, u)) : u.length ≤ s.length := by
 obtain ⟨st, h, _⟩ := Fnl.rd_inv h
 exact mread_unk h
end Go.Proofs.YtficgfemmijaaaaGreatDoor
