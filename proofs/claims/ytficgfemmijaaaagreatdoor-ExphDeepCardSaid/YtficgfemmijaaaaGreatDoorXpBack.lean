/-
  A point of an exponential histogram: read out of its records; there and back.
-/
import Derived.Test.YtficgfemmijaaaaGreatDoorXrFld
import Derived.Test.YtficgfemmijaaaaGreatDoorBkSb
namespace Go.Proofs.YtficgfemmijaaaaGreatDoor
open Go.RowKit
abbrev Xp : Type := (List KV × Nat × Nat × Nat × (Bool × Nat) × Int × Nat × (Bool × Bk × List UInt8) × (Bool × Bk × List UInt8) × Nat × List Ex × (Bool × Nat) × (Bool × Nat) × Nat) × List UInt8
def xpN : Fnl xrF := (Fnl.id (listF 1 kvS)).and ((Fnl.id (numF 2)).and ((Fnl.id (numF 3)).and ((Fnl.id (numF 4)).and ((Fnl.id (optF 5)).and ((Fnl.id (zigF 6)).and ((Fnl.id (numF 7)).and ((partN 8 bkSb (⟨0, []⟩, []) bkz).and ((partN 9 bkSb (⟨0, []⟩, []) bkz).and ((Fnl.id (var32F 10)).and ((Fnl.id (listF 11 exSb)).and ((Fnl.id (optF 12)).and ((Fnl.id (optF 13)).and (Fnl.id (numF 14))))))))))))))
def xprd (l : List UInt8) (d : Int) : Except Nat Xp := xpN.rd d l
end Go.Proofs.YtficgfemmijaaaaGreatDoor
