/-
  Lists of numbers as lists of messages; message.AddNums.
-/
import Derived.Test.YtficgfemmijaaaaGreatDoorMsgPack
import Derived.Test.YtficgfemmijaaaaGreatDoorFldH
import Derived.Test.YtficgfemmijaaaaGreatDoorRowL
import Derived.Test.YtficgfemmijaaaaGreatDoorAlikeB
namespace Go.Proofs.YtficgfemmijaaaaGreatDoor
open Go.RowKit
def natCel : Cel Nat where
 R _ _ n cs := cs = [.int .u64 (n : Int)]
 size := 1
 len := by intro w P n cs h; rw [h]; rfl
 upd := by intro w w' S P Q n cs hu hs hq h; exact h
 lt := fun h => h
theorem nats_flat : ∀ xs : List Nat, (xs.map fun n : Nat => [Value.int .u64 (n : Int)]).flatten = nats64 xs
 | [] => rfl
 | x :: xs => by
  rw [List.map_cons, List.flatten_cons, nats_flat xs]
  rfl
theorem nats_ls {base : Nat} {v : Value} {xs : List Nat} {w : World} (h : w.ownsRow base 24 1 v xs.length (nats64 xs)) : LsAt natCel 24 base v xs (fun k => v.ownBlock = some k ∨ False) w := by
 refine ⟨xs.map fun n : Nat => [Value.int .u64 (n : Int)], fun _ => False, ?_, by rw [List.length_map], fun j a b => ?_, fun _ h => h.elim, rfl⟩
 ·rw [nats_flat]; exact h
 ·show _ = _
  rw [List.getElem_map]
end Go.Proofs.YtficgfemmijaaaaGreatDoor
