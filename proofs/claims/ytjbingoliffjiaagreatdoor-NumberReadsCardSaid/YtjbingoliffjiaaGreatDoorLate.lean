/-
  What other seats leave out.
-/
import Derived.Test.YtjbingoliffjiaaGreatDoorKit
namespace Go.Proofs.YtjbingoliffjiaaGreatDoor
end Go.Proofs.YtjbingoliffjiaaGreatDoor
