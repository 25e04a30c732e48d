/-
  wire.little, wire.head, wire.body: what they read.
-/
import Derived.Test.YtoggpnfeioaidaaDoorWireMath
import Derived.Test.YtoggpnfeioaidaaDoorErrNew
import Derived.Test.YtoggpnfeioaidaaDoorGet
import Derived.Deep.LoopGhost
import Derived.Deep.QuietTactic
import Derived.WalkSmall
namespace Go.Proofs.YtoggpnfeioaidaaDoor
open Go.RowKit
open Go.RowKit
open Go.RowKit
theorem below_new (w:World) (o:Obj):Below w.heap.size w (w.alloc o):=(Below.refl _ _).alloc (Nat.le_refl _) o
theorem below_step {a b c:World} (h1:Below a.heap.size a b) (h2:Below b.heap.size b c):Below a.heap.size a c:=h1.trans (h2.mono h1.size)
open Go.RowKit
open Go.RowKit
open Go.RowKit
open Go.RowKit
open Go.RowKit
end Go.Proofs.YtoggpnfeioaidaaDoor
