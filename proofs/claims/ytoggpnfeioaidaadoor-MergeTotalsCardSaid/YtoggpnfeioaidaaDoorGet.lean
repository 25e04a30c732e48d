/-
  The functions of package varint and of its reference (but Get): what each call returns; the world grows at most.
-/
import Derived.Test.YtoggpnfeioaidaaDoorKit
namespace Go.Proofs.YtoggpnfeioaidaaDoor
open Go.RowKit
open Go.RowKit
theorem at_any (n:Int) (t:TypeId) (v:Value) (w:World) :
  Calls Tryd.prog 18 #[.int .i64 n,.iface t v] w fun e w'=>e = .returned (.iface 90 (.pointer (some ⟨w.heap.size,0,none⟩)))∧w'=w.alloc (.cells #[.int .i64 n,.iface t v] 92):=by
 go_enter Tryd.func18,Tryd.ntmps18
 go_wp2
 all_goals go_ret
 all_goals exact ⟨rfl,rfl⟩
open Go.RowKit
end Go.Proofs.YtoggpnfeioaidaaDoor
