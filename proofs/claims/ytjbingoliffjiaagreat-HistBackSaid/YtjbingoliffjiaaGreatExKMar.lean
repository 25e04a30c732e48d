/-
  exem.Marshal, May, Size of any exemplar.
-/
import Derived.Test.YtjbingoliffjiaaGreatExMar
import Derived.Test.YtjbingoliffjiaaGreatValMar
namespace Go.Proofs.YtjbingoliffjiaaGreat
open Go.RowKit
theorem ex_marshal (x : Ex) (cs : List Value) (Q : Nat → Prop) (d : Int) (w : World) (hf : ex_fit x) (hr : exCel.R w Q x cs) (hd : -9223372036854775808 ≤ d ∧ d ≤ 9223372036854775807) :
  Calls Tryz.prog 32 #[.agg cs.toArray, .int .i64 d] w (MarPost (ex_may d x) (ex_out x) w) := ex_marshal_if x (Lib.hid fun _ => kmar_any) cs Q d w hf hr hd
end Go.Proofs.YtjbingoliffjiaaGreat
