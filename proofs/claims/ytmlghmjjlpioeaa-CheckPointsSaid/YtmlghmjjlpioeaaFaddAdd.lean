/-
  FaddF, FaddAdd
-/
import Derived.Test.YtmlghmjjlpioeaaFaddA
import Derived.Lib.MinMax
namespace Go.Proofs.Ytmlghmjjlpioeaa
open Go.RowKit
open Lib (hid)
theorem join_sign (s r:Nat)(hs:s=0∨s=1)(hr:r<2^63):bits .or .u64 ((s * 2^63:Nat):Int) (r:Int)=((s * 2^63+r:Nat):Int) :=
 join64 _ _ 63 (by omega) hr (by omega)
open Go.RowKit
theorem class_is (a:Nat)(w:World)(ha:a<2^64){c:Int}(hC:Hid (c=(Fm.cls a:Nat))) :
  Calls Try.prog 41 #[.int .u64 a] w fun e w'=>e = .returned (.int .i64 c)∧w=w':=by
 rw[hC.out]
 exact class_any a w ha
end Go.Proofs.Ytmlghmjjlpioeaa
