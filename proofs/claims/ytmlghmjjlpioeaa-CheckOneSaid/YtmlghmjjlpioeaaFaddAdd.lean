/-
  Doubles added: Add, Sub.
-/
import Derived.Test.YtmlghmjjlpioeaaFaddA
import Derived.Lib.MinMax
namespace Go.Proofs.Ytmlghmjjlpioeaa
open Go.RowKit
open Lib (hid)
theorem class_is (a:Nat)(w:World)(ha:a<2^64){c:Int}(hC:Hid (c=(Fm.cls a:Nat))) :
  Calls Try.prog 41 #[.int .u64 a] w fun e w'=>e = .returned (.int .i64 c)∧w=w':=by
 rw[hC.out]
 exact class_any a w ha
end Go.Proofs.Ytmlghmjjlpioeaa
