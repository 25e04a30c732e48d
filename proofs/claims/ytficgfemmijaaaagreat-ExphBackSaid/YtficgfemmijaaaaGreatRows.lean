/-
  NARROWER THAN 'FOR EVERY INPUT', by the rows' own cells (each row's printed sentence says how): ExphSame: loops · ExphBack: loops.
  DERIVED. THE GIVEN ROWS OF THIS SEAT. 3 by the template 'for every input the law returns true; each argument reads behind the call as it read before'; 0 by the template 'total and deterministic' (their statements: YtficgfemmijaaaaGreatTotals.lean).
  GIVEN WITH THE SEED: the statements are not yours to turn. If you find one false, say at which input.
  Laid BY PROGRAM, IN A SANDBOX (cutbox-rows.mjs): the forced cells as the released guide's own fill.sh prints them over the translation 7fdccc46970c35eb… (all of the seat's roots in one cut). By AI agents, Wed Nov 11 2026. No macro, syntax, notation, axiom, sorry.
-/
import Derived.Test.YtficgfemmijaaaaGreatChecked
import GoSem.Claim
import GoSem.ClaimJoined
import GoSem.ClaimMapViews
import Derived.JoinedTies
import Derived.KernelRfl
namespace Go.Proofs.YtficgfemmijaaaaGreat
/- THE CELL 'sum', in the pinned program and in every row, IS THE sha256 OF THE DUMP (.gsa) THAT YtficgfemmijaaaaGreatProg.lean LOADS. Nothing in Lean hashes anything: it is a label: what it is worth is what the hold of that sum in a sandbox is worth. -/
noncomputable def Tryz.pinned : Pinned := { name := "ytficgfemmijaaaagreat", sum := "7fdccc46970c35ebdc5c30f21e32b08d7d53d2d85be95a3d88f1279e3733a0b7", checked := Tryz.checked }
namespace Rows
def none {H : Type} : Left H := { results := [], args := [] }

/-- 'hyglaw14.ExphSame': WHATEVER THE INPUT: true; the input reads as it did. -/
def exphSameSpec : ChangeSpec := { name := "exphSame", fn := fun _ => fun
  | [d1, d2] => { results := [.lit (.bool true)], args := [d1, d2] }
  | _ => none }
def exphSameRow : OpenClaim := { program := "ytficgfemmijaaaagreat", sum := "7fdccc46970c35ebdc5c30f21e32b08d7d53d2d85be95a3d88f1279e3733a0b7", func := "hygrometer/hyglaw14.ExphSame", spec := "exphSame", inPlace := ["internal/abi.NoEscape", "internal/bytealg.MakeNoZero"], unfollowed := true, recurses := true, loops := true, apart := false }
def ExphSameSaid : Prop := exphSameRow.holds Tryz.pinned (OpenSpec.ofChange exphSameSpec)

/-- ITS FALSE NEIGHBOUR: 'it returns false'. Refute it at one input. -/
def exphSameWrong : ChangeSpec := { name := "exphSame", fn := fun _ => fun
  | [d1, d2] => { results := [.lit (.bool false)], args := [d1, d2] }
  | _ => none }
def ExphSameWrongFalsely : Prop := exphSameRow.holds Tryz.pinned (OpenSpec.ofChange exphSameWrong)

/-- 'hyglaw14.ExphBack': WHATEVER THE INPUT: true; the input reads as it did. -/
def exphBackSpec : ChangeSpec := { name := "exphBack", fn := fun _ => fun
  | [d1, d2, d3] => { results := [.lit (.bool true)], args := [d1, d2, d3] }
  | _ => none }
def exphBackRow : OpenClaim := { program := "ytficgfemmijaaaagreat", sum := "7fdccc46970c35ebdc5c30f21e32b08d7d53d2d85be95a3d88f1279e3733a0b7", func := "hygrometer/hyglaw14.ExphBack", spec := "exphBack", inPlace := ["internal/abi.NoEscape", "internal/bytealg.MakeNoZero"], unfollowed := true, recurses := true, loops := true, apart := false }
def ExphBackSaid : Prop := exphBackRow.holds Tryz.pinned (OpenSpec.ofChange exphBackSpec)

/-- ITS FALSE NEIGHBOUR: 'it returns false'. Refute it at one input. -/
def exphBackWrong : ChangeSpec := { name := "exphBack", fn := fun _ => fun
  | [d1, d2, d3] => { results := [.lit (.bool false)], args := [d1, d2, d3] }
  | _ => none }
def ExphBackWrongFalsely : Prop := exphBackRow.holds Tryz.pinned (OpenSpec.ofChange exphBackWrong)

/-- 'hyglaw14.ExphTwice': WHATEVER THE INPUT: true; the input reads as it did. -/
def exphTwiceSpec : ChangeSpec := { name := "exphTwice", fn := fun _ => fun
  | [d1, d2] => { results := [.lit (.bool true)], args := [d1, d2] }
  | _ => none }
def exphTwiceRow : OpenClaim := { program := "ytficgfemmijaaaagreat", sum := "7fdccc46970c35ebdc5c30f21e32b08d7d53d2d85be95a3d88f1279e3733a0b7", func := "hygrometer/hyglaw14.ExphTwice", spec := "exphTwice", inPlace := ["internal/abi.NoEscape", "internal/bytealg.MakeNoZero"], unfollowed := true, recurses := true, apart := false }
def ExphTwiceSaid : Prop := exphTwiceRow.holds Tryz.pinned (OpenSpec.ofChange exphTwiceSpec)

/-- ITS FALSE NEIGHBOUR: 'it returns false'. Refute it at one input. -/
def exphTwiceWrong : ChangeSpec := { name := "exphTwice", fn := fun _ => fun
  | [d1, d2] => { results := [.lit (.bool false)], args := [d1, d2] }
  | _ => none }
def ExphTwiceWrongFalsely : Prop := exphTwiceRow.holds Tryz.pinned (OpenSpec.ofChange exphTwiceWrong)

/- THE SECOND FORM. 'bulk': how many values and letters a reading holds, each counted each time it is reached (what is shared counts as often as it is met; a slice's spare places count too). A statement '..UptoSaid' is the law's where the arguments, and the package variables that the reading takes, are together of bulk at most 1048576: NARROWER than '..Said'. Prove '..Said' where nothing that the law and all that it calls make is longer than what came in: it says more and counts as full. Else prove '..UptoSaid'. A law counts once. -/
mutual
def uptoBulk {H : Type} : DataW H → Nat
  | .lit (.string bytes) => bytes.length + 1
  | .lit _ => 1
  | .nil => 1
  | .ptr d => uptoBulk d + 1
  | .slice elems spare => uptoBulkAll elems + uptoBulkAll spare + 1
  | .agg parts => uptoBulkAll parts + 1
  | .iface _ d => uptoBulk d + 1
  | .map entries => uptoBulkEntries entries + 1
  | .held _ => 1
def uptoBulkAll {H : Type} : List (DataW H) → Nat
  | [] => 0
  | d :: r => uptoBulk d + uptoBulkAll r
def uptoBulkEntries {H : Type} : List (Lit × DataW H) → Nat
  | [] => 0
  | x :: r => uptoBulkEntry x + uptoBulkEntries r
def uptoBulkEntry {H : Type} : Lit × DataW H → Nat
  | (.string bytes, d) => bytes.length + uptoBulk d + 1
  | (_, d) => uptoBulk d + 1
 end
def uptoSmall : (H : Type) → List (DataW H) → Bool := fun _ ds => decide (uptoBulkAll ds ≤ 1048576)
def OpenSpec.upto (s : _root_.Go.ChangeSpec) : _root_.Go.OpenSpec := { _root_.Go.OpenSpec.ofChange s with cond := some uptoSmall }

/-- 'hyglaw14.ExphSame', WHERE WHAT IT READS IS OF BULK AT MOST 1048576: true; the input reads as it did. -/
def exphSameUptoRow : OpenClaim := { program := "ytficgfemmijaaaagreat", sum := "7fdccc46970c35ebdc5c30f21e32b08d7d53d2d85be95a3d88f1279e3733a0b7", func := "hygrometer/hyglaw14.ExphSame", spec := "exphSame", inPlace := ["internal/abi.NoEscape", "internal/bytealg.MakeNoZero"], unfollowed := true, recurses := true, loops := true, apart := false, narrowed := true }
def ExphSameUptoSaid : Prop := exphSameUptoRow.holds Tryz.pinned (OpenSpec.upto exphSameSpec)

/-- 'hyglaw14.ExphBack', WHERE WHAT IT READS IS OF BULK AT MOST 1048576: true; the input reads as it did. -/
def exphBackUptoRow : OpenClaim := { program := "ytficgfemmijaaaagreat", sum := "7fdccc46970c35ebdc5c30f21e32b08d7d53d2d85be95a3d88f1279e3733a0b7", func := "hygrometer/hyglaw14.ExphBack", spec := "exphBack", inPlace := ["internal/abi.NoEscape", "internal/bytealg.MakeNoZero"], unfollowed := true, recurses := true, loops := true, apart := false, narrowed := true }
def ExphBackUptoSaid : Prop := exphBackUptoRow.holds Tryz.pinned (OpenSpec.upto exphBackSpec)

/-- 'hyglaw14.ExphTwice', WHERE WHAT IT READS IS OF BULK AT MOST 1048576: true; the input reads as it did. -/
def exphTwiceUptoRow : OpenClaim := { program := "ytficgfemmijaaaagreat", sum := "7fdccc46970c35ebdc5c30f21e32b08d7d53d2d85be95a3d88f1279e3733a0b7", func := "hygrometer/hyglaw14.ExphTwice", spec := "exphTwice", inPlace := ["internal/abi.NoEscape", "internal/bytealg.MakeNoZero"], unfollowed := true, recurses := true, apart := false, narrowed := true }
def ExphTwiceUptoSaid : Prop := exphTwiceUptoRow.holds Tryz.pinned (OpenSpec.upto exphTwiceSpec)

end Rows
end Go.Proofs.YtficgfemmijaaaaGreat
