/-
  NARROWER THAN 'FOR EVERY INPUT', by the rows' own cells (each row's printed sentence says how): CheckPoints: loops · CheckOne: loops.
  DERIVED. THE GIVEN ROWS OF THIS SEAT. 4 by the template 'for every input the law returns true; each argument reads behind the call as it read before'; 0 by the template 'total and deterministic' (their statements: YtficgfemmijaaaaTotals.lean).
  GIVEN WITH THE SEED: the statements are not yours to turn. If you find one false, say at which input.
  Laid BY PROGRAM, IN A SANDBOX (cutbox-rows.mjs): the forced cells as the released guide's own fill.sh prints them over the translation 33853f4fb0da1f54… (all of the seat's roots in one cut). By AI agents, Wed Nov 11 2026. No macro, syntax, notation, axiom, sorry.
-/
import Derived.Test.YtficgfemmijaaaaChecked
import GoSem.Claim
import GoSem.ClaimJoined
import GoSem.ClaimMapViews
import Derived.JoinedTies
import Derived.KernelRfl
namespace Go.Proofs.Ytficgfemmijaaaa
/- THE CELL 'sum', in the pinned program and in every row, IS THE sha256 OF THE DUMP (.gsa) THAT YtficgfemmijaaaaProg.lean LOADS. Nothing in Lean hashes anything: it is a label: what it is worth is what the hold of that sum in a sandbox is worth. -/
noncomputable def Try.pinned : Pinned := { name := "ytficgfemmijaaaa", sum := "33853f4fb0da1f5498d8731221cbca36eebeaf6c399eeb4b4a7e92ebfaefbc48", checked := Try.checked }
namespace Rows
def none {H : Type} : Left H := { results := [], args := [] }

/-- 'hyglaw14.ExphJoins': WHATEVER THE INPUT: true; the input reads as it did. -/
def exphJoinsSpec : ChangeSpec := { name := "exphJoins", fn := fun _ => fun
  | [d1, d2, d3] => { results := [.lit (.bool true)], args := [d1, d2, d3] }
  | _ => none }
def exphJoinsRow : OpenClaim := { program := "ytficgfemmijaaaa", sum := "33853f4fb0da1f5498d8731221cbca36eebeaf6c399eeb4b4a7e92ebfaefbc48", func := "hygrometer/hyglaw14.ExphJoins", spec := "exphJoins", inPlace := ["internal/abi.NoEscape", "internal/bytealg.MakeNoZero"], unfollowed := true, recurses := true, apart := false }
def ExphJoinsSaid : Prop := exphJoinsRow.holds Try.pinned (OpenSpec.ofChange exphJoinsSpec)

/-- ITS FALSE NEIGHBOUR: 'it returns false'. Refute it at one input. -/
def exphJoinsWrong : ChangeSpec := { name := "exphJoins", fn := fun _ => fun
  | [d1, d2, d3] => { results := [.lit (.bool false)], args := [d1, d2, d3] }
  | _ => none }
def ExphJoinsWrongFalsely : Prop := exphJoinsRow.holds Try.pinned (OpenSpec.ofChange exphJoinsWrong)

/-- 'hyglaw14.ExphOthers': WHATEVER THE INPUT: true; the input reads as it did. -/
def exphOthersSpec : ChangeSpec := { name := "exphOthers", fn := fun _ => fun
  | [d1, d2, d3, d4] => { results := [.lit (.bool true)], args := [d1, d2, d3, d4] }
  | _ => none }
def exphOthersRow : OpenClaim := { program := "ytficgfemmijaaaa", sum := "33853f4fb0da1f5498d8731221cbca36eebeaf6c399eeb4b4a7e92ebfaefbc48", func := "hygrometer/hyglaw14.ExphOthers", spec := "exphOthers", inPlace := ["internal/abi.NoEscape", "internal/bytealg.MakeNoZero"], unfollowed := true, recurses := true, apart := false }
def ExphOthersSaid : Prop := exphOthersRow.holds Try.pinned (OpenSpec.ofChange exphOthersSpec)

/-- ITS FALSE NEIGHBOUR: 'it returns false'. Refute it at one input. -/
def exphOthersWrong : ChangeSpec := { name := "exphOthers", fn := fun _ => fun
  | [d1, d2, d3, d4] => { results := [.lit (.bool false)], args := [d1, d2, d3, d4] }
  | _ => none }
def ExphOthersWrongFalsely : Prop := exphOthersRow.holds Try.pinned (OpenSpec.ofChange exphOthersWrong)

/-- 'hyglaw18.CheckPoints': WHATEVER THE INPUT: true; the input reads as it did. -/
def checkPointsSpec : ChangeSpec := { name := "checkPoints", fn := fun _ => fun
  | [d1, d2, d3, d4] => { results := [.lit (.bool true)], args := [d1, d2, d3, d4] }
  | _ => none }
def checkPointsRow : OpenClaim := { program := "ytficgfemmijaaaa", sum := "33853f4fb0da1f5498d8731221cbca36eebeaf6c399eeb4b4a7e92ebfaefbc48", func := "hygrometer/hyglaw18.CheckPoints", spec := "checkPoints", recurses := true, loops := true, apart := false }
def CheckPointsSaid : Prop := checkPointsRow.holds Try.pinned (OpenSpec.ofChange checkPointsSpec)

/-- ITS FALSE NEIGHBOUR: 'it returns false'. Refute it at one input. -/
def checkPointsWrong : ChangeSpec := { name := "checkPoints", fn := fun _ => fun
  | [d1, d2, d3, d4] => { results := [.lit (.bool false)], args := [d1, d2, d3, d4] }
  | _ => none }
def CheckPointsWrongFalsely : Prop := checkPointsRow.holds Try.pinned (OpenSpec.ofChange checkPointsWrong)

/-- 'hyglaw18.CheckOne': WHATEVER THE INPUT: true; the input reads as it did. -/
def checkOneSpec : ChangeSpec := { name := "checkOne", fn := fun _ => fun
  | [d1, d2] => { results := [.lit (.bool true)], args := [d1, d2] }
  | _ => none }
def checkOneRow : OpenClaim := { program := "ytficgfemmijaaaa", sum := "33853f4fb0da1f5498d8731221cbca36eebeaf6c399eeb4b4a7e92ebfaefbc48", func := "hygrometer/hyglaw18.CheckOne", spec := "checkOne", recurses := true, loops := true, apart := false }
def CheckOneSaid : Prop := checkOneRow.holds Try.pinned (OpenSpec.ofChange checkOneSpec)

/-- ITS FALSE NEIGHBOUR: 'it returns false'. Refute it at one input. -/
def checkOneWrong : ChangeSpec := { name := "checkOne", fn := fun _ => fun
  | [d1, d2] => { results := [.lit (.bool false)], args := [d1, d2] }
  | _ => none }
def CheckOneWrongFalsely : Prop := checkOneRow.holds Try.pinned (OpenSpec.ofChange checkOneWrong)

/- THE SECOND FORM. 'bulk': how many values and letters a reading holds, each counted each time it is reached (what is shared counts as often as it is met; a slice's spare places count too). A statement '..UptoSaid' is the law's where the arguments, and the package variables that the reading takes, are together of bulk at most 1048576: NARROWER than '..Said'. Prove '..Said' where nothing that the law and all that it calls make is longer than what came in: it says more and counts as full. Else prove '..UptoSaid'. A law counts once. -/
mutual
def uptoBulk {H : Type} : DataW H → Nat
  | .lit (.string bytes) => bytes.length + 1
  | .lit _ => 1
  | .nil => 1
  | .ptr d => uptoBulk d + 1
  | .slice elems spare => uptoBulkAll elems + uptoBulkAll spare + 1
  | .agg parts => uptoBulkAll parts + 1
  | .iface _ d => uptoBulk d + 1
  | .map entries => uptoBulkEntries entries + 1
  | .held _ => 1
def uptoBulkAll {H : Type} : List (DataW H) → Nat
  | [] => 0
  | d :: r => uptoBulk d + uptoBulkAll r
def uptoBulkEntries {H : Type} : List (Lit × DataW H) → Nat
  | [] => 0
  | x :: r => uptoBulkEntry x + uptoBulkEntries r
def uptoBulkEntry {H : Type} : Lit × DataW H → Nat
  | (.string bytes, d) => bytes.length + uptoBulk d + 1
  | (_, d) => uptoBulk d + 1
 end
def uptoSmall : (H : Type) → List (DataW H) → Bool := fun _ ds => decide (uptoBulkAll ds ≤ 1048576)
def OpenSpec.upto (s : _root_.Go.ChangeSpec) : _root_.Go.OpenSpec := { _root_.Go.OpenSpec.ofChange s with cond := some uptoSmall }

/-- 'hyglaw14.ExphJoins', WHERE WHAT IT READS IS OF BULK AT MOST 1048576: true; the input reads as it did. -/
def exphJoinsUptoRow : OpenClaim := { program := "ytficgfemmijaaaa", sum := "33853f4fb0da1f5498d8731221cbca36eebeaf6c399eeb4b4a7e92ebfaefbc48", func := "hygrometer/hyglaw14.ExphJoins", spec := "exphJoins", inPlace := ["internal/abi.NoEscape", "internal/bytealg.MakeNoZero"], unfollowed := true, recurses := true, apart := false, narrowed := true }
def ExphJoinsUptoSaid : Prop := exphJoinsUptoRow.holds Try.pinned (OpenSpec.upto exphJoinsSpec)

/-- 'hyglaw14.ExphOthers', WHERE WHAT IT READS IS OF BULK AT MOST 1048576: true; the input reads as it did. -/
def exphOthersUptoRow : OpenClaim := { program := "ytficgfemmijaaaa", sum := "33853f4fb0da1f5498d8731221cbca36eebeaf6c399eeb4b4a7e92ebfaefbc48", func := "hygrometer/hyglaw14.ExphOthers", spec := "exphOthers", inPlace := ["internal/abi.NoEscape", "internal/bytealg.MakeNoZero"], unfollowed := true, recurses := true, apart := false, narrowed := true }
def ExphOthersUptoSaid : Prop := exphOthersUptoRow.holds Try.pinned (OpenSpec.upto exphOthersSpec)

/-- 'hyglaw18.CheckPoints', WHERE WHAT IT READS IS OF BULK AT MOST 1048576: true; the input reads as it did. -/
def checkPointsUptoRow : OpenClaim := { program := "ytficgfemmijaaaa", sum := "33853f4fb0da1f5498d8731221cbca36eebeaf6c399eeb4b4a7e92ebfaefbc48", func := "hygrometer/hyglaw18.CheckPoints", spec := "checkPoints", recurses := true, loops := true, apart := false, narrowed := true }
def CheckPointsUptoSaid : Prop := checkPointsUptoRow.holds Try.pinned (OpenSpec.upto checkPointsSpec)

/-- 'hyglaw18.CheckOne', WHERE WHAT IT READS IS OF BULK AT MOST 1048576: true; the input reads as it did. -/
def checkOneUptoRow : OpenClaim := { program := "ytficgfemmijaaaa", sum := "33853f4fb0da1f5498d8731221cbca36eebeaf6c399eeb4b4a7e92ebfaefbc48", func := "hygrometer/hyglaw18.CheckOne", spec := "checkOne", recurses := true, loops := true, apart := false, narrowed := true }
def CheckOneUptoSaid : Prop := checkOneUptoRow.holds Try.pinned (OpenSpec.upto checkOneSpec)

end Rows
end Go.Proofs.Ytficgfemmijaaaa
