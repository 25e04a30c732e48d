/-
  NARROWER THAN 'FOR EVERY INPUT', by the rows' own cells (each row's printed sentence says how): CheckPoints: loops · CheckLeaves: loops · CheckOne: loops.
  DERIVED. THE GIVEN ROWS OF THIS SEAT. 3 by the template 'for every input the law returns true; each argument reads behind the call as it read before'; 0 by the template 'total and deterministic' (their statements: YtmlghmjjlpioeaaTotals.lean).
  GIVEN WITH THE SEED: the statements are not yours to turn. If you find one false, say at which input.
  Laid BY PROGRAM, IN A SANDBOX (cutbox-rows.mjs): the forced cells as the released guide's own fill.sh prints them over the translation 50e10b7f3f367622… (all of the seat's roots in one cut). By AI agents, Wed Nov 11 2026. No macro, syntax, notation, axiom, sorry.
-/
import Derived.Test.YtmlghmjjlpioeaaChecked
import GoSem.Claim
import GoSem.ClaimJoined
import GoSem.ClaimMapViews
import Derived.JoinedTies
import Derived.KernelRfl
namespace Go.Proofs.Ytmlghmjjlpioeaa
/- THE CELL 'sum', in the pinned program and in every row, IS THE sha256 OF THE DUMP (.gsa) THAT YtmlghmjjlpioeaaProg.lean LOADS. Nothing in Lean hashes anything: it is a label: what it is worth is what the hold of that sum in a sandbox is worth. -/
noncomputable def Try.pinned : Pinned := { name := "ytmlghmjjlpioeaa", sum := "50e10b7f3f367622ee3bcef427724f0fb76ec86c6165d498450d39bd980fba47", checked := Try.checked }
namespace Rows
def none {H : Type} : Left H := { results := [], args := [] }

/-- 'hyglaw18.CheckPoints': WHATEVER THE INPUT: true; the input reads as it did. -/
def checkPointsSpec : ChangeSpec := { name := "checkPoints", fn := fun _ => fun
  | [d1, d2, d3, d4] => { results := [.lit (.bool true)], args := [d1, d2, d3, d4] }
  | _ => none }
def checkPointsRow : OpenClaim := { program := "ytmlghmjjlpioeaa", sum := "50e10b7f3f367622ee3bcef427724f0fb76ec86c6165d498450d39bd980fba47", func := "hygrometer/hyglaw18.CheckPoints", spec := "checkPoints", recurses := true, loops := true, apart := false }
def CheckPointsSaid : Prop := checkPointsRow.holds Try.pinned (OpenSpec.ofChange checkPointsSpec)

/-- ITS FALSE NEIGHBOUR: 'it returns false'. Refute it at one input. -/
def checkPointsWrong : ChangeSpec := { name := "checkPoints", fn := fun _ => fun
  | [d1, d2, d3, d4] => { results := [.lit (.bool false)], args := [d1, d2, d3, d4] }
  | _ => none }
def CheckPointsWrongFalsely : Prop := checkPointsRow.holds Try.pinned (OpenSpec.ofChange checkPointsWrong)

/-- 'hyglaw18.CheckLeaves': WHATEVER THE INPUT: true; the input reads as it did. -/
def checkLeavesSpec : ChangeSpec := { name := "checkLeaves", fn := fun _ => fun
  | [d] => { results := [.lit (.bool true)], args := [d] }
  | _ => none }
def checkLeavesRow : OpenClaim := { program := "ytmlghmjjlpioeaa", sum := "50e10b7f3f367622ee3bcef427724f0fb76ec86c6165d498450d39bd980fba47", func := "hygrometer/hyglaw18.CheckLeaves", spec := "checkLeaves", unfollowed := true, recurses := true, loops := true, apart := false }
def CheckLeavesSaid : Prop := checkLeavesRow.holds Try.pinned (OpenSpec.ofChange checkLeavesSpec)

/-- ITS FALSE NEIGHBOUR: 'it returns false'. Refute it at one input. -/
def checkLeavesWrong : ChangeSpec := { name := "checkLeaves", fn := fun _ => fun
  | [d] => { results := [.lit (.bool false)], args := [d] }
  | _ => none }
def CheckLeavesWrongFalsely : Prop := checkLeavesRow.holds Try.pinned (OpenSpec.ofChange checkLeavesWrong)

/-- 'hyglaw18.CheckOne': WHATEVER THE INPUT: true; the input reads as it did. -/
def checkOneSpec : ChangeSpec := { name := "checkOne", fn := fun _ => fun
  | [d1, d2] => { results := [.lit (.bool true)], args := [d1, d2] }
  | _ => none }
def checkOneRow : OpenClaim := { program := "ytmlghmjjlpioeaa", sum := "50e10b7f3f367622ee3bcef427724f0fb76ec86c6165d498450d39bd980fba47", func := "hygrometer/hyglaw18.CheckOne", spec := "checkOne", recurses := true, loops := true, apart := false }
def CheckOneSaid : Prop := checkOneRow.holds Try.pinned (OpenSpec.ofChange checkOneSpec)

/-- ITS FALSE NEIGHBOUR: 'it returns false'. Refute it at one input. -/
def checkOneWrong : ChangeSpec := { name := "checkOne", fn := fun _ => fun
  | [d1, d2] => { results := [.lit (.bool false)], args := [d1, d2] }
  | _ => none }
def CheckOneWrongFalsely : Prop := checkOneRow.holds Try.pinned (OpenSpec.ofChange checkOneWrong)

/- THE SECOND FORM. 'bulk': how many values and letters a reading holds, each counted each time it is reached (what is shared counts as often as it is met; a slice's spare places count too). A statement '..UptoSaid' is the law's where the arguments, and the package variables that the reading takes, are together of bulk at most 1048576: NARROWER than '..Said'. Prove '..Said' where nothing that the law and all that it calls make is longer than what came in: it says more and counts as full. Else prove '..UptoSaid'. A law counts once. -/
mutual
def uptoBulk {H : Type} : DataW H → Nat
  | .lit (.string bytes) => bytes.length + 1
  | .lit _ => 1
  | .nil => 1
  | .ptr d => uptoBulk d + 1
  | .slice elems spare => uptoBulkAll elems + uptoBulkAll spare + 1
  | .agg parts => uptoBulkAll parts + 1
  | .iface _ d => uptoBulk d + 1
  | .map entries => uptoBulkEntries entries + 1
  | .held _ => 1
def uptoBulkAll {H : Type} : List (DataW H) → Nat
  | [] => 0
  | d :: r => uptoBulk d + uptoBulkAll r
def uptoBulkEntries {H : Type} : List (Lit × DataW H) → Nat
  | [] => 0
  | x :: r => uptoBulkEntry x + uptoBulkEntries r
def uptoBulkEntry {H : Type} : Lit × DataW H → Nat
  | (.string bytes, d) => bytes.length + uptoBulk d + 1
  | (_, d) => uptoBulk d + 1
 end
def uptoSmall : (H : Type) → List (DataW H) → Bool := fun _ ds => decide (uptoBulkAll ds ≤ 1048576)
def OpenSpec.upto (s : _root_.Go.ChangeSpec) : _root_.Go.OpenSpec := { _root_.Go.OpenSpec.ofChange s with cond := some uptoSmall }

/-- 'hyglaw18.CheckPoints', WHERE WHAT IT READS IS OF BULK AT MOST 1048576: true; the input reads as it did. -/
def checkPointsUptoRow : OpenClaim := { program := "ytmlghmjjlpioeaa", sum := "50e10b7f3f367622ee3bcef427724f0fb76ec86c6165d498450d39bd980fba47", func := "hygrometer/hyglaw18.CheckPoints", spec := "checkPoints", recurses := true, loops := true, apart := false, narrowed := true }
def CheckPointsUptoSaid : Prop := checkPointsUptoRow.holds Try.pinned (OpenSpec.upto checkPointsSpec)

/-- 'hyglaw18.CheckLeaves', WHERE WHAT IT READS IS OF BULK AT MOST 1048576: true; the input reads as it did. -/
def checkLeavesUptoRow : OpenClaim := { program := "ytmlghmjjlpioeaa", sum := "50e10b7f3f367622ee3bcef427724f0fb76ec86c6165d498450d39bd980fba47", func := "hygrometer/hyglaw18.CheckLeaves", spec := "checkLeaves", unfollowed := true, recurses := true, loops := true, apart := false, narrowed := true }
def CheckLeavesUptoSaid : Prop := checkLeavesUptoRow.holds Try.pinned (OpenSpec.upto checkLeavesSpec)

/-- 'hyglaw18.CheckOne', WHERE WHAT IT READS IS OF BULK AT MOST 1048576: true; the input reads as it did. -/
def checkOneUptoRow : OpenClaim := { program := "ytmlghmjjlpioeaa", sum := "50e10b7f3f367622ee3bcef427724f0fb76ec86c6165d498450d39bd980fba47", func := "hygrometer/hyglaw18.CheckOne", spec := "checkOne", recurses := true, loops := true, apart := false, narrowed := true }
def CheckOneUptoSaid : Prop := checkOneUptoRow.holds Try.pinned (OpenSpec.upto checkOneSpec)

end Rows
end Go.Proofs.Ytmlghmjjlpioeaa
