/-
  NARROWER THAN 'FOR EVERY INPUT', by the rows' own cells (each row's printed sentence says how): NumberReads: laid · NumberWrites: loops, laid · HistReads: laid · HistWrites: loops, laid · HistDeep: laid · SummReads: laid · SummWrites: loops, laid.
  DERIVED. THE GIVEN ROWS OF THIS SEAT. 7 by the template 'for every input the law returns true; each argument reads behind the call as it read before'; 0 by the template 'total and deterministic' (their statements: YtjbingoliffjiaaGreatDoorTotals.lean).
  GIVEN WITH THE SEED: the statements are not yours to turn. If you find one false, say at which input.
  Laid BY PROGRAM, IN A SANDBOX (cutbox-rows.mjs): the forced cells as the released guide's own fill.sh prints them over the translation 195695b142e283d3… (all of the seat's roots in one cut). By AI agents, Wed Nov 11 2026. No macro, syntax, notation, axiom, sorry.
-/
import Derived.Test.YtjbingoliffjiaaGreatDoorChecked
import GoSem.Claim
import GoSem.ClaimJoined
import GoSem.ClaimMapViews
import Derived.JoinedTies
import Derived.KernelRfl
namespace Go.Proofs.YtjbingoliffjiaaGreatDoor
/- THE CELL 'sum', in the pinned program and in every row, IS THE sha256 OF THE DUMP (.gsa) THAT YtjbingoliffjiaaGreatDoorProg.lean LOADS. Nothing in Lean hashes anything: it is a label: what it is worth is what the hold of that sum in a sandbox is worth. -/
noncomputable def Tryz.pinned : Pinned := { name := "ytjbingoliffjiaagreatdoor", sum := "195695b142e283d377c6b28ed7f79587adad33cf8ec3bd84c04cbaacde4cac46", checked := Tryz.checked }
namespace Rows
def none {H : Type} : Left H := { results := [], args := [] }

/- WHAT THE LISTED PACKAGE-LEVEL VARIABLES READ AS WHEN THE CALL BEGINS. Each datum BY PROGRAM (the guide's laid-datum.mjs) off the statement by which the dump's own 'gosem.cut.vars' lays the variable. In a bare row this is a premise. The card (YtjbingoliffjiaaGreatDoorCards.lean) ties it to the program's text. -/
def laid_errors_errorType {H : Type} : DataW H := .iface "internal/reflectlite.rtype" (.agg [.ptr (.lit (.string [101, 114, 114, 111, 114]))])

/-- 'hyglaw12.NumberReads': WHATEVER THE INPUT: true; the input reads as it did. -/
def numberReadsSpec : ChangeSpec := { name := "numberReads", fn := fun _ => fun
  | [d1, d2] => { results := [.lit (.bool true)], args := [d1, d2] }
  | _ => none }
def numberReadsRow : OpenClaim := { program := "ytjbingoliffjiaagreatdoor", sum := "195695b142e283d377c6b28ed7f79587adad33cf8ec3bd84c04cbaacde4cac46", func := "hygrometer/hyglaw12.NumberReads", spec := "numberReads", inPlace := ["internal/abi.NoEscape", "internal/bytealg.MakeNoZero", "internal/reflectlite.ValueOf", "(internal/reflectlite.Value).Type", "(internal/reflectlite.Value).IsNil", "internal/reflectlite.TypeOf", "(internal/reflectlite.Value).Elem", "(internal/reflectlite.Value).Set"], unfollowed := true, recurses := true, named := ["errors.errorType"], apart := false, laid := [("errors.errorType", laid_errors_errorType)] }
def NumberReadsSaid : Prop := numberReadsRow.holds Tryz.pinned (OpenSpec.ofChange numberReadsSpec)

/-- ITS FALSE NEIGHBOUR: 'it returns false'. Refute it at one input. -/
def numberReadsWrong : ChangeSpec := { name := "numberReads", fn := fun _ => fun
  | [d1, d2] => { results := [.lit (.bool false)], args := [d1, d2] }
  | _ => none }
def NumberReadsWrongFalsely : Prop := numberReadsRow.holds Tryz.pinned (OpenSpec.ofChange numberReadsWrong)

/-- 'hyglaw12.NumberWrites': WHATEVER THE INPUT: true; the input reads as it did. -/
def numberWritesSpec : ChangeSpec := { name := "numberWrites", fn := fun _ => fun
  | [d1, d2] => { results := [.lit (.bool true)], args := [d1, d2] }
  | _ => none }
def numberWritesRow : OpenClaim := { program := "ytjbingoliffjiaagreatdoor", sum := "195695b142e283d377c6b28ed7f79587adad33cf8ec3bd84c04cbaacde4cac46", func := "hygrometer/hyglaw12.NumberWrites", spec := "numberWrites", inPlace := ["internal/abi.NoEscape", "internal/bytealg.MakeNoZero", "internal/reflectlite.ValueOf", "(internal/reflectlite.Value).Type", "(internal/reflectlite.Value).IsNil", "internal/reflectlite.TypeOf", "(internal/reflectlite.Value).Elem", "(internal/reflectlite.Value).Set"], unfollowed := true, recurses := true, named := ["errors.errorType"], loops := true, apart := false, laid := [("errors.errorType", laid_errors_errorType)] }
def NumberWritesSaid : Prop := numberWritesRow.holds Tryz.pinned (OpenSpec.ofChange numberWritesSpec)

/-- ITS FALSE NEIGHBOUR: 'it returns false'. Refute it at one input. -/
def numberWritesWrong : ChangeSpec := { name := "numberWrites", fn := fun _ => fun
  | [d1, d2] => { results := [.lit (.bool false)], args := [d1, d2] }
  | _ => none }
def NumberWritesWrongFalsely : Prop := numberWritesRow.holds Tryz.pinned (OpenSpec.ofChange numberWritesWrong)

/-- 'hyglaw13.HistReads': WHATEVER THE INPUT: true; the input reads as it did. -/
def histReadsSpec : ChangeSpec := { name := "histReads", fn := fun _ => fun
  | [d1, d2] => { results := [.lit (.bool true)], args := [d1, d2] }
  | _ => none }
def histReadsRow : OpenClaim := { program := "ytjbingoliffjiaagreatdoor", sum := "195695b142e283d377c6b28ed7f79587adad33cf8ec3bd84c04cbaacde4cac46", func := "hygrometer/hyglaw13.HistReads", spec := "histReads", inPlace := ["internal/abi.NoEscape", "internal/bytealg.MakeNoZero", "internal/reflectlite.ValueOf", "(internal/reflectlite.Value).Type", "(internal/reflectlite.Value).IsNil", "internal/reflectlite.TypeOf", "(internal/reflectlite.Value).Elem", "(internal/reflectlite.Value).Set"], unfollowed := true, recurses := true, named := ["errors.errorType"], apart := false, laid := [("errors.errorType", laid_errors_errorType)] }
def HistReadsSaid : Prop := histReadsRow.holds Tryz.pinned (OpenSpec.ofChange histReadsSpec)

/-- ITS FALSE NEIGHBOUR: 'it returns false'. Refute it at one input. -/
def histReadsWrong : ChangeSpec := { name := "histReads", fn := fun _ => fun
  | [d1, d2] => { results := [.lit (.bool false)], args := [d1, d2] }
  | _ => none }
def HistReadsWrongFalsely : Prop := histReadsRow.holds Tryz.pinned (OpenSpec.ofChange histReadsWrong)

/-- 'hyglaw13.HistWrites': WHATEVER THE INPUT: true; the input reads as it did. -/
def histWritesSpec : ChangeSpec := { name := "histWrites", fn := fun _ => fun
  | [d1, d2] => { results := [.lit (.bool true)], args := [d1, d2] }
  | _ => none }
def histWritesRow : OpenClaim := { program := "ytjbingoliffjiaagreatdoor", sum := "195695b142e283d377c6b28ed7f79587adad33cf8ec3bd84c04cbaacde4cac46", func := "hygrometer/hyglaw13.HistWrites", spec := "histWrites", inPlace := ["internal/abi.NoEscape", "internal/bytealg.MakeNoZero", "internal/reflectlite.ValueOf", "(internal/reflectlite.Value).Type", "(internal/reflectlite.Value).IsNil", "internal/reflectlite.TypeOf", "(internal/reflectlite.Value).Elem", "(internal/reflectlite.Value).Set"], unfollowed := true, recurses := true, named := ["errors.errorType"], loops := true, apart := false, laid := [("errors.errorType", laid_errors_errorType)] }
def HistWritesSaid : Prop := histWritesRow.holds Tryz.pinned (OpenSpec.ofChange histWritesSpec)

/-- ITS FALSE NEIGHBOUR: 'it returns false'. Refute it at one input. -/
def histWritesWrong : ChangeSpec := { name := "histWrites", fn := fun _ => fun
  | [d1, d2] => { results := [.lit (.bool false)], args := [d1, d2] }
  | _ => none }
def HistWritesWrongFalsely : Prop := histWritesRow.holds Tryz.pinned (OpenSpec.ofChange histWritesWrong)

/-- 'hyglaw13.HistDeep': WHATEVER THE INPUT: true; the input reads as it did. -/
def histDeepSpec : ChangeSpec := { name := "histDeep", fn := fun _ => fun
  | [d1, d2] => { results := [.lit (.bool true)], args := [d1, d2] }
  | _ => none }
def histDeepRow : OpenClaim := { program := "ytjbingoliffjiaagreatdoor", sum := "195695b142e283d377c6b28ed7f79587adad33cf8ec3bd84c04cbaacde4cac46", func := "hygrometer/hyglaw13.HistDeep", spec := "histDeep", inPlace := ["internal/abi.NoEscape", "internal/bytealg.MakeNoZero", "internal/reflectlite.ValueOf", "(internal/reflectlite.Value).Type", "(internal/reflectlite.Value).IsNil", "internal/reflectlite.TypeOf", "(internal/reflectlite.Value).Elem", "(internal/reflectlite.Value).Set"], unfollowed := true, recurses := true, named := ["errors.errorType"], apart := false, laid := [("errors.errorType", laid_errors_errorType)] }
def HistDeepSaid : Prop := histDeepRow.holds Tryz.pinned (OpenSpec.ofChange histDeepSpec)

/-- ITS FALSE NEIGHBOUR: 'it returns false'. Refute it at one input. -/
def histDeepWrong : ChangeSpec := { name := "histDeep", fn := fun _ => fun
  | [d1, d2] => { results := [.lit (.bool false)], args := [d1, d2] }
  | _ => none }
def HistDeepWrongFalsely : Prop := histDeepRow.holds Tryz.pinned (OpenSpec.ofChange histDeepWrong)

/-- 'hyglaw15.SummReads': WHATEVER THE INPUT: true; the input reads as it did. -/
def summReadsSpec : ChangeSpec := { name := "summReads", fn := fun _ => fun
  | [d1, d2] => { results := [.lit (.bool true)], args := [d1, d2] }
  | _ => none }
def summReadsRow : OpenClaim := { program := "ytjbingoliffjiaagreatdoor", sum := "195695b142e283d377c6b28ed7f79587adad33cf8ec3bd84c04cbaacde4cac46", func := "hygrometer/hyglaw15.SummReads", spec := "summReads", inPlace := ["internal/abi.NoEscape", "internal/bytealg.MakeNoZero", "internal/reflectlite.ValueOf", "(internal/reflectlite.Value).Type", "(internal/reflectlite.Value).IsNil", "internal/reflectlite.TypeOf", "(internal/reflectlite.Value).Elem", "(internal/reflectlite.Value).Set"], unfollowed := true, recurses := true, named := ["errors.errorType"], apart := false, laid := [("errors.errorType", laid_errors_errorType)] }
def SummReadsSaid : Prop := summReadsRow.holds Tryz.pinned (OpenSpec.ofChange summReadsSpec)

/-- ITS FALSE NEIGHBOUR: 'it returns false'. Refute it at one input. -/
def summReadsWrong : ChangeSpec := { name := "summReads", fn := fun _ => fun
  | [d1, d2] => { results := [.lit (.bool false)], args := [d1, d2] }
  | _ => none }
def SummReadsWrongFalsely : Prop := summReadsRow.holds Tryz.pinned (OpenSpec.ofChange summReadsWrong)

/-- 'hyglaw15.SummWrites': WHATEVER THE INPUT: true; the input reads as it did. -/
def summWritesSpec : ChangeSpec := { name := "summWrites", fn := fun _ => fun
  | [d1, d2] => { results := [.lit (.bool true)], args := [d1, d2] }
  | _ => none }
def summWritesRow : OpenClaim := { program := "ytjbingoliffjiaagreatdoor", sum := "195695b142e283d377c6b28ed7f79587adad33cf8ec3bd84c04cbaacde4cac46", func := "hygrometer/hyglaw15.SummWrites", spec := "summWrites", inPlace := ["internal/abi.NoEscape", "internal/bytealg.MakeNoZero", "internal/reflectlite.ValueOf", "(internal/reflectlite.Value).Type", "(internal/reflectlite.Value).IsNil", "internal/reflectlite.TypeOf", "(internal/reflectlite.Value).Elem", "(internal/reflectlite.Value).Set"], unfollowed := true, recurses := true, named := ["errors.errorType"], loops := true, apart := false, laid := [("errors.errorType", laid_errors_errorType)] }
def SummWritesSaid : Prop := summWritesRow.holds Tryz.pinned (OpenSpec.ofChange summWritesSpec)

/-- ITS FALSE NEIGHBOUR: 'it returns false'. Refute it at one input. -/
def summWritesWrong : ChangeSpec := { name := "summWrites", fn := fun _ => fun
  | [d1, d2] => { results := [.lit (.bool false)], args := [d1, d2] }
  | _ => none }
def SummWritesWrongFalsely : Prop := summWritesRow.holds Tryz.pinned (OpenSpec.ofChange summWritesWrong)

/- THE SECOND FORM. 'bulk': how many values and letters a reading holds, each counted each time it is reached (what is shared counts as often as it is met; a slice's spare places count too). A statement '..UptoSaid' is the law's where the arguments, and the package variables that the reading takes, are together of bulk at most 1048576: NARROWER than '..Said'. Prove '..Said' where nothing that the law and all that it calls make is longer than what came in: it says more and counts as full. Else prove '..UptoSaid'. A law counts once. -/
mutual
def uptoBulk {H : Type} : DataW H → Nat
  | .lit (.string bytes) => bytes.length + 1
  | .lit _ => 1
  | .nil => 1
  | .ptr d => uptoBulk d + 1
  | .slice elems spare => uptoBulkAll elems + uptoBulkAll spare + 1
  | .agg parts => uptoBulkAll parts + 1
  | .iface _ d => uptoBulk d + 1
  | .map entries => uptoBulkEntries entries + 1
  | .held _ => 1
def uptoBulkAll {H : Type} : List (DataW H) → Nat
  | [] => 0
  | d :: r => uptoBulk d + uptoBulkAll r
def uptoBulkEntries {H : Type} : List (Lit × DataW H) → Nat
  | [] => 0
  | x :: r => uptoBulkEntry x + uptoBulkEntries r
def uptoBulkEntry {H : Type} : Lit × DataW H → Nat
  | (.string bytes, d) => bytes.length + uptoBulk d + 1
  | (_, d) => uptoBulk d + 1
 end
def uptoSmall : (H : Type) → List (DataW H) → Bool := fun _ ds => decide (uptoBulkAll ds ≤ 1048576)
def OpenSpec.upto (s : _root_.Go.ChangeSpec) : _root_.Go.OpenSpec := { _root_.Go.OpenSpec.ofChange s with cond := some uptoSmall }

/-- 'hyglaw12.NumberReads', WHERE WHAT IT READS IS OF BULK AT MOST 1048576: true; the input reads as it did. -/
def numberReadsUptoRow : OpenClaim := { program := "ytjbingoliffjiaagreatdoor", sum := "195695b142e283d377c6b28ed7f79587adad33cf8ec3bd84c04cbaacde4cac46", func := "hygrometer/hyglaw12.NumberReads", spec := "numberReads", inPlace := ["internal/abi.NoEscape", "internal/bytealg.MakeNoZero", "internal/reflectlite.ValueOf", "(internal/reflectlite.Value).Type", "(internal/reflectlite.Value).IsNil", "internal/reflectlite.TypeOf", "(internal/reflectlite.Value).Elem", "(internal/reflectlite.Value).Set"], unfollowed := true, recurses := true, named := ["errors.errorType"], apart := false, laid := [("errors.errorType", laid_errors_errorType)], narrowed := true }
def NumberReadsUptoSaid : Prop := numberReadsUptoRow.holds Tryz.pinned (OpenSpec.upto numberReadsSpec)

/-- 'hyglaw12.NumberWrites', WHERE WHAT IT READS IS OF BULK AT MOST 1048576: true; the input reads as it did. -/
def numberWritesUptoRow : OpenClaim := { program := "ytjbingoliffjiaagreatdoor", sum := "195695b142e283d377c6b28ed7f79587adad33cf8ec3bd84c04cbaacde4cac46", func := "hygrometer/hyglaw12.NumberWrites", spec := "numberWrites", inPlace := ["internal/abi.NoEscape", "internal/bytealg.MakeNoZero", "internal/reflectlite.ValueOf", "(internal/reflectlite.Value).Type", "(internal/reflectlite.Value).IsNil", "internal/reflectlite.TypeOf", "(internal/reflectlite.Value).Elem", "(internal/reflectlite.Value).Set"], unfollowed := true, recurses := true, named := ["errors.errorType"], loops := true, apart := false, laid := [("errors.errorType", laid_errors_errorType)], narrowed := true }
def NumberWritesUptoSaid : Prop := numberWritesUptoRow.holds Tryz.pinned (OpenSpec.upto numberWritesSpec)

/-- 'hyglaw13.HistReads', WHERE WHAT IT READS IS OF BULK AT MOST 1048576: true; the input reads as it did. -/
def histReadsUptoRow : OpenClaim := { program := "ytjbingoliffjiaagreatdoor", sum := "195695b142e283d377c6b28ed7f79587adad33cf8ec3bd84c04cbaacde4cac46", func := "hygrometer/hyglaw13.HistReads", spec := "histReads", inPlace := ["internal/abi.NoEscape", "internal/bytealg.MakeNoZero", "internal/reflectlite.ValueOf", "(internal/reflectlite.Value).Type", "(internal/reflectlite.Value).IsNil", "internal/reflectlite.TypeOf", "(internal/reflectlite.Value).Elem", "(internal/reflectlite.Value).Set"], unfollowed := true, recurses := true, named := ["errors.errorType"], apart := false, laid := [("errors.errorType", laid_errors_errorType)], narrowed := true }
def HistReadsUptoSaid : Prop := histReadsUptoRow.holds Tryz.pinned (OpenSpec.upto histReadsSpec)

/-- 'hyglaw13.HistWrites', WHERE WHAT IT READS IS OF BULK AT MOST 1048576: true; the input reads as it did. -/
def histWritesUptoRow : OpenClaim := { program := "ytjbingoliffjiaagreatdoor", sum := "195695b142e283d377c6b28ed7f79587adad33cf8ec3bd84c04cbaacde4cac46", func := "hygrometer/hyglaw13.HistWrites", spec := "histWrites", inPlace := ["internal/abi.NoEscape", "internal/bytealg.MakeNoZero", "internal/reflectlite.ValueOf", "(internal/reflectlite.Value).Type", "(internal/reflectlite.Value).IsNil", "internal/reflectlite.TypeOf", "(internal/reflectlite.Value).Elem", "(internal/reflectlite.Value).Set"], unfollowed := true, recurses := true, named := ["errors.errorType"], loops := true, apart := false, laid := [("errors.errorType", laid_errors_errorType)], narrowed := true }
def HistWritesUptoSaid : Prop := histWritesUptoRow.holds Tryz.pinned (OpenSpec.upto histWritesSpec)

/-- 'hyglaw13.HistDeep', WHERE WHAT IT READS IS OF BULK AT MOST 1048576: true; the input reads as it did. -/
def histDeepUptoRow : OpenClaim := { program := "ytjbingoliffjiaagreatdoor", sum := "195695b142e283d377c6b28ed7f79587adad33cf8ec3bd84c04cbaacde4cac46", func := "hygrometer/hyglaw13.HistDeep", spec := "histDeep", inPlace := ["internal/abi.NoEscape", "internal/bytealg.MakeNoZero", "internal/reflectlite.ValueOf", "(internal/reflectlite.Value).Type", "(internal/reflectlite.Value).IsNil", "internal/reflectlite.TypeOf", "(internal/reflectlite.Value).Elem", "(internal/reflectlite.Value).Set"], unfollowed := true, recurses := true, named := ["errors.errorType"], apart := false, laid := [("errors.errorType", laid_errors_errorType)], narrowed := true }
def HistDeepUptoSaid : Prop := histDeepUptoRow.holds Tryz.pinned (OpenSpec.upto histDeepSpec)

/-- 'hyglaw15.SummReads', WHERE WHAT IT READS IS OF BULK AT MOST 1048576: true; the input reads as it did. -/
def summReadsUptoRow : OpenClaim := { program := "ytjbingoliffjiaagreatdoor", sum := "195695b142e283d377c6b28ed7f79587adad33cf8ec3bd84c04cbaacde4cac46", func := "hygrometer/hyglaw15.SummReads", spec := "summReads", inPlace := ["internal/abi.NoEscape", "internal/bytealg.MakeNoZero", "internal/reflectlite.ValueOf", "(internal/reflectlite.Value).Type", "(internal/reflectlite.Value).IsNil", "internal/reflectlite.TypeOf", "(internal/reflectlite.Value).Elem", "(internal/reflectlite.Value).Set"], unfollowed := true, recurses := true, named := ["errors.errorType"], apart := false, laid := [("errors.errorType", laid_errors_errorType)], narrowed := true }
def SummReadsUptoSaid : Prop := summReadsUptoRow.holds Tryz.pinned (OpenSpec.upto summReadsSpec)

/-- 'hyglaw15.SummWrites', WHERE WHAT IT READS IS OF BULK AT MOST 1048576: true; the input reads as it did. -/
def summWritesUptoRow : OpenClaim := { program := "ytjbingoliffjiaagreatdoor", sum := "195695b142e283d377c6b28ed7f79587adad33cf8ec3bd84c04cbaacde4cac46", func := "hygrometer/hyglaw15.SummWrites", spec := "summWrites", inPlace := ["internal/abi.NoEscape", "internal/bytealg.MakeNoZero", "internal/reflectlite.ValueOf", "(internal/reflectlite.Value).Type", "(internal/reflectlite.Value).IsNil", "internal/reflectlite.TypeOf", "(internal/reflectlite.Value).Elem", "(internal/reflectlite.Value).Set"], unfollowed := true, recurses := true, named := ["errors.errorType"], loops := true, apart := false, laid := [("errors.errorType", laid_errors_errorType)], narrowed := true }
def SummWritesUptoSaid : Prop := summWritesUptoRow.holds Tryz.pinned (OpenSpec.upto summWritesSpec)

end Rows
end Go.Proofs.YtjbingoliffjiaaGreatDoor
