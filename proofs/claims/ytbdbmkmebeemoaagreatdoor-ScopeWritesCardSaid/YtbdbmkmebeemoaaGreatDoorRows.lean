/-
  NARROWER THAN 'FOR EVERY INPUT', by the rows' own cells (each row's printed sentence says how): ScopeReads: laid · ScopeWrites: loops, laid · ResourceReads: laid · ResourceWrites: loops, laid · ScopeDeep: laid · ResourceDeep: laid.
  DERIVED. THE GIVEN ROWS OF THIS SEAT. 6 by the template 'for every input the law returns true; each argument reads behind the call as it read before'; 0 by the template 'total and deterministic' (their statements: YtbdbmkmebeemoaaGreatDoorTotals.lean).
  GIVEN WITH THE SEED: the statements are not yours to turn. If you find one false, say at which input.
  Laid BY PROGRAM, IN A SANDBOX (cutbox-rows.mjs): the forced cells as the released guide's own fill.sh prints them over the translation 6c40cd4f2c6c689e… (all of the seat's roots in one cut). By AI agents, Wed Nov 11 2026. No macro, syntax, notation, axiom, sorry.
-/
import Derived.Test.YtbdbmkmebeemoaaGreatDoorChecked
import GoSem.Claim
import GoSem.ClaimJoined
import GoSem.ClaimMapViews
import Derived.JoinedTies
import Derived.KernelRfl
namespace Go.Proofs.YtbdbmkmebeemoaaGreatDoor
/- THE CELL 'sum', in the pinned program and in every row, IS THE sha256 OF THE DUMP (.gsa) THAT YtbdbmkmebeemoaaGreatDoorProg.lean LOADS. Nothing in Lean hashes anything: it is a label: what it is worth is what the hold of that sum in a sandbox is worth. -/
noncomputable def Tryz.pinned : Pinned := { name := "ytbdbmkmebeemoaagreatdoor", sum := "6c40cd4f2c6c689e1610aae33f48a420d0dbd5cf86fcc4eea2fd245ee379e286", checked := Tryz.checked }
namespace Rows
def none {H : Type} : Left H := { results := [], args := [] }

/- WHAT THE LISTED PACKAGE-LEVEL VARIABLES READ AS WHEN THE CALL BEGINS. Each datum BY PROGRAM (the guide's laid-datum.mjs) off the statement by which the dump's own 'gosem.cut.vars' lays the variable. In a bare row this is a premise. The card (YtbdbmkmebeemoaaGreatDoorCards.lean) ties it to the program's text. -/
def laid_errors_errorType {H : Type} : DataW H := .iface "internal/reflectlite.rtype" (.agg [.ptr (.lit (.string [101, 114, 114, 111, 114]))])

/-- 'hyglaw10.ScopeReads': WHATEVER THE INPUT: true; the input reads as it did. -/
def scopeReadsSpec : ChangeSpec := { name := "scopeReads", fn := fun _ => fun
  | [d1, d2] => { results := [.lit (.bool true)], args := [d1, d2] }
  | _ => none }
def scopeReadsRow : OpenClaim := { program := "ytbdbmkmebeemoaagreatdoor", sum := "6c40cd4f2c6c689e1610aae33f48a420d0dbd5cf86fcc4eea2fd245ee379e286", func := "hygrometer/hyglaw10.ScopeReads", spec := "scopeReads", inPlace := ["internal/abi.NoEscape", "internal/bytealg.MakeNoZero", "internal/reflectlite.ValueOf", "(internal/reflectlite.Value).Type", "(internal/reflectlite.Value).IsNil", "internal/reflectlite.TypeOf", "(internal/reflectlite.Value).Elem", "(internal/reflectlite.Value).Set"], unfollowed := true, recurses := true, named := ["errors.errorType"], apart := false, laid := [("errors.errorType", laid_errors_errorType)] }
def ScopeReadsSaid : Prop := scopeReadsRow.holds Tryz.pinned (OpenSpec.ofChange scopeReadsSpec)

/-- ITS FALSE NEIGHBOUR: 'it returns false'. Refute it at one input. -/
def scopeReadsWrong : ChangeSpec := { name := "scopeReads", fn := fun _ => fun
  | [d1, d2] => { results := [.lit (.bool false)], args := [d1, d2] }
  | _ => none }
def ScopeReadsWrongFalsely : Prop := scopeReadsRow.holds Tryz.pinned (OpenSpec.ofChange scopeReadsWrong)

/-- 'hyglaw10.ScopeWrites': WHATEVER THE INPUT: true; the input reads as it did. -/
def scopeWritesSpec : ChangeSpec := { name := "scopeWrites", fn := fun _ => fun
  | [d1, d2] => { results := [.lit (.bool true)], args := [d1, d2] }
  | _ => none }
def scopeWritesRow : OpenClaim := { program := "ytbdbmkmebeemoaagreatdoor", sum := "6c40cd4f2c6c689e1610aae33f48a420d0dbd5cf86fcc4eea2fd245ee379e286", func := "hygrometer/hyglaw10.ScopeWrites", spec := "scopeWrites", inPlace := ["internal/abi.NoEscape", "internal/bytealg.MakeNoZero", "internal/reflectlite.ValueOf", "(internal/reflectlite.Value).Type", "(internal/reflectlite.Value).IsNil", "internal/reflectlite.TypeOf", "(internal/reflectlite.Value).Elem", "(internal/reflectlite.Value).Set"], unfollowed := true, recurses := true, named := ["errors.errorType"], loops := true, apart := false, laid := [("errors.errorType", laid_errors_errorType)] }
def ScopeWritesSaid : Prop := scopeWritesRow.holds Tryz.pinned (OpenSpec.ofChange scopeWritesSpec)

/-- ITS FALSE NEIGHBOUR: 'it returns false'. Refute it at one input. -/
def scopeWritesWrong : ChangeSpec := { name := "scopeWrites", fn := fun _ => fun
  | [d1, d2] => { results := [.lit (.bool false)], args := [d1, d2] }
  | _ => none }
def ScopeWritesWrongFalsely : Prop := scopeWritesRow.holds Tryz.pinned (OpenSpec.ofChange scopeWritesWrong)

/-- 'hyglaw10.ResourceReads': WHATEVER THE INPUT: true; the input reads as it did. -/
def resourceReadsSpec : ChangeSpec := { name := "resourceReads", fn := fun _ => fun
  | [d1, d2] => { results := [.lit (.bool true)], args := [d1, d2] }
  | _ => none }
def resourceReadsRow : OpenClaim := { program := "ytbdbmkmebeemoaagreatdoor", sum := "6c40cd4f2c6c689e1610aae33f48a420d0dbd5cf86fcc4eea2fd245ee379e286", func := "hygrometer/hyglaw10.ResourceReads", spec := "resourceReads", inPlace := ["internal/abi.NoEscape", "internal/bytealg.MakeNoZero", "internal/reflectlite.ValueOf", "(internal/reflectlite.Value).Type", "(internal/reflectlite.Value).IsNil", "internal/reflectlite.TypeOf", "(internal/reflectlite.Value).Elem", "(internal/reflectlite.Value).Set"], unfollowed := true, recurses := true, named := ["errors.errorType"], apart := false, laid := [("errors.errorType", laid_errors_errorType)] }
def ResourceReadsSaid : Prop := resourceReadsRow.holds Tryz.pinned (OpenSpec.ofChange resourceReadsSpec)

/-- ITS FALSE NEIGHBOUR: 'it returns false'. Refute it at one input. -/
def resourceReadsWrong : ChangeSpec := { name := "resourceReads", fn := fun _ => fun
  | [d1, d2] => { results := [.lit (.bool false)], args := [d1, d2] }
  | _ => none }
def ResourceReadsWrongFalsely : Prop := resourceReadsRow.holds Tryz.pinned (OpenSpec.ofChange resourceReadsWrong)

/-- 'hyglaw10.ResourceWrites': WHATEVER THE INPUT: true; the input reads as it did. -/
def resourceWritesSpec : ChangeSpec := { name := "resourceWrites", fn := fun _ => fun
  | [d1, d2] => { results := [.lit (.bool true)], args := [d1, d2] }
  | _ => none }
def resourceWritesRow : OpenClaim := { program := "ytbdbmkmebeemoaagreatdoor", sum := "6c40cd4f2c6c689e1610aae33f48a420d0dbd5cf86fcc4eea2fd245ee379e286", func := "hygrometer/hyglaw10.ResourceWrites", spec := "resourceWrites", inPlace := ["internal/abi.NoEscape", "internal/bytealg.MakeNoZero", "internal/reflectlite.ValueOf", "(internal/reflectlite.Value).Type", "(internal/reflectlite.Value).IsNil", "internal/reflectlite.TypeOf", "(internal/reflectlite.Value).Elem", "(internal/reflectlite.Value).Set"], unfollowed := true, recurses := true, named := ["errors.errorType"], loops := true, apart := false, laid := [("errors.errorType", laid_errors_errorType)] }
def ResourceWritesSaid : Prop := resourceWritesRow.holds Tryz.pinned (OpenSpec.ofChange resourceWritesSpec)

/-- ITS FALSE NEIGHBOUR: 'it returns false'. Refute it at one input. -/
def resourceWritesWrong : ChangeSpec := { name := "resourceWrites", fn := fun _ => fun
  | [d1, d2] => { results := [.lit (.bool false)], args := [d1, d2] }
  | _ => none }
def ResourceWritesWrongFalsely : Prop := resourceWritesRow.holds Tryz.pinned (OpenSpec.ofChange resourceWritesWrong)

/-- 'hyglaw10.ScopeDeep': WHATEVER THE INPUT: true; the input reads as it did. -/
def scopeDeepSpec : ChangeSpec := { name := "scopeDeep", fn := fun _ => fun
  | [d1, d2] => { results := [.lit (.bool true)], args := [d1, d2] }
  | _ => none }
def scopeDeepRow : OpenClaim := { program := "ytbdbmkmebeemoaagreatdoor", sum := "6c40cd4f2c6c689e1610aae33f48a420d0dbd5cf86fcc4eea2fd245ee379e286", func := "hygrometer/hyglaw10.ScopeDeep", spec := "scopeDeep", inPlace := ["internal/abi.NoEscape", "internal/bytealg.MakeNoZero", "internal/reflectlite.ValueOf", "(internal/reflectlite.Value).Type", "(internal/reflectlite.Value).IsNil", "internal/reflectlite.TypeOf", "(internal/reflectlite.Value).Elem", "(internal/reflectlite.Value).Set"], unfollowed := true, recurses := true, named := ["errors.errorType"], apart := false, laid := [("errors.errorType", laid_errors_errorType)] }
def ScopeDeepSaid : Prop := scopeDeepRow.holds Tryz.pinned (OpenSpec.ofChange scopeDeepSpec)

/-- ITS FALSE NEIGHBOUR: 'it returns false'. Refute it at one input. -/
def scopeDeepWrong : ChangeSpec := { name := "scopeDeep", fn := fun _ => fun
  | [d1, d2] => { results := [.lit (.bool false)], args := [d1, d2] }
  | _ => none }
def ScopeDeepWrongFalsely : Prop := scopeDeepRow.holds Tryz.pinned (OpenSpec.ofChange scopeDeepWrong)

/-- 'hyglaw10.ResourceDeep': WHATEVER THE INPUT: true; the input reads as it did. -/
def resourceDeepSpec : ChangeSpec := { name := "resourceDeep", fn := fun _ => fun
  | [d1, d2] => { results := [.lit (.bool true)], args := [d1, d2] }
  | _ => none }
def resourceDeepRow : OpenClaim := { program := "ytbdbmkmebeemoaagreatdoor", sum := "6c40cd4f2c6c689e1610aae33f48a420d0dbd5cf86fcc4eea2fd245ee379e286", func := "hygrometer/hyglaw10.ResourceDeep", spec := "resourceDeep", inPlace := ["internal/abi.NoEscape", "internal/bytealg.MakeNoZero", "internal/reflectlite.ValueOf", "(internal/reflectlite.Value).Type", "(internal/reflectlite.Value).IsNil", "internal/reflectlite.TypeOf", "(internal/reflectlite.Value).Elem", "(internal/reflectlite.Value).Set"], unfollowed := true, recurses := true, named := ["errors.errorType"], apart := false, laid := [("errors.errorType", laid_errors_errorType)] }
def ResourceDeepSaid : Prop := resourceDeepRow.holds Tryz.pinned (OpenSpec.ofChange resourceDeepSpec)

/-- ITS FALSE NEIGHBOUR: 'it returns false'. Refute it at one input. -/
def resourceDeepWrong : ChangeSpec := { name := "resourceDeep", fn := fun _ => fun
  | [d1, d2] => { results := [.lit (.bool false)], args := [d1, d2] }
  | _ => none }
def ResourceDeepWrongFalsely : Prop := resourceDeepRow.holds Tryz.pinned (OpenSpec.ofChange resourceDeepWrong)

/- THE SECOND FORM. 'bulk': how many values and letters a reading holds, each counted each time it is reached (what is shared counts as often as it is met; a slice's spare places count too). A statement '..UptoSaid' is the law's where the arguments, and the package variables that the reading takes, are together of bulk at most 1048576: NARROWER than '..Said'. Prove '..Said' where nothing that the law and all that it calls make is longer than what came in: it says more and counts as full. Else prove '..UptoSaid'. A law counts once. -/
mutual
def uptoBulk {H : Type} : DataW H → Nat
  | .lit (.string bytes) => bytes.length + 1
  | .lit _ => 1
  | .nil => 1
  | .ptr d => uptoBulk d + 1
  | .slice elems spare => uptoBulkAll elems + uptoBulkAll spare + 1
  | .agg parts => uptoBulkAll parts + 1
  | .iface _ d => uptoBulk d + 1
  | .map entries => uptoBulkEntries entries + 1
  | .held _ => 1
def uptoBulkAll {H : Type} : List (DataW H) → Nat
  | [] => 0
  | d :: r => uptoBulk d + uptoBulkAll r
def uptoBulkEntries {H : Type} : List (Lit × DataW H) → Nat
  | [] => 0
  | x :: r => uptoBulkEntry x + uptoBulkEntries r
def uptoBulkEntry {H : Type} : Lit × DataW H → Nat
  | (.string bytes, d) => bytes.length + uptoBulk d + 1
  | (_, d) => uptoBulk d + 1
 end
def uptoSmall : (H : Type) → List (DataW H) → Bool := fun _ ds => decide (uptoBulkAll ds ≤ 1048576)
def OpenSpec.upto (s : _root_.Go.ChangeSpec) : _root_.Go.OpenSpec := { _root_.Go.OpenSpec.ofChange s with cond := some uptoSmall }

/-- 'hyglaw10.ScopeReads', WHERE WHAT IT READS IS OF BULK AT MOST 1048576: true; the input reads as it did. -/
def scopeReadsUptoRow : OpenClaim := { program := "ytbdbmkmebeemoaagreatdoor", sum := "6c40cd4f2c6c689e1610aae33f48a420d0dbd5cf86fcc4eea2fd245ee379e286", func := "hygrometer/hyglaw10.ScopeReads", spec := "scopeReads", inPlace := ["internal/abi.NoEscape", "internal/bytealg.MakeNoZero", "internal/reflectlite.ValueOf", "(internal/reflectlite.Value).Type", "(internal/reflectlite.Value).IsNil", "internal/reflectlite.TypeOf", "(internal/reflectlite.Value).Elem", "(internal/reflectlite.Value).Set"], unfollowed := true, recurses := true, named := ["errors.errorType"], apart := false, laid := [("errors.errorType", laid_errors_errorType)], narrowed := true }
def ScopeReadsUptoSaid : Prop := scopeReadsUptoRow.holds Tryz.pinned (OpenSpec.upto scopeReadsSpec)

/-- 'hyglaw10.ScopeWrites', WHERE WHAT IT READS IS OF BULK AT MOST 1048576: true; the input reads as it did. -/
def scopeWritesUptoRow : OpenClaim := { program := "ytbdbmkmebeemoaagreatdoor", sum := "6c40cd4f2c6c689e1610aae33f48a420d0dbd5cf86fcc4eea2fd245ee379e286", func := "hygrometer/hyglaw10.ScopeWrites", spec := "scopeWrites", inPlace := ["internal/abi.NoEscape", "internal/bytealg.MakeNoZero", "internal/reflectlite.ValueOf", "(internal/reflectlite.Value).Type", "(internal/reflectlite.Value).IsNil", "internal/reflectlite.TypeOf", "(internal/reflectlite.Value).Elem", "(internal/reflectlite.Value).Set"], unfollowed := true, recurses := true, named := ["errors.errorType"], loops := true, apart := false, laid := [("errors.errorType", laid_errors_errorType)], narrowed := true }
def ScopeWritesUptoSaid : Prop := scopeWritesUptoRow.holds Tryz.pinned (OpenSpec.upto scopeWritesSpec)

/-- 'hyglaw10.ResourceReads', WHERE WHAT IT READS IS OF BULK AT MOST 1048576: true; the input reads as it did. -/
def resourceReadsUptoRow : OpenClaim := { program := "ytbdbmkmebeemoaagreatdoor", sum := "6c40cd4f2c6c689e1610aae33f48a420d0dbd5cf86fcc4eea2fd245ee379e286", func := "hygrometer/hyglaw10.ResourceReads", spec := "resourceReads", inPlace := ["internal/abi.NoEscape", "internal/bytealg.MakeNoZero", "internal/reflectlite.ValueOf", "(internal/reflectlite.Value).Type", "(internal/reflectlite.Value).IsNil", "internal/reflectlite.TypeOf", "(internal/reflectlite.Value).Elem", "(internal/reflectlite.Value).Set"], unfollowed := true, recurses := true, named := ["errors.errorType"], apart := false, laid := [("errors.errorType", laid_errors_errorType)], narrowed := true }
def ResourceReadsUptoSaid : Prop := resourceReadsUptoRow.holds Tryz.pinned (OpenSpec.upto resourceReadsSpec)

/-- 'hyglaw10.ResourceWrites', WHERE WHAT IT READS IS OF BULK AT MOST 1048576: true; the input reads as it did. -/
def resourceWritesUptoRow : OpenClaim := { program := "ytbdbmkmebeemoaagreatdoor", sum := "6c40cd4f2c6c689e1610aae33f48a420d0dbd5cf86fcc4eea2fd245ee379e286", func := "hygrometer/hyglaw10.ResourceWrites", spec := "resourceWrites", inPlace := ["internal/abi.NoEscape", "internal/bytealg.MakeNoZero", "internal/reflectlite.ValueOf", "(internal/reflectlite.Value).Type", "(internal/reflectlite.Value).IsNil", "internal/reflectlite.TypeOf", "(internal/reflectlite.Value).Elem", "(internal/reflectlite.Value).Set"], unfollowed := true, recurses := true, named := ["errors.errorType"], loops := true, apart := false, laid := [("errors.errorType", laid_errors_errorType)], narrowed := true }
def ResourceWritesUptoSaid : Prop := resourceWritesUptoRow.holds Tryz.pinned (OpenSpec.upto resourceWritesSpec)

/-- 'hyglaw10.ScopeDeep', WHERE WHAT IT READS IS OF BULK AT MOST 1048576: true; the input reads as it did. -/
def scopeDeepUptoRow : OpenClaim := { program := "ytbdbmkmebeemoaagreatdoor", sum := "6c40cd4f2c6c689e1610aae33f48a420d0dbd5cf86fcc4eea2fd245ee379e286", func := "hygrometer/hyglaw10.ScopeDeep", spec := "scopeDeep", inPlace := ["internal/abi.NoEscape", "internal/bytealg.MakeNoZero", "internal/reflectlite.ValueOf", "(internal/reflectlite.Value).Type", "(internal/reflectlite.Value).IsNil", "internal/reflectlite.TypeOf", "(internal/reflectlite.Value).Elem", "(internal/reflectlite.Value).Set"], unfollowed := true, recurses := true, named := ["errors.errorType"], apart := false, laid := [("errors.errorType", laid_errors_errorType)], narrowed := true }
def ScopeDeepUptoSaid : Prop := scopeDeepUptoRow.holds Tryz.pinned (OpenSpec.upto scopeDeepSpec)

/-- 'hyglaw10.ResourceDeep', WHERE WHAT IT READS IS OF BULK AT MOST 1048576: true; the input reads as it did. -/
def resourceDeepUptoRow : OpenClaim := { program := "ytbdbmkmebeemoaagreatdoor", sum := "6c40cd4f2c6c689e1610aae33f48a420d0dbd5cf86fcc4eea2fd245ee379e286", func := "hygrometer/hyglaw10.ResourceDeep", spec := "resourceDeep", inPlace := ["internal/abi.NoEscape", "internal/bytealg.MakeNoZero", "internal/reflectlite.ValueOf", "(internal/reflectlite.Value).Type", "(internal/reflectlite.Value).IsNil", "internal/reflectlite.TypeOf", "(internal/reflectlite.Value).Elem", "(internal/reflectlite.Value).Set"], unfollowed := true, recurses := true, named := ["errors.errorType"], apart := false, laid := [("errors.errorType", laid_errors_errorType)], narrowed := true }
def ResourceDeepUptoSaid : Prop := resourceDeepUptoRow.holds Tryz.pinned (OpenSpec.upto resourceDeepSpec)

end Rows
end Go.Proofs.YtbdbmkmebeemoaaGreatDoor
