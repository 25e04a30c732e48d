/-
  NARROWER THAN 'FOR EVERY INPUT', by the rows' own cells (each row's printed sentence says how): ExemReads: laid · ExemWrites: loops, laid · ExemSame: loops, laid · ExemBack: loops, laid · ExemTwice: laid · ExemJoins: laid · ExemOthers: laid · ExemDeep: laid · NumberReads: laid · NumberWrites: loops, laid · NumberDeep: laid.
  DERIVED. THE GIVEN ROWS OF THIS SEAT. 11 by the template 'for every input the law returns true; each argument reads behind the call as it read before'; 0 by the template 'total and deterministic' (their statements: YtandoppfbilhbaaGreatDoorTotals.lean).
  GIVEN WITH THE SEED: the statements are not yours to turn. If you find one false, say at which input.
  Laid BY PROGRAM, IN A SANDBOX (cutbox-rows.mjs): the forced cells as the released guide's own fill.sh prints them over the translation 549bb4469211a7d4… (all of the seat's roots in one cut). By AI agents, Wed Nov 11 2026. No macro, syntax, notation, axiom, sorry.
-/
import Derived.Test.YtandoppfbilhbaaGreatDoorChecked
import GoSem.Claim
import GoSem.ClaimJoined
import GoSem.ClaimMapViews
import Derived.JoinedTies
import Derived.KernelRfl
namespace Go.Proofs.YtandoppfbilhbaaGreatDoor
/- THE CELL 'sum', in the pinned program and in every row, IS THE sha256 OF THE DUMP (.gsa) THAT YtandoppfbilhbaaGreatDoorProg.lean LOADS. Nothing in Lean hashes anything: it is a label: what it is worth is what the hold of that sum in a sandbox is worth. -/
noncomputable def Tryz.pinned : Pinned := { name := "ytandoppfbilhbaagreatdoor", sum := "549bb4469211a7d4c345290c0c7371de344f94c2714f417217ddd6063cab84d4", checked := Tryz.checked }
namespace Rows
def none {H : Type} : Left H := { results := [], args := [] }

/- WHAT THE LISTED PACKAGE-LEVEL VARIABLES READ AS WHEN THE CALL BEGINS. Each datum BY PROGRAM (the guide's laid-datum.mjs) off the statement by which the dump's own 'gosem.cut.vars' lays the variable. In a bare row this is a premise. The card (YtandoppfbilhbaaGreatDoorCards.lean) ties it to the program's text. -/
def laid_errors_errorType {H : Type} : DataW H := .iface "internal/reflectlite.rtype" (.agg [.ptr (.lit (.string [101, 114, 114, 111, 114]))])

/-- 'hyglaw11.ExemReads': WHATEVER THE INPUT: true; the input reads as it did. -/
def exemReadsSpec : ChangeSpec := { name := "exemReads", fn := fun _ => fun
  | [d1, d2] => { results := [.lit (.bool true)], args := [d1, d2] }
  | _ => none }
def exemReadsRow : OpenClaim := { program := "ytandoppfbilhbaagreatdoor", sum := "549bb4469211a7d4c345290c0c7371de344f94c2714f417217ddd6063cab84d4", func := "hygrometer/hyglaw11.ExemReads", spec := "exemReads", inPlace := ["internal/abi.NoEscape", "internal/bytealg.MakeNoZero", "internal/reflectlite.ValueOf", "(internal/reflectlite.Value).Type", "(internal/reflectlite.Value).IsNil", "internal/reflectlite.TypeOf", "(internal/reflectlite.Value).Elem", "(internal/reflectlite.Value).Set"], unfollowed := true, recurses := true, named := ["errors.errorType"], apart := false, laid := [("errors.errorType", laid_errors_errorType)] }
def ExemReadsSaid : Prop := exemReadsRow.holds Tryz.pinned (OpenSpec.ofChange exemReadsSpec)

/-- ITS FALSE NEIGHBOUR: 'it returns false'. Refute it at one input. -/
def exemReadsWrong : ChangeSpec := { name := "exemReads", fn := fun _ => fun
  | [d1, d2] => { results := [.lit (.bool false)], args := [d1, d2] }
  | _ => none }
def ExemReadsWrongFalsely : Prop := exemReadsRow.holds Tryz.pinned (OpenSpec.ofChange exemReadsWrong)

/-- 'hyglaw11.ExemWrites': WHATEVER THE INPUT: true; the input reads as it did. -/
def exemWritesSpec : ChangeSpec := { name := "exemWrites", fn := fun _ => fun
  | [d1, d2] => { results := [.lit (.bool true)], args := [d1, d2] }
  | _ => none }
def exemWritesRow : OpenClaim := { program := "ytandoppfbilhbaagreatdoor", sum := "549bb4469211a7d4c345290c0c7371de344f94c2714f417217ddd6063cab84d4", func := "hygrometer/hyglaw11.ExemWrites", spec := "exemWrites", inPlace := ["internal/abi.NoEscape", "internal/bytealg.MakeNoZero", "internal/reflectlite.ValueOf", "(internal/reflectlite.Value).Type", "(internal/reflectlite.Value).IsNil", "internal/reflectlite.TypeOf", "(internal/reflectlite.Value).Elem", "(internal/reflectlite.Value).Set"], unfollowed := true, recurses := true, named := ["errors.errorType"], loops := true, apart := false, laid := [("errors.errorType", laid_errors_errorType)] }
def ExemWritesSaid : Prop := exemWritesRow.holds Tryz.pinned (OpenSpec.ofChange exemWritesSpec)

/-- ITS FALSE NEIGHBOUR: 'it returns false'. Refute it at one input. -/
def exemWritesWrong : ChangeSpec := { name := "exemWrites", fn := fun _ => fun
  | [d1, d2] => { results := [.lit (.bool false)], args := [d1, d2] }
  | _ => none }
def ExemWritesWrongFalsely : Prop := exemWritesRow.holds Tryz.pinned (OpenSpec.ofChange exemWritesWrong)

/-- 'hyglaw11.ExemSame': WHATEVER THE INPUT: true; the input reads as it did. -/
def exemSameSpec : ChangeSpec := { name := "exemSame", fn := fun _ => fun
  | [d1, d2] => { results := [.lit (.bool true)], args := [d1, d2] }
  | _ => none }
def exemSameRow : OpenClaim := { program := "ytandoppfbilhbaagreatdoor", sum := "549bb4469211a7d4c345290c0c7371de344f94c2714f417217ddd6063cab84d4", func := "hygrometer/hyglaw11.ExemSame", spec := "exemSame", inPlace := ["internal/abi.NoEscape", "internal/bytealg.MakeNoZero", "internal/reflectlite.ValueOf", "(internal/reflectlite.Value).Type", "(internal/reflectlite.Value).IsNil", "internal/reflectlite.TypeOf", "(internal/reflectlite.Value).Elem", "(internal/reflectlite.Value).Set"], unfollowed := true, recurses := true, named := ["errors.errorType"], loops := true, apart := false, laid := [("errors.errorType", laid_errors_errorType)] }
def ExemSameSaid : Prop := exemSameRow.holds Tryz.pinned (OpenSpec.ofChange exemSameSpec)

/-- ITS FALSE NEIGHBOUR: 'it returns false'. Refute it at one input. -/
def exemSameWrong : ChangeSpec := { name := "exemSame", fn := fun _ => fun
  | [d1, d2] => { results := [.lit (.bool false)], args := [d1, d2] }
  | _ => none }
def ExemSameWrongFalsely : Prop := exemSameRow.holds Tryz.pinned (OpenSpec.ofChange exemSameWrong)

/-- 'hyglaw11.ExemBack': WHATEVER THE INPUT: true; the input reads as it did. -/
def exemBackSpec : ChangeSpec := { name := "exemBack", fn := fun _ => fun
  | [d1, d2, d3] => { results := [.lit (.bool true)], args := [d1, d2, d3] }
  | _ => none }
def exemBackRow : OpenClaim := { program := "ytandoppfbilhbaagreatdoor", sum := "549bb4469211a7d4c345290c0c7371de344f94c2714f417217ddd6063cab84d4", func := "hygrometer/hyglaw11.ExemBack", spec := "exemBack", inPlace := ["internal/abi.NoEscape", "internal/bytealg.MakeNoZero", "internal/reflectlite.ValueOf", "(internal/reflectlite.Value).Type", "(internal/reflectlite.Value).IsNil", "internal/reflectlite.TypeOf", "(internal/reflectlite.Value).Elem", "(internal/reflectlite.Value).Set"], unfollowed := true, recurses := true, named := ["errors.errorType"], loops := true, apart := false, laid := [("errors.errorType", laid_errors_errorType)] }
def ExemBackSaid : Prop := exemBackRow.holds Tryz.pinned (OpenSpec.ofChange exemBackSpec)

/-- ITS FALSE NEIGHBOUR: 'it returns false'. Refute it at one input. -/
def exemBackWrong : ChangeSpec := { name := "exemBack", fn := fun _ => fun
  | [d1, d2, d3] => { results := [.lit (.bool false)], args := [d1, d2, d3] }
  | _ => none }
def ExemBackWrongFalsely : Prop := exemBackRow.holds Tryz.pinned (OpenSpec.ofChange exemBackWrong)

/-- 'hyglaw11.ExemTwice': WHATEVER THE INPUT: true; the input reads as it did. -/
def exemTwiceSpec : ChangeSpec := { name := "exemTwice", fn := fun _ => fun
  | [d1, d2] => { results := [.lit (.bool true)], args := [d1, d2] }
  | _ => none }
def exemTwiceRow : OpenClaim := { program := "ytandoppfbilhbaagreatdoor", sum := "549bb4469211a7d4c345290c0c7371de344f94c2714f417217ddd6063cab84d4", func := "hygrometer/hyglaw11.ExemTwice", spec := "exemTwice", inPlace := ["internal/abi.NoEscape", "internal/bytealg.MakeNoZero", "internal/reflectlite.ValueOf", "(internal/reflectlite.Value).Type", "(internal/reflectlite.Value).IsNil", "internal/reflectlite.TypeOf", "(internal/reflectlite.Value).Elem", "(internal/reflectlite.Value).Set"], unfollowed := true, recurses := true, named := ["errors.errorType"], apart := false, laid := [("errors.errorType", laid_errors_errorType)] }
def ExemTwiceSaid : Prop := exemTwiceRow.holds Tryz.pinned (OpenSpec.ofChange exemTwiceSpec)

/-- ITS FALSE NEIGHBOUR: 'it returns false'. Refute it at one input. -/
def exemTwiceWrong : ChangeSpec := { name := "exemTwice", fn := fun _ => fun
  | [d1, d2] => { results := [.lit (.bool false)], args := [d1, d2] }
  | _ => none }
def ExemTwiceWrongFalsely : Prop := exemTwiceRow.holds Tryz.pinned (OpenSpec.ofChange exemTwiceWrong)

/-- 'hyglaw11.ExemJoins': WHATEVER THE INPUT: true; the input reads as it did. -/
def exemJoinsSpec : ChangeSpec := { name := "exemJoins", fn := fun _ => fun
  | [d1, d2, d3] => { results := [.lit (.bool true)], args := [d1, d2, d3] }
  | _ => none }
def exemJoinsRow : OpenClaim := { program := "ytandoppfbilhbaagreatdoor", sum := "549bb4469211a7d4c345290c0c7371de344f94c2714f417217ddd6063cab84d4", func := "hygrometer/hyglaw11.ExemJoins", spec := "exemJoins", inPlace := ["internal/abi.NoEscape", "internal/bytealg.MakeNoZero", "internal/reflectlite.ValueOf", "(internal/reflectlite.Value).Type", "(internal/reflectlite.Value).IsNil", "internal/reflectlite.TypeOf", "(internal/reflectlite.Value).Elem", "(internal/reflectlite.Value).Set"], unfollowed := true, recurses := true, named := ["errors.errorType"], apart := false, laid := [("errors.errorType", laid_errors_errorType)] }
def ExemJoinsSaid : Prop := exemJoinsRow.holds Tryz.pinned (OpenSpec.ofChange exemJoinsSpec)

/-- ITS FALSE NEIGHBOUR: 'it returns false'. Refute it at one input. -/
def exemJoinsWrong : ChangeSpec := { name := "exemJoins", fn := fun _ => fun
  | [d1, d2, d3] => { results := [.lit (.bool false)], args := [d1, d2, d3] }
  | _ => none }
def ExemJoinsWrongFalsely : Prop := exemJoinsRow.holds Tryz.pinned (OpenSpec.ofChange exemJoinsWrong)

/-- 'hyglaw11.ExemOthers': WHATEVER THE INPUT: true; the input reads as it did. -/
def exemOthersSpec : ChangeSpec := { name := "exemOthers", fn := fun _ => fun
  | [d1, d2, d3, d4] => { results := [.lit (.bool true)], args := [d1, d2, d3, d4] }
  | _ => none }
def exemOthersRow : OpenClaim := { program := "ytandoppfbilhbaagreatdoor", sum := "549bb4469211a7d4c345290c0c7371de344f94c2714f417217ddd6063cab84d4", func := "hygrometer/hyglaw11.ExemOthers", spec := "exemOthers", inPlace := ["internal/abi.NoEscape", "internal/bytealg.MakeNoZero", "internal/reflectlite.ValueOf", "(internal/reflectlite.Value).Type", "(internal/reflectlite.Value).IsNil", "internal/reflectlite.TypeOf", "(internal/reflectlite.Value).Elem", "(internal/reflectlite.Value).Set"], unfollowed := true, recurses := true, named := ["errors.errorType"], apart := false, laid := [("errors.errorType", laid_errors_errorType)] }
def ExemOthersSaid : Prop := exemOthersRow.holds Tryz.pinned (OpenSpec.ofChange exemOthersSpec)

/-- ITS FALSE NEIGHBOUR: 'it returns false'. Refute it at one input. -/
def exemOthersWrong : ChangeSpec := { name := "exemOthers", fn := fun _ => fun
  | [d1, d2, d3, d4] => { results := [.lit (.bool false)], args := [d1, d2, d3, d4] }
  | _ => none }
def ExemOthersWrongFalsely : Prop := exemOthersRow.holds Tryz.pinned (OpenSpec.ofChange exemOthersWrong)

/-- 'hyglaw11.ExemDeep': WHATEVER THE INPUT: true; the input reads as it did. -/
def exemDeepSpec : ChangeSpec := { name := "exemDeep", fn := fun _ => fun
  | [d1, d2] => { results := [.lit (.bool true)], args := [d1, d2] }
  | _ => none }
def exemDeepRow : OpenClaim := { program := "ytandoppfbilhbaagreatdoor", sum := "549bb4469211a7d4c345290c0c7371de344f94c2714f417217ddd6063cab84d4", func := "hygrometer/hyglaw11.ExemDeep", spec := "exemDeep", inPlace := ["internal/abi.NoEscape", "internal/bytealg.MakeNoZero", "internal/reflectlite.ValueOf", "(internal/reflectlite.Value).Type", "(internal/reflectlite.Value).IsNil", "internal/reflectlite.TypeOf", "(internal/reflectlite.Value).Elem", "(internal/reflectlite.Value).Set"], unfollowed := true, recurses := true, named := ["errors.errorType"], apart := false, laid := [("errors.errorType", laid_errors_errorType)] }
def ExemDeepSaid : Prop := exemDeepRow.holds Tryz.pinned (OpenSpec.ofChange exemDeepSpec)

/-- ITS FALSE NEIGHBOUR: 'it returns false'. Refute it at one input. -/
def exemDeepWrong : ChangeSpec := { name := "exemDeep", fn := fun _ => fun
  | [d1, d2] => { results := [.lit (.bool false)], args := [d1, d2] }
  | _ => none }
def ExemDeepWrongFalsely : Prop := exemDeepRow.holds Tryz.pinned (OpenSpec.ofChange exemDeepWrong)

/-- 'hyglaw12.NumberReads': WHATEVER THE INPUT: true; the input reads as it did. -/
def numberReadsSpec : ChangeSpec := { name := "numberReads", fn := fun _ => fun
  | [d1, d2] => { results := [.lit (.bool true)], args := [d1, d2] }
  | _ => none }
def numberReadsRow : OpenClaim := { program := "ytandoppfbilhbaagreatdoor", sum := "549bb4469211a7d4c345290c0c7371de344f94c2714f417217ddd6063cab84d4", func := "hygrometer/hyglaw12.NumberReads", spec := "numberReads", inPlace := ["internal/abi.NoEscape", "internal/bytealg.MakeNoZero", "internal/reflectlite.ValueOf", "(internal/reflectlite.Value).Type", "(internal/reflectlite.Value).IsNil", "internal/reflectlite.TypeOf", "(internal/reflectlite.Value).Elem", "(internal/reflectlite.Value).Set"], unfollowed := true, recurses := true, named := ["errors.errorType"], apart := false, laid := [("errors.errorType", laid_errors_errorType)] }
def NumberReadsSaid : Prop := numberReadsRow.holds Tryz.pinned (OpenSpec.ofChange numberReadsSpec)

/-- ITS FALSE NEIGHBOUR: 'it returns false'. Refute it at one input. -/
def numberReadsWrong : ChangeSpec := { name := "numberReads", fn := fun _ => fun
  | [d1, d2] => { results := [.lit (.bool false)], args := [d1, d2] }
  | _ => none }
def NumberReadsWrongFalsely : Prop := numberReadsRow.holds Tryz.pinned (OpenSpec.ofChange numberReadsWrong)

/-- 'hyglaw12.NumberWrites': WHATEVER THE INPUT: true; the input reads as it did. -/
def numberWritesSpec : ChangeSpec := { name := "numberWrites", fn := fun _ => fun
  | [d1, d2] => { results := [.lit (.bool true)], args := [d1, d2] }
  | _ => none }
def numberWritesRow : OpenClaim := { program := "ytandoppfbilhbaagreatdoor", sum := "549bb4469211a7d4c345290c0c7371de344f94c2714f417217ddd6063cab84d4", func := "hygrometer/hyglaw12.NumberWrites", spec := "numberWrites", inPlace := ["internal/abi.NoEscape", "internal/bytealg.MakeNoZero", "internal/reflectlite.ValueOf", "(internal/reflectlite.Value).Type", "(internal/reflectlite.Value).IsNil", "internal/reflectlite.TypeOf", "(internal/reflectlite.Value).Elem", "(internal/reflectlite.Value).Set"], unfollowed := true, recurses := true, named := ["errors.errorType"], loops := true, apart := false, laid := [("errors.errorType", laid_errors_errorType)] }
def NumberWritesSaid : Prop := numberWritesRow.holds Tryz.pinned (OpenSpec.ofChange numberWritesSpec)

/-- ITS FALSE NEIGHBOUR: 'it returns false'. Refute it at one input. -/
def numberWritesWrong : ChangeSpec := { name := "numberWrites", fn := fun _ => fun
  | [d1, d2] => { results := [.lit (.bool false)], args := [d1, d2] }
  | _ => none }
def NumberWritesWrongFalsely : Prop := numberWritesRow.holds Tryz.pinned (OpenSpec.ofChange numberWritesWrong)

/-- 'hyglaw12.NumberDeep': WHATEVER THE INPUT: true; the input reads as it did. -/
def numberDeepSpec : ChangeSpec := { name := "numberDeep", fn := fun _ => fun
  | [d1, d2] => { results := [.lit (.bool true)], args := [d1, d2] }
  | _ => none }
def numberDeepRow : OpenClaim := { program := "ytandoppfbilhbaagreatdoor", sum := "549bb4469211a7d4c345290c0c7371de344f94c2714f417217ddd6063cab84d4", func := "hygrometer/hyglaw12.NumberDeep", spec := "numberDeep", inPlace := ["internal/abi.NoEscape", "internal/bytealg.MakeNoZero", "internal/reflectlite.ValueOf", "(internal/reflectlite.Value).Type", "(internal/reflectlite.Value).IsNil", "internal/reflectlite.TypeOf", "(internal/reflectlite.Value).Elem", "(internal/reflectlite.Value).Set"], unfollowed := true, recurses := true, named := ["errors.errorType"], apart := false, laid := [("errors.errorType", laid_errors_errorType)] }
def NumberDeepSaid : Prop := numberDeepRow.holds Tryz.pinned (OpenSpec.ofChange numberDeepSpec)

/-- ITS FALSE NEIGHBOUR: 'it returns false'. Refute it at one input. -/
def numberDeepWrong : ChangeSpec := { name := "numberDeep", fn := fun _ => fun
  | [d1, d2] => { results := [.lit (.bool false)], args := [d1, d2] }
  | _ => none }
def NumberDeepWrongFalsely : Prop := numberDeepRow.holds Tryz.pinned (OpenSpec.ofChange numberDeepWrong)

/- THE SECOND FORM. 'bulk': how many values and letters a reading holds, each counted each time it is reached (what is shared counts as often as it is met; a slice's spare places count too). A statement '..UptoSaid' is the law's where the arguments, and the package variables that the reading takes, are together of bulk at most 1048576: NARROWER than '..Said'. Prove '..Said' where nothing that the law and all that it calls make is longer than what came in: it says more and counts as full. Else prove '..UptoSaid'. A law counts once. -/
mutual
def uptoBulk {H : Type} : DataW H → Nat
  | .lit (.string bytes) => bytes.length + 1
  | .lit _ => 1
  | .nil => 1
  | .ptr d => uptoBulk d + 1
  | .slice elems spare => uptoBulkAll elems + uptoBulkAll spare + 1
  | .agg parts => uptoBulkAll parts + 1
  | .iface _ d => uptoBulk d + 1
  | .map entries => uptoBulkEntries entries + 1
  | .held _ => 1
def uptoBulkAll {H : Type} : List (DataW H) → Nat
  | [] => 0
  | d :: r => uptoBulk d + uptoBulkAll r
def uptoBulkEntries {H : Type} : List (Lit × DataW H) → Nat
  | [] => 0
  | x :: r => uptoBulkEntry x + uptoBulkEntries r
def uptoBulkEntry {H : Type} : Lit × DataW H → Nat
  | (.string bytes, d) => bytes.length + uptoBulk d + 1
  | (_, d) => uptoBulk d + 1
 end
def uptoSmall : (H : Type) → List (DataW H) → Bool := fun _ ds => decide (uptoBulkAll ds ≤ 1048576)
def OpenSpec.upto (s : _root_.Go.ChangeSpec) : _root_.Go.OpenSpec := { _root_.Go.OpenSpec.ofChange s with cond := some uptoSmall }

/-- 'hyglaw11.ExemReads', WHERE WHAT IT READS IS OF BULK AT MOST 1048576: true; the input reads as it did. -/
def exemReadsUptoRow : OpenClaim := { program := "ytandoppfbilhbaagreatdoor", sum := "549bb4469211a7d4c345290c0c7371de344f94c2714f417217ddd6063cab84d4", func := "hygrometer/hyglaw11.ExemReads", spec := "exemReads", inPlace := ["internal/abi.NoEscape", "internal/bytealg.MakeNoZero", "internal/reflectlite.ValueOf", "(internal/reflectlite.Value).Type", "(internal/reflectlite.Value).IsNil", "internal/reflectlite.TypeOf", "(internal/reflectlite.Value).Elem", "(internal/reflectlite.Value).Set"], unfollowed := true, recurses := true, named := ["errors.errorType"], apart := false, laid := [("errors.errorType", laid_errors_errorType)], narrowed := true }
def ExemReadsUptoSaid : Prop := exemReadsUptoRow.holds Tryz.pinned (OpenSpec.upto exemReadsSpec)

/-- 'hyglaw11.ExemWrites', WHERE WHAT IT READS IS OF BULK AT MOST 1048576: true; the input reads as it did. -/
def exemWritesUptoRow : OpenClaim := { program := "ytandoppfbilhbaagreatdoor", sum := "549bb4469211a7d4c345290c0c7371de344f94c2714f417217ddd6063cab84d4", func := "hygrometer/hyglaw11.ExemWrites", spec := "exemWrites", inPlace := ["internal/abi.NoEscape", "internal/bytealg.MakeNoZero", "internal/reflectlite.ValueOf", "(internal/reflectlite.Value).Type", "(internal/reflectlite.Value).IsNil", "internal/reflectlite.TypeOf", "(internal/reflectlite.Value).Elem", "(internal/reflectlite.Value).Set"], unfollowed := true, recurses := true, named := ["errors.errorType"], loops := true, apart := false, laid := [("errors.errorType", laid_errors_errorType)], narrowed := true }
def ExemWritesUptoSaid : Prop := exemWritesUptoRow.holds Tryz.pinned (OpenSpec.upto exemWritesSpec)

/-- 'hyglaw11.ExemSame', WHERE WHAT IT READS IS OF BULK AT MOST 1048576: true; the input reads as it did. -/
def exemSameUptoRow : OpenClaim := { program := "ytandoppfbilhbaagreatdoor", sum := "549bb4469211a7d4c345290c0c7371de344f94c2714f417217ddd6063cab84d4", func := "hygrometer/hyglaw11.ExemSame", spec := "exemSame", inPlace := ["internal/abi.NoEscape", "internal/bytealg.MakeNoZero", "internal/reflectlite.ValueOf", "(internal/reflectlite.Value).Type", "(internal/reflectlite.Value).IsNil", "internal/reflectlite.TypeOf", "(internal/reflectlite.Value).Elem", "(internal/reflectlite.Value).Set"], unfollowed := true, recurses := true, named := ["errors.errorType"], loops := true, apart := false, laid := [("errors.errorType", laid_errors_errorType)], narrowed := true }
def ExemSameUptoSaid : Prop := exemSameUptoRow.holds Tryz.pinned (OpenSpec.upto exemSameSpec)

/-- 'hyglaw11.ExemBack', WHERE WHAT IT READS IS OF BULK AT MOST 1048576: true; the input reads as it did. -/
def exemBackUptoRow : OpenClaim := { program := "ytandoppfbilhbaagreatdoor", sum := "549bb4469211a7d4c345290c0c7371de344f94c2714f417217ddd6063cab84d4", func := "hygrometer/hyglaw11.ExemBack", spec := "exemBack", inPlace := ["internal/abi.NoEscape", "internal/bytealg.MakeNoZero", "internal/reflectlite.ValueOf", "(internal/reflectlite.Value).Type", "(internal/reflectlite.Value).IsNil", "internal/reflectlite.TypeOf", "(internal/reflectlite.Value).Elem", "(internal/reflectlite.Value).Set"], unfollowed := true, recurses := true, named := ["errors.errorType"], loops := true, apart := false, laid := [("errors.errorType", laid_errors_errorType)], narrowed := true }
def ExemBackUptoSaid : Prop := exemBackUptoRow.holds Tryz.pinned (OpenSpec.upto exemBackSpec)

/-- 'hyglaw11.ExemTwice', WHERE WHAT IT READS IS OF BULK AT MOST 1048576: true; the input reads as it did. -/
def exemTwiceUptoRow : OpenClaim := { program := "ytandoppfbilhbaagreatdoor", sum := "549bb4469211a7d4c345290c0c7371de344f94c2714f417217ddd6063cab84d4", func := "hygrometer/hyglaw11.ExemTwice", spec := "exemTwice", inPlace := ["internal/abi.NoEscape", "internal/bytealg.MakeNoZero", "internal/reflectlite.ValueOf", "(internal/reflectlite.Value).Type", "(internal/reflectlite.Value).IsNil", "internal/reflectlite.TypeOf", "(internal/reflectlite.Value).Elem", "(internal/reflectlite.Value).Set"], unfollowed := true, recurses := true, named := ["errors.errorType"], apart := false, laid := [("errors.errorType", laid_errors_errorType)], narrowed := true }
def ExemTwiceUptoSaid : Prop := exemTwiceUptoRow.holds Tryz.pinned (OpenSpec.upto exemTwiceSpec)

/-- 'hyglaw11.ExemJoins', WHERE WHAT IT READS IS OF BULK AT MOST 1048576: true; the input reads as it did. -/
def exemJoinsUptoRow : OpenClaim := { program := "ytandoppfbilhbaagreatdoor", sum := "549bb4469211a7d4c345290c0c7371de344f94c2714f417217ddd6063cab84d4", func := "hygrometer/hyglaw11.ExemJoins", spec := "exemJoins", inPlace := ["internal/abi.NoEscape", "internal/bytealg.MakeNoZero", "internal/reflectlite.ValueOf", "(internal/reflectlite.Value).Type", "(internal/reflectlite.Value).IsNil", "internal/reflectlite.TypeOf", "(internal/reflectlite.Value).Elem", "(internal/reflectlite.Value).Set"], unfollowed := true, recurses := true, named := ["errors.errorType"], apart := false, laid := [("errors.errorType", laid_errors_errorType)], narrowed := true }
def ExemJoinsUptoSaid : Prop := exemJoinsUptoRow.holds Tryz.pinned (OpenSpec.upto exemJoinsSpec)

/-- 'hyglaw11.ExemOthers', WHERE WHAT IT READS IS OF BULK AT MOST 1048576: true; the input reads as it did. -/
def exemOthersUptoRow : OpenClaim := { program := "ytandoppfbilhbaagreatdoor", sum := "549bb4469211a7d4c345290c0c7371de344f94c2714f417217ddd6063cab84d4", func := "hygrometer/hyglaw11.ExemOthers", spec := "exemOthers", inPlace := ["internal/abi.NoEscape", "internal/bytealg.MakeNoZero", "internal/reflectlite.ValueOf", "(internal/reflectlite.Value).Type", "(internal/reflectlite.Value).IsNil", "internal/reflectlite.TypeOf", "(internal/reflectlite.Value).Elem", "(internal/reflectlite.Value).Set"], unfollowed := true, recurses := true, named := ["errors.errorType"], apart := false, laid := [("errors.errorType", laid_errors_errorType)], narrowed := true }
def ExemOthersUptoSaid : Prop := exemOthersUptoRow.holds Tryz.pinned (OpenSpec.upto exemOthersSpec)

/-- 'hyglaw11.ExemDeep', WHERE WHAT IT READS IS OF BULK AT MOST 1048576: true; the input reads as it did. -/
def exemDeepUptoRow : OpenClaim := { program := "ytandoppfbilhbaagreatdoor", sum := "549bb4469211a7d4c345290c0c7371de344f94c2714f417217ddd6063cab84d4", func := "hygrometer/hyglaw11.ExemDeep", spec := "exemDeep", inPlace := ["internal/abi.NoEscape", "internal/bytealg.MakeNoZero", "internal/reflectlite.ValueOf", "(internal/reflectlite.Value).Type", "(internal/reflectlite.Value).IsNil", "internal/reflectlite.TypeOf", "(internal/reflectlite.Value).Elem", "(internal/reflectlite.Value).Set"], unfollowed := true, recurses := true, named := ["errors.errorType"], apart := false, laid := [("errors.errorType", laid_errors_errorType)], narrowed := true }
def ExemDeepUptoSaid : Prop := exemDeepUptoRow.holds Tryz.pinned (OpenSpec.upto exemDeepSpec)

/-- 'hyglaw12.NumberReads', WHERE WHAT IT READS IS OF BULK AT MOST 1048576: true; the input reads as it did. -/
def numberReadsUptoRow : OpenClaim := { program := "ytandoppfbilhbaagreatdoor", sum := "549bb4469211a7d4c345290c0c7371de344f94c2714f417217ddd6063cab84d4", func := "hygrometer/hyglaw12.NumberReads", spec := "numberReads", inPlace := ["internal/abi.NoEscape", "internal/bytealg.MakeNoZero", "internal/reflectlite.ValueOf", "(internal/reflectlite.Value).Type", "(internal/reflectlite.Value).IsNil", "internal/reflectlite.TypeOf", "(internal/reflectlite.Value).Elem", "(internal/reflectlite.Value).Set"], unfollowed := true, recurses := true, named := ["errors.errorType"], apart := false, laid := [("errors.errorType", laid_errors_errorType)], narrowed := true }
def NumberReadsUptoSaid : Prop := numberReadsUptoRow.holds Tryz.pinned (OpenSpec.upto numberReadsSpec)

/-- 'hyglaw12.NumberWrites', WHERE WHAT IT READS IS OF BULK AT MOST 1048576: true; the input reads as it did. -/
def numberWritesUptoRow : OpenClaim := { program := "ytandoppfbilhbaagreatdoor", sum := "549bb4469211a7d4c345290c0c7371de344f94c2714f417217ddd6063cab84d4", func := "hygrometer/hyglaw12.NumberWrites", spec := "numberWrites", inPlace := ["internal/abi.NoEscape", "internal/bytealg.MakeNoZero", "internal/reflectlite.ValueOf", "(internal/reflectlite.Value).Type", "(internal/reflectlite.Value).IsNil", "internal/reflectlite.TypeOf", "(internal/reflectlite.Value).Elem", "(internal/reflectlite.Value).Set"], unfollowed := true, recurses := true, named := ["errors.errorType"], loops := true, apart := false, laid := [("errors.errorType", laid_errors_errorType)], narrowed := true }
def NumberWritesUptoSaid : Prop := numberWritesUptoRow.holds Tryz.pinned (OpenSpec.upto numberWritesSpec)

/-- 'hyglaw12.NumberDeep', WHERE WHAT IT READS IS OF BULK AT MOST 1048576: true; the input reads as it did. -/
def numberDeepUptoRow : OpenClaim := { program := "ytandoppfbilhbaagreatdoor", sum := "549bb4469211a7d4c345290c0c7371de344f94c2714f417217ddd6063cab84d4", func := "hygrometer/hyglaw12.NumberDeep", spec := "numberDeep", inPlace := ["internal/abi.NoEscape", "internal/bytealg.MakeNoZero", "internal/reflectlite.ValueOf", "(internal/reflectlite.Value).Type", "(internal/reflectlite.Value).IsNil", "internal/reflectlite.TypeOf", "(internal/reflectlite.Value).Elem", "(internal/reflectlite.Value).Set"], unfollowed := true, recurses := true, named := ["errors.errorType"], apart := false, laid := [("errors.errorType", laid_errors_errorType)], narrowed := true }
def NumberDeepUptoSaid : Prop := numberDeepUptoRow.holds Tryz.pinned (OpenSpec.upto numberDeepSpec)

end Rows
end Go.Proofs.YtandoppfbilhbaaGreatDoor
