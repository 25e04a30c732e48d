/-
  NARROWER THAN 'FOR EVERY INPUT', by the rows' own cells (each row's printed sentence says how): BucketsReads: laid · BucketsWrites: laid · BucketsDeep: laid.
  DERIVED. THE GIVEN ROWS OF THIS SEAT. 3 by the template 'for every input the law returns true; each argument reads behind the call as it read before'; 0 by the template 'total and deterministic' (their statements: YtdokbooggbiciaaGreatDoorTotals.lean).
  GIVEN WITH THE SEED: the statements are not yours to turn. If you find one false, say at which input.
  Laid BY PROGRAM, IN A SANDBOX (cutbox-rows.mjs): the forced cells as the released guide's own fill.sh prints them over the translation ef1750a0a58f0b8b… (all of the seat's roots in one cut). By AI agents, Wed Nov 11 2026. No macro, syntax, notation, axiom, sorry.
-/
import Derived.Test.YtdokbooggbiciaaGreatDoorChecked
import GoSem.Claim
import GoSem.ClaimJoined
import GoSem.ClaimMapViews
import Derived.JoinedTies
import Derived.KernelRfl
namespace Go.Proofs.YtdokbooggbiciaaGreatDoor
/- THE CELL 'sum', in the pinned program and in every row, IS THE sha256 OF THE DUMP (.gsa) THAT YtdokbooggbiciaaGreatDoorProg.lean LOADS. Nothing in Lean hashes anything: it is a label: what it is worth is what the hold of that sum in a sandbox is worth. -/
noncomputable def Tryz.pinned : Pinned := { name := "ytdokbooggbiciaagreatdoor", sum := "ef1750a0a58f0b8b7d3066a2b0eb71efda2929318c73fe6bc038f10108150e09", checked := Tryz.checked }
namespace Rows
def none {H : Type} : Left H := { results := [], args := [] }

/- WHAT THE LISTED PACKAGE-LEVEL VARIABLES READ AS WHEN THE CALL BEGINS. Each datum BY PROGRAM (the guide's laid-datum.mjs) off the statement by which the dump's own 'gosem.cut.vars' lays the variable. In a bare row this is a premise. The card (YtdokbooggbiciaaGreatDoorCards.lean) ties it to the program's text. -/
def laid_errors_errorType {H : Type} : DataW H := .iface "internal/reflectlite.rtype" (.agg [.ptr (.lit (.string [101, 114, 114, 111, 114]))])

/-- 'hyglaw14.BucketsReads': WHATEVER THE INPUT: true; the input reads as it did. -/
def bucketsReadsSpec : ChangeSpec := { name := "bucketsReads", fn := fun _ => fun
  | [d1, d2] => { results := [.lit (.bool true)], args := [d1, d2] }
  | _ => none }
def bucketsReadsRow : OpenClaim := { program := "ytdokbooggbiciaagreatdoor", sum := "ef1750a0a58f0b8b7d3066a2b0eb71efda2929318c73fe6bc038f10108150e09", func := "hygrometer/hyglaw14.BucketsReads", spec := "bucketsReads", inPlace := ["internal/abi.NoEscape", "internal/bytealg.MakeNoZero", "internal/reflectlite.ValueOf", "(internal/reflectlite.Value).Type", "(internal/reflectlite.Value).IsNil", "internal/reflectlite.TypeOf", "(internal/reflectlite.Value).Elem", "(internal/reflectlite.Value).Set"], unfollowed := true, recurses := true, named := ["errors.errorType"], apart := false, laid := [("errors.errorType", laid_errors_errorType)] }
def BucketsReadsSaid : Prop := bucketsReadsRow.holds Tryz.pinned (OpenSpec.ofChange bucketsReadsSpec)

/-- ITS FALSE NEIGHBOUR: 'it returns false'. Refute it at one input. -/
def bucketsReadsWrong : ChangeSpec := { name := "bucketsReads", fn := fun _ => fun
  | [d1, d2] => { results := [.lit (.bool false)], args := [d1, d2] }
  | _ => none }
def BucketsReadsWrongFalsely : Prop := bucketsReadsRow.holds Tryz.pinned (OpenSpec.ofChange bucketsReadsWrong)

/-- 'hyglaw14.BucketsWrites': WHATEVER THE INPUT: true; the input reads as it did. -/
def bucketsWritesSpec : ChangeSpec := { name := "bucketsWrites", fn := fun _ => fun
  | [d1, d2] => { results := [.lit (.bool true)], args := [d1, d2] }
  | _ => none }
def bucketsWritesRow : OpenClaim := { program := "ytdokbooggbiciaagreatdoor", sum := "ef1750a0a58f0b8b7d3066a2b0eb71efda2929318c73fe6bc038f10108150e09", func := "hygrometer/hyglaw14.BucketsWrites", spec := "bucketsWrites", inPlace := ["internal/abi.NoEscape", "internal/bytealg.MakeNoZero", "internal/reflectlite.ValueOf", "(internal/reflectlite.Value).Type", "(internal/reflectlite.Value).IsNil", "internal/reflectlite.TypeOf", "(internal/reflectlite.Value).Elem", "(internal/reflectlite.Value).Set"], unfollowed := true, recurses := true, named := ["errors.errorType"], apart := false, laid := [("errors.errorType", laid_errors_errorType)] }
def BucketsWritesSaid : Prop := bucketsWritesRow.holds Tryz.pinned (OpenSpec.ofChange bucketsWritesSpec)

/-- ITS FALSE NEIGHBOUR: 'it returns false'. Refute it at one input. -/
def bucketsWritesWrong : ChangeSpec := { name := "bucketsWrites", fn := fun _ => fun
  | [d1, d2] => { results := [.lit (.bool false)], args := [d1, d2] }
  | _ => none }
def BucketsWritesWrongFalsely : Prop := bucketsWritesRow.holds Tryz.pinned (OpenSpec.ofChange bucketsWritesWrong)

/-- 'hyglaw14.BucketsDeep': WHATEVER THE INPUT: true; the input reads as it did. -/
def bucketsDeepSpec : ChangeSpec := { name := "bucketsDeep", fn := fun _ => fun
  | [d1, d2] => { results := [.lit (.bool true)], args := [d1, d2] }
  | _ => none }
def bucketsDeepRow : OpenClaim := { program := "ytdokbooggbiciaagreatdoor", sum := "ef1750a0a58f0b8b7d3066a2b0eb71efda2929318c73fe6bc038f10108150e09", func := "hygrometer/hyglaw14.BucketsDeep", spec := "bucketsDeep", inPlace := ["internal/abi.NoEscape", "internal/bytealg.MakeNoZero", "internal/reflectlite.ValueOf", "(internal/reflectlite.Value).Type", "(internal/reflectlite.Value).IsNil", "internal/reflectlite.TypeOf", "(internal/reflectlite.Value).Elem", "(internal/reflectlite.Value).Set"], unfollowed := true, recurses := true, named := ["errors.errorType"], apart := false, laid := [("errors.errorType", laid_errors_errorType)] }
def BucketsDeepSaid : Prop := bucketsDeepRow.holds Tryz.pinned (OpenSpec.ofChange bucketsDeepSpec)

/-- ITS FALSE NEIGHBOUR: 'it returns false'. Refute it at one input. -/
def bucketsDeepWrong : ChangeSpec := { name := "bucketsDeep", fn := fun _ => fun
  | [d1, d2] => { results := [.lit (.bool false)], args := [d1, d2] }
  | _ => none }
def BucketsDeepWrongFalsely : Prop := bucketsDeepRow.holds Tryz.pinned (OpenSpec.ofChange bucketsDeepWrong)

/- THE SECOND FORM. 'bulk': how many values and letters a reading holds, each counted each time it is reached (what is shared counts as often as it is met; a slice's spare places count too). A statement '..UptoSaid' is the law's where the arguments, and the package variables that the reading takes, are together of bulk at most 1048576: NARROWER than '..Said'. Prove '..Said' where nothing that the law and all that it calls make is longer than what came in: it says more and counts as full. Else prove '..UptoSaid'. A law counts once. -/
mutual
def uptoBulk {H : Type} : DataW H → Nat
  | .lit (.string bytes) => bytes.length + 1
  | .lit _ => 1
  | .nil => 1
  | .ptr d => uptoBulk d + 1
  | .slice elems spare => uptoBulkAll elems + uptoBulkAll spare + 1
  | .agg parts => uptoBulkAll parts + 1
  | .iface _ d => uptoBulk d + 1
  | .map entries => uptoBulkEntries entries + 1
  | .held _ => 1
def uptoBulkAll {H : Type} : List (DataW H) → Nat
  | [] => 0
  | d :: r => uptoBulk d + uptoBulkAll r
def uptoBulkEntries {H : Type} : List (Lit × DataW H) → Nat
  | [] => 0
  | x :: r => uptoBulkEntry x + uptoBulkEntries r
def uptoBulkEntry {H : Type} : Lit × DataW H → Nat
  | (.string bytes, d) => bytes.length + uptoBulk d + 1
  | (_, d) => uptoBulk d + 1
 end
def uptoSmall : (H : Type) → List (DataW H) → Bool := fun _ ds => decide (uptoBulkAll ds ≤ 1048576)
def OpenSpec.upto (s : _root_.Go.ChangeSpec) : _root_.Go.OpenSpec := { _root_.Go.OpenSpec.ofChange s with cond := some uptoSmall }

/-- 'hyglaw14.BucketsReads', WHERE WHAT IT READS IS OF BULK AT MOST 1048576: true; the input reads as it did. -/
def bucketsReadsUptoRow : OpenClaim := { program := "ytdokbooggbiciaagreatdoor", sum := "ef1750a0a58f0b8b7d3066a2b0eb71efda2929318c73fe6bc038f10108150e09", func := "hygrometer/hyglaw14.BucketsReads", spec := "bucketsReads", inPlace := ["internal/abi.NoEscape", "internal/bytealg.MakeNoZero", "internal/reflectlite.ValueOf", "(internal/reflectlite.Value).Type", "(internal/reflectlite.Value).IsNil", "internal/reflectlite.TypeOf", "(internal/reflectlite.Value).Elem", "(internal/reflectlite.Value).Set"], unfollowed := true, recurses := true, named := ["errors.errorType"], apart := false, laid := [("errors.errorType", laid_errors_errorType)], narrowed := true }
def BucketsReadsUptoSaid : Prop := bucketsReadsUptoRow.holds Tryz.pinned (OpenSpec.upto bucketsReadsSpec)

/-- 'hyglaw14.BucketsWrites', WHERE WHAT IT READS IS OF BULK AT MOST 1048576: true; the input reads as it did. -/
def bucketsWritesUptoRow : OpenClaim := { program := "ytdokbooggbiciaagreatdoor", sum := "ef1750a0a58f0b8b7d3066a2b0eb71efda2929318c73fe6bc038f10108150e09", func := "hygrometer/hyglaw14.BucketsWrites", spec := "bucketsWrites", inPlace := ["internal/abi.NoEscape", "internal/bytealg.MakeNoZero", "internal/reflectlite.ValueOf", "(internal/reflectlite.Value).Type", "(internal/reflectlite.Value).IsNil", "internal/reflectlite.TypeOf", "(internal/reflectlite.Value).Elem", "(internal/reflectlite.Value).Set"], unfollowed := true, recurses := true, named := ["errors.errorType"], apart := false, laid := [("errors.errorType", laid_errors_errorType)], narrowed := true }
def BucketsWritesUptoSaid : Prop := bucketsWritesUptoRow.holds Tryz.pinned (OpenSpec.upto bucketsWritesSpec)

/-- 'hyglaw14.BucketsDeep', WHERE WHAT IT READS IS OF BULK AT MOST 1048576: true; the input reads as it did. -/
def bucketsDeepUptoRow : OpenClaim := { program := "ytdokbooggbiciaagreatdoor", sum := "ef1750a0a58f0b8b7d3066a2b0eb71efda2929318c73fe6bc038f10108150e09", func := "hygrometer/hyglaw14.BucketsDeep", spec := "bucketsDeep", inPlace := ["internal/abi.NoEscape", "internal/bytealg.MakeNoZero", "internal/reflectlite.ValueOf", "(internal/reflectlite.Value).Type", "(internal/reflectlite.Value).IsNil", "internal/reflectlite.TypeOf", "(internal/reflectlite.Value).Elem", "(internal/reflectlite.Value).Set"], unfollowed := true, recurses := true, named := ["errors.errorType"], apart := false, laid := [("errors.errorType", laid_errors_errorType)], narrowed := true }
def BucketsDeepUptoSaid : Prop := bucketsDeepUptoRow.holds Tryz.pinned (OpenSpec.upto bucketsDeepSpec)

end Rows
end Go.Proofs.YtdokbooggbiciaaGreatDoor
