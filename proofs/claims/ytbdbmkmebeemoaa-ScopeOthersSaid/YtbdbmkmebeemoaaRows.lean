/-
  NARROWER THAN 'FOR EVERY INPUT', by the rows' own cells (each row's printed sentence says how): ScopeSame: loops · ScopeBack: loops · ResourceSame: loops · ResourceBack: loops.
  DERIVED. THE GIVEN ROWS OF THIS SEAT. 10 by the template 'for every input the law returns true; each argument reads behind the call as it read before'; 0 by the template 'total and deterministic' (their statements: YtbdbmkmebeemoaaTotals.lean).
  GIVEN WITH THE SEED: the statements are not yours to turn. If you find one false, say at which input.
  Laid BY PROGRAM, IN A SANDBOX (cutbox-rows.mjs): the forced cells as the released guide's own fill.sh prints them over the translation 75a8c521d2e88827… (all of the seat's roots in one cut). By AI agents, Wed Nov 11 2026. No macro, syntax, notation, axiom, sorry.
-/
import Derived.Test.YtbdbmkmebeemoaaChecked
import GoSem.Claim
import GoSem.ClaimJoined
import GoSem.ClaimMapViews
import Derived.JoinedTies
import Derived.KernelRfl
namespace Go.Proofs.Ytbdbmkmebeemoaa
/- THE CELL 'sum', in the pinned program and in every row, IS THE sha256 OF THE DUMP (.gsa) THAT YtbdbmkmebeemoaaProg.lean LOADS. Nothing in Lean hashes anything: it is a label: what it is worth is what the hold of that sum in a sandbox is worth. -/
noncomputable def Try.pinned : Pinned := { name := "ytbdbmkmebeemoaa", sum := "75a8c521d2e88827802a27d0ad8b1e996a53adf68d95955dd016e8e07f6f1b18", checked := Try.checked }
namespace Rows
def none {H : Type} : Left H := { results := [], args := [] }

/-- 'hyglaw10.ScopeSame': WHATEVER THE INPUT: true; the input reads as it did. -/
def scopeSameSpec : ChangeSpec := { name := "scopeSame", fn := fun _ => fun
  | [d1, d2] => { results := [.lit (.bool true)], args := [d1, d2] }
  | _ => none }
def scopeSameRow : OpenClaim := { program := "ytbdbmkmebeemoaa", sum := "75a8c521d2e88827802a27d0ad8b1e996a53adf68d95955dd016e8e07f6f1b18", func := "hygrometer/hyglaw10.ScopeSame", spec := "scopeSame", inPlace := ["internal/abi.NoEscape", "internal/bytealg.MakeNoZero"], unfollowed := true, recurses := true, loops := true, apart := false }
def ScopeSameSaid : Prop := scopeSameRow.holds Try.pinned (OpenSpec.ofChange scopeSameSpec)

/-- ITS FALSE NEIGHBOUR: 'it returns false'. Refute it at one input. -/
def scopeSameWrong : ChangeSpec := { name := "scopeSame", fn := fun _ => fun
  | [d1, d2] => { results := [.lit (.bool false)], args := [d1, d2] }
  | _ => none }
def ScopeSameWrongFalsely : Prop := scopeSameRow.holds Try.pinned (OpenSpec.ofChange scopeSameWrong)

/-- 'hyglaw10.ScopeBack': WHATEVER THE INPUT: true; the input reads as it did. -/
def scopeBackSpec : ChangeSpec := { name := "scopeBack", fn := fun _ => fun
  | [d1, d2, d3] => { results := [.lit (.bool true)], args := [d1, d2, d3] }
  | _ => none }
def scopeBackRow : OpenClaim := { program := "ytbdbmkmebeemoaa", sum := "75a8c521d2e88827802a27d0ad8b1e996a53adf68d95955dd016e8e07f6f1b18", func := "hygrometer/hyglaw10.ScopeBack", spec := "scopeBack", inPlace := ["internal/abi.NoEscape", "internal/bytealg.MakeNoZero"], unfollowed := true, recurses := true, loops := true, apart := false }
def ScopeBackSaid : Prop := scopeBackRow.holds Try.pinned (OpenSpec.ofChange scopeBackSpec)

/-- ITS FALSE NEIGHBOUR: 'it returns false'. Refute it at one input. -/
def scopeBackWrong : ChangeSpec := { name := "scopeBack", fn := fun _ => fun
  | [d1, d2, d3] => { results := [.lit (.bool false)], args := [d1, d2, d3] }
  | _ => none }
def ScopeBackWrongFalsely : Prop := scopeBackRow.holds Try.pinned (OpenSpec.ofChange scopeBackWrong)

/-- 'hyglaw10.ScopeTwice': WHATEVER THE INPUT: true; the input reads as it did. -/
def scopeTwiceSpec : ChangeSpec := { name := "scopeTwice", fn := fun _ => fun
  | [d1, d2] => { results := [.lit (.bool true)], args := [d1, d2] }
  | _ => none }
def scopeTwiceRow : OpenClaim := { program := "ytbdbmkmebeemoaa", sum := "75a8c521d2e88827802a27d0ad8b1e996a53adf68d95955dd016e8e07f6f1b18", func := "hygrometer/hyglaw10.ScopeTwice", spec := "scopeTwice", inPlace := ["internal/abi.NoEscape", "internal/bytealg.MakeNoZero"], unfollowed := true, recurses := true, apart := false }
def ScopeTwiceSaid : Prop := scopeTwiceRow.holds Try.pinned (OpenSpec.ofChange scopeTwiceSpec)

/-- ITS FALSE NEIGHBOUR: 'it returns false'. Refute it at one input. -/
def scopeTwiceWrong : ChangeSpec := { name := "scopeTwice", fn := fun _ => fun
  | [d1, d2] => { results := [.lit (.bool false)], args := [d1, d2] }
  | _ => none }
def ScopeTwiceWrongFalsely : Prop := scopeTwiceRow.holds Try.pinned (OpenSpec.ofChange scopeTwiceWrong)

/-- 'hyglaw10.ScopeJoins': WHATEVER THE INPUT: true; the input reads as it did. -/
def scopeJoinsSpec : ChangeSpec := { name := "scopeJoins", fn := fun _ => fun
  | [d1, d2, d3] => { results := [.lit (.bool true)], args := [d1, d2, d3] }
  | _ => none }
def scopeJoinsRow : OpenClaim := { program := "ytbdbmkmebeemoaa", sum := "75a8c521d2e88827802a27d0ad8b1e996a53adf68d95955dd016e8e07f6f1b18", func := "hygrometer/hyglaw10.ScopeJoins", spec := "scopeJoins", inPlace := ["internal/abi.NoEscape", "internal/bytealg.MakeNoZero"], unfollowed := true, recurses := true, apart := false }
def ScopeJoinsSaid : Prop := scopeJoinsRow.holds Try.pinned (OpenSpec.ofChange scopeJoinsSpec)

/-- ITS FALSE NEIGHBOUR: 'it returns false'. Refute it at one input. -/
def scopeJoinsWrong : ChangeSpec := { name := "scopeJoins", fn := fun _ => fun
  | [d1, d2, d3] => { results := [.lit (.bool false)], args := [d1, d2, d3] }
  | _ => none }
def ScopeJoinsWrongFalsely : Prop := scopeJoinsRow.holds Try.pinned (OpenSpec.ofChange scopeJoinsWrong)

/-- 'hyglaw10.ResourceSame': WHATEVER THE INPUT: true; the input reads as it did. -/
def resourceSameSpec : ChangeSpec := { name := "resourceSame", fn := fun _ => fun
  | [d1, d2] => { results := [.lit (.bool true)], args := [d1, d2] }
  | _ => none }
def resourceSameRow : OpenClaim := { program := "ytbdbmkmebeemoaa", sum := "75a8c521d2e88827802a27d0ad8b1e996a53adf68d95955dd016e8e07f6f1b18", func := "hygrometer/hyglaw10.ResourceSame", spec := "resourceSame", inPlace := ["internal/abi.NoEscape", "internal/bytealg.MakeNoZero"], unfollowed := true, recurses := true, loops := true, apart := false }
def ResourceSameSaid : Prop := resourceSameRow.holds Try.pinned (OpenSpec.ofChange resourceSameSpec)

/-- ITS FALSE NEIGHBOUR: 'it returns false'. Refute it at one input. -/
def resourceSameWrong : ChangeSpec := { name := "resourceSame", fn := fun _ => fun
  | [d1, d2] => { results := [.lit (.bool false)], args := [d1, d2] }
  | _ => none }
def ResourceSameWrongFalsely : Prop := resourceSameRow.holds Try.pinned (OpenSpec.ofChange resourceSameWrong)

/-- 'hyglaw10.ResourceBack': WHATEVER THE INPUT: true; the input reads as it did. -/
def resourceBackSpec : ChangeSpec := { name := "resourceBack", fn := fun _ => fun
  | [d1, d2, d3] => { results := [.lit (.bool true)], args := [d1, d2, d3] }
  | _ => none }
def resourceBackRow : OpenClaim := { program := "ytbdbmkmebeemoaa", sum := "75a8c521d2e88827802a27d0ad8b1e996a53adf68d95955dd016e8e07f6f1b18", func := "hygrometer/hyglaw10.ResourceBack", spec := "resourceBack", inPlace := ["internal/abi.NoEscape", "internal/bytealg.MakeNoZero"], unfollowed := true, recurses := true, loops := true, apart := false }
def ResourceBackSaid : Prop := resourceBackRow.holds Try.pinned (OpenSpec.ofChange resourceBackSpec)

/-- ITS FALSE NEIGHBOUR: 'it returns false'. Refute it at one input. -/
def resourceBackWrong : ChangeSpec := { name := "resourceBack", fn := fun _ => fun
  | [d1, d2, d3] => { results := [.lit (.bool false)], args := [d1, d2, d3] }
  | _ => none }
def ResourceBackWrongFalsely : Prop := resourceBackRow.holds Try.pinned (OpenSpec.ofChange resourceBackWrong)

/-- 'hyglaw10.ResourceTwice': WHATEVER THE INPUT: true; the input reads as it did. -/
def resourceTwiceSpec : ChangeSpec := { name := "resourceTwice", fn := fun _ => fun
  | [d1, d2] => { results := [.lit (.bool true)], args := [d1, d2] }
  | _ => none }
def resourceTwiceRow : OpenClaim := { program := "ytbdbmkmebeemoaa", sum := "75a8c521d2e88827802a27d0ad8b1e996a53adf68d95955dd016e8e07f6f1b18", func := "hygrometer/hyglaw10.ResourceTwice", spec := "resourceTwice", inPlace := ["internal/abi.NoEscape", "internal/bytealg.MakeNoZero"], unfollowed := true, recurses := true, apart := false }
def ResourceTwiceSaid : Prop := resourceTwiceRow.holds Try.pinned (OpenSpec.ofChange resourceTwiceSpec)

/-- ITS FALSE NEIGHBOUR: 'it returns false'. Refute it at one input. -/
def resourceTwiceWrong : ChangeSpec := { name := "resourceTwice", fn := fun _ => fun
  | [d1, d2] => { results := [.lit (.bool false)], args := [d1, d2] }
  | _ => none }
def ResourceTwiceWrongFalsely : Prop := resourceTwiceRow.holds Try.pinned (OpenSpec.ofChange resourceTwiceWrong)

/-- 'hyglaw10.ResourceJoins': WHATEVER THE INPUT: true; the input reads as it did. -/
def resourceJoinsSpec : ChangeSpec := { name := "resourceJoins", fn := fun _ => fun
  | [d1, d2, d3] => { results := [.lit (.bool true)], args := [d1, d2, d3] }
  | _ => none }
def resourceJoinsRow : OpenClaim := { program := "ytbdbmkmebeemoaa", sum := "75a8c521d2e88827802a27d0ad8b1e996a53adf68d95955dd016e8e07f6f1b18", func := "hygrometer/hyglaw10.ResourceJoins", spec := "resourceJoins", inPlace := ["internal/abi.NoEscape", "internal/bytealg.MakeNoZero"], unfollowed := true, recurses := true, apart := false }
def ResourceJoinsSaid : Prop := resourceJoinsRow.holds Try.pinned (OpenSpec.ofChange resourceJoinsSpec)

/-- ITS FALSE NEIGHBOUR: 'it returns false'. Refute it at one input. -/
def resourceJoinsWrong : ChangeSpec := { name := "resourceJoins", fn := fun _ => fun
  | [d1, d2, d3] => { results := [.lit (.bool false)], args := [d1, d2, d3] }
  | _ => none }
def ResourceJoinsWrongFalsely : Prop := resourceJoinsRow.holds Try.pinned (OpenSpec.ofChange resourceJoinsWrong)

/-- 'hyglaw10.ScopeOthers': WHATEVER THE INPUT: true; the input reads as it did. -/
def scopeOthersSpec : ChangeSpec := { name := "scopeOthers", fn := fun _ => fun
  | [d1, d2, d3, d4] => { results := [.lit (.bool true)], args := [d1, d2, d3, d4] }
  | _ => none }
def scopeOthersRow : OpenClaim := { program := "ytbdbmkmebeemoaa", sum := "75a8c521d2e88827802a27d0ad8b1e996a53adf68d95955dd016e8e07f6f1b18", func := "hygrometer/hyglaw10.ScopeOthers", spec := "scopeOthers", inPlace := ["internal/abi.NoEscape", "internal/bytealg.MakeNoZero"], unfollowed := true, recurses := true, apart := false }
def ScopeOthersSaid : Prop := scopeOthersRow.holds Try.pinned (OpenSpec.ofChange scopeOthersSpec)

/-- ITS FALSE NEIGHBOUR: 'it returns false'. Refute it at one input. -/
def scopeOthersWrong : ChangeSpec := { name := "scopeOthers", fn := fun _ => fun
  | [d1, d2, d3, d4] => { results := [.lit (.bool false)], args := [d1, d2, d3, d4] }
  | _ => none }
def ScopeOthersWrongFalsely : Prop := scopeOthersRow.holds Try.pinned (OpenSpec.ofChange scopeOthersWrong)

/-- 'hyglaw10.ResourceOthers': WHATEVER THE INPUT: true; the input reads as it did. -/
def resourceOthersSpec : ChangeSpec := { name := "resourceOthers", fn := fun _ => fun
  | [d1, d2, d3, d4] => { results := [.lit (.bool true)], args := [d1, d2, d3, d4] }
  | _ => none }
def resourceOthersRow : OpenClaim := { program := "ytbdbmkmebeemoaa", sum := "75a8c521d2e88827802a27d0ad8b1e996a53adf68d95955dd016e8e07f6f1b18", func := "hygrometer/hyglaw10.ResourceOthers", spec := "resourceOthers", inPlace := ["internal/abi.NoEscape", "internal/bytealg.MakeNoZero"], unfollowed := true, recurses := true, apart := false }
def ResourceOthersSaid : Prop := resourceOthersRow.holds Try.pinned (OpenSpec.ofChange resourceOthersSpec)

/-- ITS FALSE NEIGHBOUR: 'it returns false'. Refute it at one input. -/
def resourceOthersWrong : ChangeSpec := { name := "resourceOthers", fn := fun _ => fun
  | [d1, d2, d3, d4] => { results := [.lit (.bool false)], args := [d1, d2, d3, d4] }
  | _ => none }
def ResourceOthersWrongFalsely : Prop := resourceOthersRow.holds Try.pinned (OpenSpec.ofChange resourceOthersWrong)

/- THE SECOND FORM. 'bulk': how many values and letters a reading holds, each counted each time it is reached (what is shared counts as often as it is met; a slice's spare places count too). A statement '..UptoSaid' is the law's where the arguments, and the package variables that the reading takes, are together of bulk at most 1048576: NARROWER than '..Said'. Prove '..Said' where nothing that the law and all that it calls make is longer than what came in: it says more and counts as full. Else prove '..UptoSaid'. A law counts once. -/
mutual
def uptoBulk {H : Type} : DataW H → Nat
  | .lit (.string bytes) => bytes.length + 1
  | .lit _ => 1
  | .nil => 1
  | .ptr d => uptoBulk d + 1
  | .slice elems spare => uptoBulkAll elems + uptoBulkAll spare + 1
  | .agg parts => uptoBulkAll parts + 1
  | .iface _ d => uptoBulk d + 1
  | .map entries => uptoBulkEntries entries + 1
  | .held _ => 1
def uptoBulkAll {H : Type} : List (DataW H) → Nat
  | [] => 0
  | d :: r => uptoBulk d + uptoBulkAll r
def uptoBulkEntries {H : Type} : List (Lit × DataW H) → Nat
  | [] => 0
  | x :: r => uptoBulkEntry x + uptoBulkEntries r
def uptoBulkEntry {H : Type} : Lit × DataW H → Nat
  | (.string bytes, d) => bytes.length + uptoBulk d + 1
  | (_, d) => uptoBulk d + 1
 end
def uptoSmall : (H : Type) → List (DataW H) → Bool := fun _ ds => decide (uptoBulkAll ds ≤ 1048576)
def OpenSpec.upto (s : _root_.Go.ChangeSpec) : _root_.Go.OpenSpec := { _root_.Go.OpenSpec.ofChange s with cond := some uptoSmall }

/-- 'hyglaw10.ScopeSame', WHERE WHAT IT READS IS OF BULK AT MOST 1048576: true; the input reads as it did. -/
def scopeSameUptoRow : OpenClaim := { program := "ytbdbmkmebeemoaa", sum := "75a8c521d2e88827802a27d0ad8b1e996a53adf68d95955dd016e8e07f6f1b18", func := "hygrometer/hyglaw10.ScopeSame", spec := "scopeSame", inPlace := ["internal/abi.NoEscape", "internal/bytealg.MakeNoZero"], unfollowed := true, recurses := true, loops := true, apart := false, narrowed := true }
def ScopeSameUptoSaid : Prop := scopeSameUptoRow.holds Try.pinned (OpenSpec.upto scopeSameSpec)

/-- 'hyglaw10.ScopeBack', WHERE WHAT IT READS IS OF BULK AT MOST 1048576: true; the input reads as it did. -/
def scopeBackUptoRow : OpenClaim := { program := "ytbdbmkmebeemoaa", sum := "75a8c521d2e88827802a27d0ad8b1e996a53adf68d95955dd016e8e07f6f1b18", func := "hygrometer/hyglaw10.ScopeBack", spec := "scopeBack", inPlace := ["internal/abi.NoEscape", "internal/bytealg.MakeNoZero"], unfollowed := true, recurses := true, loops := true, apart := false, narrowed := true }
def ScopeBackUptoSaid : Prop := scopeBackUptoRow.holds Try.pinned (OpenSpec.upto scopeBackSpec)

/-- 'hyglaw10.ScopeTwice', WHERE WHAT IT READS IS OF BULK AT MOST 1048576: true; the input reads as it did. -/
def scopeTwiceUptoRow : OpenClaim := { program := "ytbdbmkmebeemoaa", sum := "75a8c521d2e88827802a27d0ad8b1e996a53adf68d95955dd016e8e07f6f1b18", func := "hygrometer/hyglaw10.ScopeTwice", spec := "scopeTwice", inPlace := ["internal/abi.NoEscape", "internal/bytealg.MakeNoZero"], unfollowed := true, recurses := true, apart := false, narrowed := true }
def ScopeTwiceUptoSaid : Prop := scopeTwiceUptoRow.holds Try.pinned (OpenSpec.upto scopeTwiceSpec)

/-- 'hyglaw10.ScopeJoins', WHERE WHAT IT READS IS OF BULK AT MOST 1048576: true; the input reads as it did. -/
def scopeJoinsUptoRow : OpenClaim := { program := "ytbdbmkmebeemoaa", sum := "75a8c521d2e88827802a27d0ad8b1e996a53adf68d95955dd016e8e07f6f1b18", func := "hygrometer/hyglaw10.ScopeJoins", spec := "scopeJoins", inPlace := ["internal/abi.NoEscape", "internal/bytealg.MakeNoZero"], unfollowed := true, recurses := true, apart := false, narrowed := true }
def ScopeJoinsUptoSaid : Prop := scopeJoinsUptoRow.holds Try.pinned (OpenSpec.upto scopeJoinsSpec)

/-- 'hyglaw10.ResourceSame', WHERE WHAT IT READS IS OF BULK AT MOST 1048576: true; the input reads as it did. -/
def resourceSameUptoRow : OpenClaim := { program := "ytbdbmkmebeemoaa", sum := "75a8c521d2e88827802a27d0ad8b1e996a53adf68d95955dd016e8e07f6f1b18", func := "hygrometer/hyglaw10.ResourceSame", spec := "resourceSame", inPlace := ["internal/abi.NoEscape", "internal/bytealg.MakeNoZero"], unfollowed := true, recurses := true, loops := true, apart := false, narrowed := true }
def ResourceSameUptoSaid : Prop := resourceSameUptoRow.holds Try.pinned (OpenSpec.upto resourceSameSpec)

/-- 'hyglaw10.ResourceBack', WHERE WHAT IT READS IS OF BULK AT MOST 1048576: true; the input reads as it did. -/
def resourceBackUptoRow : OpenClaim := { program := "ytbdbmkmebeemoaa", sum := "75a8c521d2e88827802a27d0ad8b1e996a53adf68d95955dd016e8e07f6f1b18", func := "hygrometer/hyglaw10.ResourceBack", spec := "resourceBack", inPlace := ["internal/abi.NoEscape", "internal/bytealg.MakeNoZero"], unfollowed := true, recurses := true, loops := true, apart := false, narrowed := true }
def ResourceBackUptoSaid : Prop := resourceBackUptoRow.holds Try.pinned (OpenSpec.upto resourceBackSpec)

/-- 'hyglaw10.ResourceTwice', WHERE WHAT IT READS IS OF BULK AT MOST 1048576: true; the input reads as it did. -/
def resourceTwiceUptoRow : OpenClaim := { program := "ytbdbmkmebeemoaa", sum := "75a8c521d2e88827802a27d0ad8b1e996a53adf68d95955dd016e8e07f6f1b18", func := "hygrometer/hyglaw10.ResourceTwice", spec := "resourceTwice", inPlace := ["internal/abi.NoEscape", "internal/bytealg.MakeNoZero"], unfollowed := true, recurses := true, apart := false, narrowed := true }
def ResourceTwiceUptoSaid : Prop := resourceTwiceUptoRow.holds Try.pinned (OpenSpec.upto resourceTwiceSpec)

/-- 'hyglaw10.ResourceJoins', WHERE WHAT IT READS IS OF BULK AT MOST 1048576: true; the input reads as it did. -/
def resourceJoinsUptoRow : OpenClaim := { program := "ytbdbmkmebeemoaa", sum := "75a8c521d2e88827802a27d0ad8b1e996a53adf68d95955dd016e8e07f6f1b18", func := "hygrometer/hyglaw10.ResourceJoins", spec := "resourceJoins", inPlace := ["internal/abi.NoEscape", "internal/bytealg.MakeNoZero"], unfollowed := true, recurses := true, apart := false, narrowed := true }
def ResourceJoinsUptoSaid : Prop := resourceJoinsUptoRow.holds Try.pinned (OpenSpec.upto resourceJoinsSpec)

/-- 'hyglaw10.ScopeOthers', WHERE WHAT IT READS IS OF BULK AT MOST 1048576: true; the input reads as it did. -/
def scopeOthersUptoRow : OpenClaim := { program := "ytbdbmkmebeemoaa", sum := "75a8c521d2e88827802a27d0ad8b1e996a53adf68d95955dd016e8e07f6f1b18", func := "hygrometer/hyglaw10.ScopeOthers", spec := "scopeOthers", inPlace := ["internal/abi.NoEscape", "internal/bytealg.MakeNoZero"], unfollowed := true, recurses := true, apart := false, narrowed := true }
def ScopeOthersUptoSaid : Prop := scopeOthersUptoRow.holds Try.pinned (OpenSpec.upto scopeOthersSpec)

/-- 'hyglaw10.ResourceOthers', WHERE WHAT IT READS IS OF BULK AT MOST 1048576: true; the input reads as it did. -/
def resourceOthersUptoRow : OpenClaim := { program := "ytbdbmkmebeemoaa", sum := "75a8c521d2e88827802a27d0ad8b1e996a53adf68d95955dd016e8e07f6f1b18", func := "hygrometer/hyglaw10.ResourceOthers", spec := "resourceOthers", inPlace := ["internal/abi.NoEscape", "internal/bytealg.MakeNoZero"], unfollowed := true, recurses := true, apart := false, narrowed := true }
def ResourceOthersUptoSaid : Prop := resourceOthersUptoRow.holds Try.pinned (OpenSpec.upto resourceOthersSpec)

end Rows
end Go.Proofs.Ytbdbmkmebeemoaa
