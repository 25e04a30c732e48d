/-
  NARROWER THAN 'FOR EVERY INPUT', by the rows' own cells (each row's printed sentence says how): NumberSame: loops · NumberBack: loops.
  DERIVED. THE GIVEN ROWS OF THIS SEAT. 4 by the template 'for every input the law returns true; each argument reads behind the call as it read before'; 0 by the template 'total and deterministic' (their statements: YtandoppfbilhbaaGreatTotals.lean).
  GIVEN WITH THE SEED: the statements are not yours to turn. If you find one false, say at which input.
  Laid BY PROGRAM, IN A SANDBOX (cutbox-rows.mjs): the forced cells as the released guide's own fill.sh prints them over the translation bdab4016f012ba92… (all of the seat's roots in one cut). By AI agents, Wed Nov 11 2026. No macro, syntax, notation, axiom, sorry.
-/
import Derived.Test.YtandoppfbilhbaaGreatChecked
import GoSem.Claim
import GoSem.ClaimJoined
import GoSem.ClaimMapViews
import Derived.JoinedTies
import Derived.KernelRfl
namespace Go.Proofs.YtandoppfbilhbaaGreat
/- THE CELL 'sum', in the pinned program and in every row, IS THE sha256 OF THE DUMP (.gsa) THAT YtandoppfbilhbaaGreatProg.lean LOADS. Nothing in Lean hashes anything: it is a label: what it is worth is what the hold of that sum in a sandbox is worth. -/
noncomputable def Tryz.pinned : Pinned := { name := "ytandoppfbilhbaagreat", sum := "bdab4016f012ba92d06b72aa43b489443202f343ddc38cba6a7a98d5a0a9269e", checked := Tryz.checked }
namespace Rows
def none {H : Type} : Left H := { results := [], args := [] }

/-- 'hyglaw12.NumberSame': WHATEVER THE INPUT: true; the input reads as it did. -/
def numberSameSpec : ChangeSpec := { name := "numberSame", fn := fun _ => fun
  | [d1, d2] => { results := [.lit (.bool true)], args := [d1, d2] }
  | _ => none }
def numberSameRow : OpenClaim := { program := "ytandoppfbilhbaagreat", sum := "bdab4016f012ba92d06b72aa43b489443202f343ddc38cba6a7a98d5a0a9269e", func := "hygrometer/hyglaw12.NumberSame", spec := "numberSame", inPlace := ["internal/abi.NoEscape", "internal/bytealg.MakeNoZero"], unfollowed := true, recurses := true, loops := true, apart := false }
def NumberSameSaid : Prop := numberSameRow.holds Tryz.pinned (OpenSpec.ofChange numberSameSpec)

/-- ITS FALSE NEIGHBOUR: 'it returns false'. Refute it at one input. -/
def numberSameWrong : ChangeSpec := { name := "numberSame", fn := fun _ => fun
  | [d1, d2] => { results := [.lit (.bool false)], args := [d1, d2] }
  | _ => none }
def NumberSameWrongFalsely : Prop := numberSameRow.holds Tryz.pinned (OpenSpec.ofChange numberSameWrong)

/-- 'hyglaw12.NumberBack': WHATEVER THE INPUT: true; the input reads as it did. -/
def numberBackSpec : ChangeSpec := { name := "numberBack", fn := fun _ => fun
  | [d1, d2, d3] => { results := [.lit (.bool true)], args := [d1, d2, d3] }
  | _ => none }
def numberBackRow : OpenClaim := { program := "ytandoppfbilhbaagreat", sum := "bdab4016f012ba92d06b72aa43b489443202f343ddc38cba6a7a98d5a0a9269e", func := "hygrometer/hyglaw12.NumberBack", spec := "numberBack", inPlace := ["internal/abi.NoEscape", "internal/bytealg.MakeNoZero"], unfollowed := true, recurses := true, loops := true, apart := false }
def NumberBackSaid : Prop := numberBackRow.holds Tryz.pinned (OpenSpec.ofChange numberBackSpec)

/-- ITS FALSE NEIGHBOUR: 'it returns false'. Refute it at one input. -/
def numberBackWrong : ChangeSpec := { name := "numberBack", fn := fun _ => fun
  | [d1, d2, d3] => { results := [.lit (.bool false)], args := [d1, d2, d3] }
  | _ => none }
def NumberBackWrongFalsely : Prop := numberBackRow.holds Tryz.pinned (OpenSpec.ofChange numberBackWrong)

/-- 'hyglaw12.NumberTwice': WHATEVER THE INPUT: true; the input reads as it did. -/
def numberTwiceSpec : ChangeSpec := { name := "numberTwice", fn := fun _ => fun
  | [d1, d2] => { results := [.lit (.bool true)], args := [d1, d2] }
  | _ => none }
def numberTwiceRow : OpenClaim := { program := "ytandoppfbilhbaagreat", sum := "bdab4016f012ba92d06b72aa43b489443202f343ddc38cba6a7a98d5a0a9269e", func := "hygrometer/hyglaw12.NumberTwice", spec := "numberTwice", inPlace := ["internal/abi.NoEscape", "internal/bytealg.MakeNoZero"], unfollowed := true, recurses := true, apart := false }
def NumberTwiceSaid : Prop := numberTwiceRow.holds Tryz.pinned (OpenSpec.ofChange numberTwiceSpec)

/-- ITS FALSE NEIGHBOUR: 'it returns false'. Refute it at one input. -/
def numberTwiceWrong : ChangeSpec := { name := "numberTwice", fn := fun _ => fun
  | [d1, d2] => { results := [.lit (.bool false)], args := [d1, d2] }
  | _ => none }
def NumberTwiceWrongFalsely : Prop := numberTwiceRow.holds Tryz.pinned (OpenSpec.ofChange numberTwiceWrong)

/-- 'hyglaw12.NumberOthers': WHATEVER THE INPUT: true; the input reads as it did. -/
def numberOthersSpec : ChangeSpec := { name := "numberOthers", fn := fun _ => fun
  | [d1, d2, d3, d4] => { results := [.lit (.bool true)], args := [d1, d2, d3, d4] }
  | _ => none }
def numberOthersRow : OpenClaim := { program := "ytandoppfbilhbaagreat", sum := "bdab4016f012ba92d06b72aa43b489443202f343ddc38cba6a7a98d5a0a9269e", func := "hygrometer/hyglaw12.NumberOthers", spec := "numberOthers", inPlace := ["internal/abi.NoEscape", "internal/bytealg.MakeNoZero"], unfollowed := true, recurses := true, apart := false }
def NumberOthersSaid : Prop := numberOthersRow.holds Tryz.pinned (OpenSpec.ofChange numberOthersSpec)

/-- ITS FALSE NEIGHBOUR: 'it returns false'. Refute it at one input. -/
def numberOthersWrong : ChangeSpec := { name := "numberOthers", fn := fun _ => fun
  | [d1, d2, d3, d4] => { results := [.lit (.bool false)], args := [d1, d2, d3, d4] }
  | _ => none }
def NumberOthersWrongFalsely : Prop := numberOthersRow.holds Tryz.pinned (OpenSpec.ofChange numberOthersWrong)

/- THE SECOND FORM. 'bulk': how many values and letters a reading holds, each counted each time it is reached (what is shared counts as often as it is met; a slice's spare places count too). A statement '..UptoSaid' is the law's where the arguments, and the package variables that the reading takes, are together of bulk at most 1048576: NARROWER than '..Said'. Prove '..Said' where nothing that the law and all that it calls make is longer than what came in: it says more and counts as full. Else prove '..UptoSaid'. A law counts once. -/
mutual
def uptoBulk {H : Type} : DataW H → Nat
  | .lit (.string bytes) => bytes.length + 1
  | .lit _ => 1
  | .nil => 1
  | .ptr d => uptoBulk d + 1
  | .slice elems spare => uptoBulkAll elems + uptoBulkAll spare + 1
  | .agg parts => uptoBulkAll parts + 1
  | .iface _ d => uptoBulk d + 1
  | .map entries => uptoBulkEntries entries + 1
  | .held _ => 1
def uptoBulkAll {H : Type} : List (DataW H) → Nat
  | [] => 0
  | d :: r => uptoBulk d + uptoBulkAll r
def uptoBulkEntries {H : Type} : List (Lit × DataW H) → Nat
  | [] => 0
  | x :: r => uptoBulkEntry x + uptoBulkEntries r
def uptoBulkEntry {H : Type} : Lit × DataW H → Nat
  | (.string bytes, d) => bytes.length + uptoBulk d + 1
  | (_, d) => uptoBulk d + 1
 end
def uptoSmall : (H : Type) → List (DataW H) → Bool := fun _ ds => decide (uptoBulkAll ds ≤ 1048576)
def OpenSpec.upto (s : _root_.Go.ChangeSpec) : _root_.Go.OpenSpec := { _root_.Go.OpenSpec.ofChange s with cond := some uptoSmall }

/-- 'hyglaw12.NumberSame', WHERE WHAT IT READS IS OF BULK AT MOST 1048576: true; the input reads as it did. -/
def numberSameUptoRow : OpenClaim := { program := "ytandoppfbilhbaagreat", sum := "bdab4016f012ba92d06b72aa43b489443202f343ddc38cba6a7a98d5a0a9269e", func := "hygrometer/hyglaw12.NumberSame", spec := "numberSame", inPlace := ["internal/abi.NoEscape", "internal/bytealg.MakeNoZero"], unfollowed := true, recurses := true, loops := true, apart := false, narrowed := true }
def NumberSameUptoSaid : Prop := numberSameUptoRow.holds Tryz.pinned (OpenSpec.upto numberSameSpec)

/-- 'hyglaw12.NumberBack', WHERE WHAT IT READS IS OF BULK AT MOST 1048576: true; the input reads as it did. -/
def numberBackUptoRow : OpenClaim := { program := "ytandoppfbilhbaagreat", sum := "bdab4016f012ba92d06b72aa43b489443202f343ddc38cba6a7a98d5a0a9269e", func := "hygrometer/hyglaw12.NumberBack", spec := "numberBack", inPlace := ["internal/abi.NoEscape", "internal/bytealg.MakeNoZero"], unfollowed := true, recurses := true, loops := true, apart := false, narrowed := true }
def NumberBackUptoSaid : Prop := numberBackUptoRow.holds Tryz.pinned (OpenSpec.upto numberBackSpec)

/-- 'hyglaw12.NumberTwice', WHERE WHAT IT READS IS OF BULK AT MOST 1048576: true; the input reads as it did. -/
def numberTwiceUptoRow : OpenClaim := { program := "ytandoppfbilhbaagreat", sum := "bdab4016f012ba92d06b72aa43b489443202f343ddc38cba6a7a98d5a0a9269e", func := "hygrometer/hyglaw12.NumberTwice", spec := "numberTwice", inPlace := ["internal/abi.NoEscape", "internal/bytealg.MakeNoZero"], unfollowed := true, recurses := true, apart := false, narrowed := true }
def NumberTwiceUptoSaid : Prop := numberTwiceUptoRow.holds Tryz.pinned (OpenSpec.upto numberTwiceSpec)

/-- 'hyglaw12.NumberOthers', WHERE WHAT IT READS IS OF BULK AT MOST 1048576: true; the input reads as it did. -/
def numberOthersUptoRow : OpenClaim := { program := "ytandoppfbilhbaagreat", sum := "bdab4016f012ba92d06b72aa43b489443202f343ddc38cba6a7a98d5a0a9269e", func := "hygrometer/hyglaw12.NumberOthers", spec := "numberOthers", inPlace := ["internal/abi.NoEscape", "internal/bytealg.MakeNoZero"], unfollowed := true, recurses := true, apart := false, narrowed := true }
def NumberOthersUptoSaid : Prop := numberOthersUptoRow.holds Tryz.pinned (OpenSpec.upto numberOthersSpec)

end Rows
end Go.Proofs.YtandoppfbilhbaaGreat
