/-
  NARROWER THAN 'FOR EVERY INPUT', by the rows' own cells (each row's printed sentence says how): HistSame: loops · HistBack: loops.
  DERIVED. THE GIVEN ROWS OF THIS SEAT. 4 by the template 'for every input the law returns true; each argument reads behind the call as it read before'; 0 by the template 'total and deterministic' (their statements: YtjbingoliffjiaaGreatTotals.lean).
  GIVEN WITH THE SEED: the statements are not yours to turn. If you find one false, say at which input.
  Laid BY PROGRAM, IN A SANDBOX (cutbox-rows.mjs): the forced cells as the released guide's own fill.sh prints them over the translation f02b067c09ec94ec… (all of the seat's roots in one cut). By AI agents, Wed Nov 11 2026. No macro, syntax, notation, axiom, sorry.
-/
import Derived.Test.YtjbingoliffjiaaGreatChecked
import GoSem.Claim
import GoSem.ClaimJoined
import GoSem.ClaimMapViews
import Derived.JoinedTies
import Derived.KernelRfl
namespace Go.Proofs.YtjbingoliffjiaaGreat
/- THE CELL 'sum', in the pinned program and in every row, IS THE sha256 OF THE DUMP (.gsa) THAT YtjbingoliffjiaaGreatProg.lean LOADS. Nothing in Lean hashes anything: it is a label: what it is worth is what the hold of that sum in a sandbox is worth. -/
noncomputable def Tryz.pinned : Pinned := { name := "ytjbingoliffjiaagreat", sum := "f02b067c09ec94ec1667f424dcf44d2d4b351aacd670314fb2d3c5bdba2b9e7d", checked := Tryz.checked }
namespace Rows
def none {H : Type} : Left H := { results := [], args := [] }

/-- 'hyglaw13.HistSame': WHATEVER THE INPUT: true; the input reads as it did. -/
def histSameSpec : ChangeSpec := { name := "histSame", fn := fun _ => fun
  | [d1, d2] => { results := [.lit (.bool true)], args := [d1, d2] }
  | _ => none }
def histSameRow : OpenClaim := { program := "ytjbingoliffjiaagreat", sum := "f02b067c09ec94ec1667f424dcf44d2d4b351aacd670314fb2d3c5bdba2b9e7d", func := "hygrometer/hyglaw13.HistSame", spec := "histSame", inPlace := ["internal/abi.NoEscape", "internal/bytealg.MakeNoZero"], unfollowed := true, recurses := true, loops := true, apart := false }
def HistSameSaid : Prop := histSameRow.holds Tryz.pinned (OpenSpec.ofChange histSameSpec)

/-- ITS FALSE NEIGHBOUR: 'it returns false'. Refute it at one input. -/
def histSameWrong : ChangeSpec := { name := "histSame", fn := fun _ => fun
  | [d1, d2] => { results := [.lit (.bool false)], args := [d1, d2] }
  | _ => none }
def HistSameWrongFalsely : Prop := histSameRow.holds Tryz.pinned (OpenSpec.ofChange histSameWrong)

/-- 'hyglaw13.HistBack': WHATEVER THE INPUT: true; the input reads as it did. -/
def histBackSpec : ChangeSpec := { name := "histBack", fn := fun _ => fun
  | [d1, d2, d3] => { results := [.lit (.bool true)], args := [d1, d2, d3] }
  | _ => none }
def histBackRow : OpenClaim := { program := "ytjbingoliffjiaagreat", sum := "f02b067c09ec94ec1667f424dcf44d2d4b351aacd670314fb2d3c5bdba2b9e7d", func := "hygrometer/hyglaw13.HistBack", spec := "histBack", inPlace := ["internal/abi.NoEscape", "internal/bytealg.MakeNoZero"], unfollowed := true, recurses := true, loops := true, apart := false }
def HistBackSaid : Prop := histBackRow.holds Tryz.pinned (OpenSpec.ofChange histBackSpec)

/-- ITS FALSE NEIGHBOUR: 'it returns false'. Refute it at one input. -/
def histBackWrong : ChangeSpec := { name := "histBack", fn := fun _ => fun
  | [d1, d2, d3] => { results := [.lit (.bool false)], args := [d1, d2, d3] }
  | _ => none }
def HistBackWrongFalsely : Prop := histBackRow.holds Tryz.pinned (OpenSpec.ofChange histBackWrong)

/-- 'hyglaw13.HistTwice': WHATEVER THE INPUT: true; the input reads as it did. -/
def histTwiceSpec : ChangeSpec := { name := "histTwice", fn := fun _ => fun
  | [d1, d2] => { results := [.lit (.bool true)], args := [d1, d2] }
  | _ => none }
def histTwiceRow : OpenClaim := { program := "ytjbingoliffjiaagreat", sum := "f02b067c09ec94ec1667f424dcf44d2d4b351aacd670314fb2d3c5bdba2b9e7d", func := "hygrometer/hyglaw13.HistTwice", spec := "histTwice", inPlace := ["internal/abi.NoEscape", "internal/bytealg.MakeNoZero"], unfollowed := true, recurses := true, apart := false }
def HistTwiceSaid : Prop := histTwiceRow.holds Tryz.pinned (OpenSpec.ofChange histTwiceSpec)

/-- ITS FALSE NEIGHBOUR: 'it returns false'. Refute it at one input. -/
def histTwiceWrong : ChangeSpec := { name := "histTwice", fn := fun _ => fun
  | [d1, d2] => { results := [.lit (.bool false)], args := [d1, d2] }
  | _ => none }
def HistTwiceWrongFalsely : Prop := histTwiceRow.holds Tryz.pinned (OpenSpec.ofChange histTwiceWrong)

/-- 'hyglaw13.HistOthers': WHATEVER THE INPUT: true; the input reads as it did. -/
def histOthersSpec : ChangeSpec := { name := "histOthers", fn := fun _ => fun
  | [d1, d2, d3, d4] => { results := [.lit (.bool true)], args := [d1, d2, d3, d4] }
  | _ => none }
def histOthersRow : OpenClaim := { program := "ytjbingoliffjiaagreat", sum := "f02b067c09ec94ec1667f424dcf44d2d4b351aacd670314fb2d3c5bdba2b9e7d", func := "hygrometer/hyglaw13.HistOthers", spec := "histOthers", inPlace := ["internal/abi.NoEscape", "internal/bytealg.MakeNoZero"], unfollowed := true, recurses := true, apart := false }
def HistOthersSaid : Prop := histOthersRow.holds Tryz.pinned (OpenSpec.ofChange histOthersSpec)

/-- ITS FALSE NEIGHBOUR: 'it returns false'. Refute it at one input. -/
def histOthersWrong : ChangeSpec := { name := "histOthers", fn := fun _ => fun
  | [d1, d2, d3, d4] => { results := [.lit (.bool false)], args := [d1, d2, d3, d4] }
  | _ => none }
def HistOthersWrongFalsely : Prop := histOthersRow.holds Tryz.pinned (OpenSpec.ofChange histOthersWrong)

/- THE SECOND FORM. 'bulk': how many values and letters a reading holds, each counted each time it is reached (what is shared counts as often as it is met; a slice's spare places count too). A statement '..UptoSaid' is the law's where the arguments, and the package variables that the reading takes, are together of bulk at most 1048576: NARROWER than '..Said'. Prove '..Said' where nothing that the law and all that it calls make is longer than what came in: it says more and counts as full. Else prove '..UptoSaid'. A law counts once. -/
mutual
def uptoBulk {H : Type} : DataW H → Nat
  | .lit (.string bytes) => bytes.length + 1
  | .lit _ => 1
  | .nil => 1
  | .ptr d => uptoBulk d + 1
  | .slice elems spare => uptoBulkAll elems + uptoBulkAll spare + 1
  | .agg parts => uptoBulkAll parts + 1
  | .iface _ d => uptoBulk d + 1
  | .map entries => uptoBulkEntries entries + 1
  | .held _ => 1
def uptoBulkAll {H : Type} : List (DataW H) → Nat
  | [] => 0
  | d :: r => uptoBulk d + uptoBulkAll r
def uptoBulkEntries {H : Type} : List (Lit × DataW H) → Nat
  | [] => 0
  | x :: r => uptoBulkEntry x + uptoBulkEntries r
def uptoBulkEntry {H : Type} : Lit × DataW H → Nat
  | (.string bytes, d) => bytes.length + uptoBulk d + 1
  | (_, d) => uptoBulk d + 1
 end
def uptoSmall : (H : Type) → List (DataW H) → Bool := fun _ ds => decide (uptoBulkAll ds ≤ 1048576)
def OpenSpec.upto (s : _root_.Go.ChangeSpec) : _root_.Go.OpenSpec := { _root_.Go.OpenSpec.ofChange s with cond := some uptoSmall }

/-- 'hyglaw13.HistSame', WHERE WHAT IT READS IS OF BULK AT MOST 1048576: true; the input reads as it did. -/
def histSameUptoRow : OpenClaim := { program := "ytjbingoliffjiaagreat", sum := "f02b067c09ec94ec1667f424dcf44d2d4b351aacd670314fb2d3c5bdba2b9e7d", func := "hygrometer/hyglaw13.HistSame", spec := "histSame", inPlace := ["internal/abi.NoEscape", "internal/bytealg.MakeNoZero"], unfollowed := true, recurses := true, loops := true, apart := false, narrowed := true }
def HistSameUptoSaid : Prop := histSameUptoRow.holds Tryz.pinned (OpenSpec.upto histSameSpec)

/-- 'hyglaw13.HistBack', WHERE WHAT IT READS IS OF BULK AT MOST 1048576: true; the input reads as it did. -/
def histBackUptoRow : OpenClaim := { program := "ytjbingoliffjiaagreat", sum := "f02b067c09ec94ec1667f424dcf44d2d4b351aacd670314fb2d3c5bdba2b9e7d", func := "hygrometer/hyglaw13.HistBack", spec := "histBack", inPlace := ["internal/abi.NoEscape", "internal/bytealg.MakeNoZero"], unfollowed := true, recurses := true, loops := true, apart := false, narrowed := true }
def HistBackUptoSaid : Prop := histBackUptoRow.holds Tryz.pinned (OpenSpec.upto histBackSpec)

/-- 'hyglaw13.HistTwice', WHERE WHAT IT READS IS OF BULK AT MOST 1048576: true; the input reads as it did. -/
def histTwiceUptoRow : OpenClaim := { program := "ytjbingoliffjiaagreat", sum := "f02b067c09ec94ec1667f424dcf44d2d4b351aacd670314fb2d3c5bdba2b9e7d", func := "hygrometer/hyglaw13.HistTwice", spec := "histTwice", inPlace := ["internal/abi.NoEscape", "internal/bytealg.MakeNoZero"], unfollowed := true, recurses := true, apart := false, narrowed := true }
def HistTwiceUptoSaid : Prop := histTwiceUptoRow.holds Tryz.pinned (OpenSpec.upto histTwiceSpec)

/-- 'hyglaw13.HistOthers', WHERE WHAT IT READS IS OF BULK AT MOST 1048576: true; the input reads as it did. -/
def histOthersUptoRow : OpenClaim := { program := "ytjbingoliffjiaagreat", sum := "f02b067c09ec94ec1667f424dcf44d2d4b351aacd670314fb2d3c5bdba2b9e7d", func := "hygrometer/hyglaw13.HistOthers", spec := "histOthers", inPlace := ["internal/abi.NoEscape", "internal/bytealg.MakeNoZero"], unfollowed := true, recurses := true, apart := false, narrowed := true }
def HistOthersUptoSaid : Prop := histOthersUptoRow.holds Tryz.pinned (OpenSpec.upto histOthersSpec)

end Rows
end Go.Proofs.YtjbingoliffjiaaGreat
