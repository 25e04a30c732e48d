/-
  No cell of these rows narrows 'for every input' (looked for: loops, veiled, ifaces, maps, wideKeys, modest, calm, conditions, laid).
  DERIVED. THE GIVEN ROWS OF THIS SEAT. 6 by the template 'for every input the law returns true; each argument reads behind the call as it read before'; 0 by the template 'total and deterministic' (their statements: YtkpljnfakidjeabTotals.lean).
  GIVEN WITH THE SEED: the statements are not yours to turn. If you find one false, say at which input.
  Laid BY PROGRAM, IN A SANDBOX (cutbox-rows.mjs): the forced cells as the released guide's own fill.sh prints them over the translation 98728d22f8dc5b00… (all of the seat's roots in one cut). By AI agents, Wed Nov 11 2026. No macro, syntax, notation, axiom, sorry.
-/
import Derived.Test.YtkpljnfakidjeabChecked
import GoSem.Claim
import GoSem.ClaimJoined
import GoSem.ClaimMapViews
import Derived.JoinedTies
import Derived.KernelRfl
namespace Go.Proofs.Ytkpljnfakidjeab
/- THE CELL 'sum', in the pinned program and in every row, IS THE sha256 OF THE DUMP (.gsa) THAT YtkpljnfakidjeabProg.lean LOADS. Nothing in Lean hashes anything: it is a label: what it is worth is what the hold of that sum in a sandbox is worth. -/
noncomputable def Try.pinned : Pinned := { name := "ytkpljnfakidjeab", sum := "98728d22f8dc5b0056f8e4b3431cf91878a97c4f00c227e57c18131b64e8621d", checked := Try.checked }
namespace Rows
def none {H : Type} : Left H := { results := [], args := [] }

/-- 'hyglaw21.XorBack': WHATEVER THE INPUT: true; the input reads as it did. -/
def xorBackSpec : ChangeSpec := { name := "xorBack", fn := fun _ => fun
  | [d1, d2, d3] => { results := [.lit (.bool true)], args := [d1, d2, d3] }
  | _ => none }
def xorBackRow : OpenClaim := { program := "ytkpljnfakidjeab", sum := "98728d22f8dc5b0056f8e4b3431cf91878a97c4f00c227e57c18131b64e8621d", func := "hygrometer/hyglaw21.XorBack", spec := "xorBack", apart := false }
def XorBackSaid : Prop := xorBackRow.holds Try.pinned (OpenSpec.ofChange xorBackSpec)

/-- ITS FALSE NEIGHBOUR: 'it returns false'. Refute it at one input. -/
def xorBackWrong : ChangeSpec := { name := "xorBack", fn := fun _ => fun
  | [d1, d2, d3] => { results := [.lit (.bool false)], args := [d1, d2, d3] }
  | _ => none }
def XorBackWrongFalsely : Prop := xorBackRow.holds Try.pinned (OpenSpec.ofChange xorBackWrong)

/-- 'hyglaw21.XorOne': WHATEVER THE INPUT: true; the input reads as it did. -/
def xorOneSpec : ChangeSpec := { name := "xorOne", fn := fun _ => fun
  | [d1, d2] => { results := [.lit (.bool true)], args := [d1, d2] }
  | _ => none }
def xorOneRow : OpenClaim := { program := "ytkpljnfakidjeab", sum := "98728d22f8dc5b0056f8e4b3431cf91878a97c4f00c227e57c18131b64e8621d", func := "hygrometer/hyglaw21.XorOne", spec := "xorOne", apart := false }
def XorOneSaid : Prop := xorOneRow.holds Try.pinned (OpenSpec.ofChange xorOneSpec)

/-- ITS FALSE NEIGHBOUR: 'it returns false'. Refute it at one input. -/
def xorOneWrong : ChangeSpec := { name := "xorOne", fn := fun _ => fun
  | [d1, d2] => { results := [.lit (.bool false)], args := [d1, d2] }
  | _ => none }
def XorOneWrongFalsely : Prop := xorOneRow.holds Try.pinned (OpenSpec.ofChange xorOneWrong)

/-- 'hyglaw22.RunsBack': WHATEVER THE INPUT: true; the input reads as it did. -/
def runsBackSpec : ChangeSpec := { name := "runsBack", fn := fun _ => fun
  | [d1, d2, d3] => { results := [.lit (.bool true)], args := [d1, d2, d3] }
  | _ => none }
def runsBackRow : OpenClaim := { program := "ytkpljnfakidjeab", sum := "98728d22f8dc5b0056f8e4b3431cf91878a97c4f00c227e57c18131b64e8621d", func := "hygrometer/hyglaw22.RunsBack", spec := "runsBack", inPlace := ["internal/abi.NoEscape"], apart := false }
def RunsBackSaid : Prop := runsBackRow.holds Try.pinned (OpenSpec.ofChange runsBackSpec)

/-- ITS FALSE NEIGHBOUR: 'it returns false'. Refute it at one input. -/
def runsBackWrong : ChangeSpec := { name := "runsBack", fn := fun _ => fun
  | [d1, d2, d3] => { results := [.lit (.bool false)], args := [d1, d2, d3] }
  | _ => none }
def RunsBackWrongFalsely : Prop := runsBackRow.holds Try.pinned (OpenSpec.ofChange runsBackWrong)

/-- 'hyglaw22.RunsOne': WHATEVER THE INPUT: true; the input reads as it did. -/
def runsOneSpec : ChangeSpec := { name := "runsOne", fn := fun _ => fun
  | [d1, d2] => { results := [.lit (.bool true)], args := [d1, d2] }
  | _ => none }
def runsOneRow : OpenClaim := { program := "ytkpljnfakidjeab", sum := "98728d22f8dc5b0056f8e4b3431cf91878a97c4f00c227e57c18131b64e8621d", func := "hygrometer/hyglaw22.RunsOne", spec := "runsOne", inPlace := ["internal/abi.NoEscape"], apart := false }
def RunsOneSaid : Prop := runsOneRow.holds Try.pinned (OpenSpec.ofChange runsOneSpec)

/-- ITS FALSE NEIGHBOUR: 'it returns false'. Refute it at one input. -/
def runsOneWrong : ChangeSpec := { name := "runsOne", fn := fun _ => fun
  | [d1, d2] => { results := [.lit (.bool false)], args := [d1, d2] }
  | _ => none }
def RunsOneWrongFalsely : Prop := runsOneRow.holds Try.pinned (OpenSpec.ofChange runsOneWrong)

/-- 'hyglaw22.RunsDeltas': WHATEVER THE INPUT: true; the input reads as it did. -/
def runsDeltasSpec : ChangeSpec := { name := "runsDeltas", fn := fun _ => fun
  | [d] => { results := [.lit (.bool true)], args := [d] }
  | _ => none }
def runsDeltasRow : OpenClaim := { program := "ytkpljnfakidjeab", sum := "98728d22f8dc5b0056f8e4b3431cf91878a97c4f00c227e57c18131b64e8621d", func := "hygrometer/hyglaw22.RunsDeltas", spec := "runsDeltas", inPlace := ["internal/abi.NoEscape"], apart := false }
def RunsDeltasSaid : Prop := runsDeltasRow.holds Try.pinned (OpenSpec.ofChange runsDeltasSpec)

/-- ITS FALSE NEIGHBOUR: 'it returns false'. Refute it at one input. -/
def runsDeltasWrong : ChangeSpec := { name := "runsDeltas", fn := fun _ => fun
  | [d] => { results := [.lit (.bool false)], args := [d] }
  | _ => none }
def RunsDeltasWrongFalsely : Prop := runsDeltasRow.holds Try.pinned (OpenSpec.ofChange runsDeltasWrong)

/-- 'hyglaw23.DictReads': WHATEVER THE INPUT: true; the input reads as it did. -/
def dictReadsSpec : ChangeSpec := { name := "dictReads", fn := fun _ => fun
  | [d] => { results := [.lit (.bool true)], args := [d] }
  | _ => none }
def dictReadsRow : OpenClaim := { program := "ytkpljnfakidjeab", sum := "98728d22f8dc5b0056f8e4b3431cf91878a97c4f00c227e57c18131b64e8621d", func := "hygrometer/hyglaw23.DictReads", spec := "dictReads", inPlace := ["internal/abi.NoEscape"], apart := false }
def DictReadsSaid : Prop := dictReadsRow.holds Try.pinned (OpenSpec.ofChange dictReadsSpec)

/-- ITS FALSE NEIGHBOUR: 'it returns false'. Refute it at one input. -/
def dictReadsWrong : ChangeSpec := { name := "dictReads", fn := fun _ => fun
  | [d] => { results := [.lit (.bool false)], args := [d] }
  | _ => none }
def DictReadsWrongFalsely : Prop := dictReadsRow.holds Try.pinned (OpenSpec.ofChange dictReadsWrong)

/- THE SECOND FORM. 'bulk': how many values and letters a reading holds, each counted each time it is reached (what is shared counts as often as it is met; a slice's spare places count too). A statement '..UptoSaid' is the law's where the arguments, and the package variables that the reading takes, are together of bulk at most 1048576: NARROWER than '..Said'. Prove '..Said' where nothing that the law and all that it calls make is longer than what came in: it says more and counts as full. Else prove '..UptoSaid'. A law counts once. -/
mutual
def uptoBulk {H : Type} : DataW H → Nat
  | .lit (.string bytes) => bytes.length + 1
  | .lit _ => 1
  | .nil => 1
  | .ptr d => uptoBulk d + 1
  | .slice elems spare => uptoBulkAll elems + uptoBulkAll spare + 1
  | .agg parts => uptoBulkAll parts + 1
  | .iface _ d => uptoBulk d + 1
  | .map entries => uptoBulkEntries entries + 1
  | .held _ => 1
def uptoBulkAll {H : Type} : List (DataW H) → Nat
  | [] => 0
  | d :: r => uptoBulk d + uptoBulkAll r
def uptoBulkEntries {H : Type} : List (Lit × DataW H) → Nat
  | [] => 0
  | x :: r => uptoBulkEntry x + uptoBulkEntries r
def uptoBulkEntry {H : Type} : Lit × DataW H → Nat
  | (.string bytes, d) => bytes.length + uptoBulk d + 1
  | (_, d) => uptoBulk d + 1
 end
def uptoSmall : (H : Type) → List (DataW H) → Bool := fun _ ds => decide (uptoBulkAll ds ≤ 1048576)
def OpenSpec.upto (s : _root_.Go.ChangeSpec) : _root_.Go.OpenSpec := { _root_.Go.OpenSpec.ofChange s with cond := some uptoSmall }

/-- 'hyglaw21.XorBack', WHERE WHAT IT READS IS OF BULK AT MOST 1048576: true; the input reads as it did. -/
def xorBackUptoRow : OpenClaim := { program := "ytkpljnfakidjeab", sum := "98728d22f8dc5b0056f8e4b3431cf91878a97c4f00c227e57c18131b64e8621d", func := "hygrometer/hyglaw21.XorBack", spec := "xorBack", apart := false, narrowed := true }
def XorBackUptoSaid : Prop := xorBackUptoRow.holds Try.pinned (OpenSpec.upto xorBackSpec)

/-- 'hyglaw21.XorOne', WHERE WHAT IT READS IS OF BULK AT MOST 1048576: true; the input reads as it did. -/
def xorOneUptoRow : OpenClaim := { program := "ytkpljnfakidjeab", sum := "98728d22f8dc5b0056f8e4b3431cf91878a97c4f00c227e57c18131b64e8621d", func := "hygrometer/hyglaw21.XorOne", spec := "xorOne", apart := false, narrowed := true }
def XorOneUptoSaid : Prop := xorOneUptoRow.holds Try.pinned (OpenSpec.upto xorOneSpec)

/-- 'hyglaw22.RunsBack', WHERE WHAT IT READS IS OF BULK AT MOST 1048576: true; the input reads as it did. -/
def runsBackUptoRow : OpenClaim := { program := "ytkpljnfakidjeab", sum := "98728d22f8dc5b0056f8e4b3431cf91878a97c4f00c227e57c18131b64e8621d", func := "hygrometer/hyglaw22.RunsBack", spec := "runsBack", inPlace := ["internal/abi.NoEscape"], apart := false, narrowed := true }
def RunsBackUptoSaid : Prop := runsBackUptoRow.holds Try.pinned (OpenSpec.upto runsBackSpec)

/-- 'hyglaw22.RunsOne', WHERE WHAT IT READS IS OF BULK AT MOST 1048576: true; the input reads as it did. -/
def runsOneUptoRow : OpenClaim := { program := "ytkpljnfakidjeab", sum := "98728d22f8dc5b0056f8e4b3431cf91878a97c4f00c227e57c18131b64e8621d", func := "hygrometer/hyglaw22.RunsOne", spec := "runsOne", inPlace := ["internal/abi.NoEscape"], apart := false, narrowed := true }
def RunsOneUptoSaid : Prop := runsOneUptoRow.holds Try.pinned (OpenSpec.upto runsOneSpec)

/-- 'hyglaw22.RunsDeltas', WHERE WHAT IT READS IS OF BULK AT MOST 1048576: true; the input reads as it did. -/
def runsDeltasUptoRow : OpenClaim := { program := "ytkpljnfakidjeab", sum := "98728d22f8dc5b0056f8e4b3431cf91878a97c4f00c227e57c18131b64e8621d", func := "hygrometer/hyglaw22.RunsDeltas", spec := "runsDeltas", inPlace := ["internal/abi.NoEscape"], apart := false, narrowed := true }
def RunsDeltasUptoSaid : Prop := runsDeltasUptoRow.holds Try.pinned (OpenSpec.upto runsDeltasSpec)

/-- 'hyglaw23.DictReads', WHERE WHAT IT READS IS OF BULK AT MOST 1048576: true; the input reads as it did. -/
def dictReadsUptoRow : OpenClaim := { program := "ytkpljnfakidjeab", sum := "98728d22f8dc5b0056f8e4b3431cf91878a97c4f00c227e57c18131b64e8621d", func := "hygrometer/hyglaw23.DictReads", spec := "dictReads", inPlace := ["internal/abi.NoEscape"], apart := false, narrowed := true }
def DictReadsUptoSaid : Prop := dictReadsUptoRow.holds Try.pinned (OpenSpec.upto dictReadsSpec)

end Rows
end Go.Proofs.Ytkpljnfakidjeab
