/-
  No cell of these rows narrows 'for every input' (looked for: loops, veiled, ifaces, maps, wideKeys, modest, calm, conditions, laid).
  DERIVED. THE GIVEN ROWS OF THIS SEAT. 5 by the template 'for every input the law returns true; each argument reads behind the call as it read before'; 0 by the template 'total and deterministic' (their statements: YtdokbooggbiciaaTotals.lean).
  GIVEN WITH THE SEED: the statements are not yours to turn. If you find one false, say at which input.
  Laid BY PROGRAM, IN A SANDBOX (cutbox-rows.mjs): the forced cells as the released guide's own fill.sh prints them over the translation 69299e4ae4fbe495… (all of the seat's roots in one cut). By AI agents, Wed Nov 11 2026. No macro, syntax, notation, axiom, sorry.
-/
import Derived.Test.YtdokbooggbiciaaChecked
import GoSem.Claim
import GoSem.ClaimJoined
import GoSem.ClaimMapViews
import Derived.JoinedTies
import Derived.KernelRfl
namespace Go.Proofs.Ytdokbooggbiciaa
/- THE CELL 'sum', in the pinned program and in every row, IS THE sha256 OF THE DUMP (.gsa) THAT YtdokbooggbiciaaProg.lean LOADS. Nothing in Lean hashes anything: it is a label: what it is worth is what the hold of that sum in a sandbox is worth. -/
noncomputable def Try.pinned : Pinned := { name := "ytdokbooggbiciaa", sum := "69299e4ae4fbe4955607783299beacfc081619cfec8270292d3d7c56c3e89308", checked := Try.checked }
namespace Rows
def none {H : Type} : Left H := { results := [], args := [] }

/-- 'hyglaw14.BucketsSame': WHATEVER THE INPUT: true; the input reads as it did. -/
def bucketsSameSpec : ChangeSpec := { name := "bucketsSame", fn := fun _ => fun
  | [d1, d2] => { results := [.lit (.bool true)], args := [d1, d2] }
  | _ => none }
def bucketsSameRow : OpenClaim := { program := "ytdokbooggbiciaa", sum := "69299e4ae4fbe4955607783299beacfc081619cfec8270292d3d7c56c3e89308", func := "hygrometer/hyglaw14.BucketsSame", spec := "bucketsSame", inPlace := ["internal/abi.NoEscape", "internal/bytealg.MakeNoZero"], unfollowed := true, recurses := true, apart := false }
def BucketsSameSaid : Prop := bucketsSameRow.holds Try.pinned (OpenSpec.ofChange bucketsSameSpec)

/-- ITS FALSE NEIGHBOUR: 'it returns false'. Refute it at one input. -/
def bucketsSameWrong : ChangeSpec := { name := "bucketsSame", fn := fun _ => fun
  | [d1, d2] => { results := [.lit (.bool false)], args := [d1, d2] }
  | _ => none }
def BucketsSameWrongFalsely : Prop := bucketsSameRow.holds Try.pinned (OpenSpec.ofChange bucketsSameWrong)

/-- 'hyglaw14.BucketsBack': WHATEVER THE INPUT: true; the input reads as it did. -/
def bucketsBackSpec : ChangeSpec := { name := "bucketsBack", fn := fun _ => fun
  | [d1, d2, d3] => { results := [.lit (.bool true)], args := [d1, d2, d3] }
  | _ => none }
def bucketsBackRow : OpenClaim := { program := "ytdokbooggbiciaa", sum := "69299e4ae4fbe4955607783299beacfc081619cfec8270292d3d7c56c3e89308", func := "hygrometer/hyglaw14.BucketsBack", spec := "bucketsBack", inPlace := ["internal/abi.NoEscape", "internal/bytealg.MakeNoZero"], unfollowed := true, recurses := true, apart := false }
def BucketsBackSaid : Prop := bucketsBackRow.holds Try.pinned (OpenSpec.ofChange bucketsBackSpec)

/-- ITS FALSE NEIGHBOUR: 'it returns false'. Refute it at one input. -/
def bucketsBackWrong : ChangeSpec := { name := "bucketsBack", fn := fun _ => fun
  | [d1, d2, d3] => { results := [.lit (.bool false)], args := [d1, d2, d3] }
  | _ => none }
def BucketsBackWrongFalsely : Prop := bucketsBackRow.holds Try.pinned (OpenSpec.ofChange bucketsBackWrong)

/-- 'hyglaw14.BucketsTwice': WHATEVER THE INPUT: true; the input reads as it did. -/
def bucketsTwiceSpec : ChangeSpec := { name := "bucketsTwice", fn := fun _ => fun
  | [d1, d2] => { results := [.lit (.bool true)], args := [d1, d2] }
  | _ => none }
def bucketsTwiceRow : OpenClaim := { program := "ytdokbooggbiciaa", sum := "69299e4ae4fbe4955607783299beacfc081619cfec8270292d3d7c56c3e89308", func := "hygrometer/hyglaw14.BucketsTwice", spec := "bucketsTwice", inPlace := ["internal/abi.NoEscape", "internal/bytealg.MakeNoZero"], unfollowed := true, recurses := true, apart := false }
def BucketsTwiceSaid : Prop := bucketsTwiceRow.holds Try.pinned (OpenSpec.ofChange bucketsTwiceSpec)

/-- ITS FALSE NEIGHBOUR: 'it returns false'. Refute it at one input. -/
def bucketsTwiceWrong : ChangeSpec := { name := "bucketsTwice", fn := fun _ => fun
  | [d1, d2] => { results := [.lit (.bool false)], args := [d1, d2] }
  | _ => none }
def BucketsTwiceWrongFalsely : Prop := bucketsTwiceRow.holds Try.pinned (OpenSpec.ofChange bucketsTwiceWrong)

/-- 'hyglaw14.BucketsJoins': WHATEVER THE INPUT: true; the input reads as it did. -/
def bucketsJoinsSpec : ChangeSpec := { name := "bucketsJoins", fn := fun _ => fun
  | [d1, d2, d3] => { results := [.lit (.bool true)], args := [d1, d2, d3] }
  | _ => none }
def bucketsJoinsRow : OpenClaim := { program := "ytdokbooggbiciaa", sum := "69299e4ae4fbe4955607783299beacfc081619cfec8270292d3d7c56c3e89308", func := "hygrometer/hyglaw14.BucketsJoins", spec := "bucketsJoins", inPlace := ["internal/abi.NoEscape", "internal/bytealg.MakeNoZero"], unfollowed := true, recurses := true, apart := false }
def BucketsJoinsSaid : Prop := bucketsJoinsRow.holds Try.pinned (OpenSpec.ofChange bucketsJoinsSpec)

/-- ITS FALSE NEIGHBOUR: 'it returns false'. Refute it at one input. -/
def bucketsJoinsWrong : ChangeSpec := { name := "bucketsJoins", fn := fun _ => fun
  | [d1, d2, d3] => { results := [.lit (.bool false)], args := [d1, d2, d3] }
  | _ => none }
def BucketsJoinsWrongFalsely : Prop := bucketsJoinsRow.holds Try.pinned (OpenSpec.ofChange bucketsJoinsWrong)

/-- 'hyglaw14.BucketsOthers': WHATEVER THE INPUT: true; the input reads as it did. -/
def bucketsOthersSpec : ChangeSpec := { name := "bucketsOthers", fn := fun _ => fun
  | [d1, d2, d3, d4] => { results := [.lit (.bool true)], args := [d1, d2, d3, d4] }
  | _ => none }
def bucketsOthersRow : OpenClaim := { program := "ytdokbooggbiciaa", sum := "69299e4ae4fbe4955607783299beacfc081619cfec8270292d3d7c56c3e89308", func := "hygrometer/hyglaw14.BucketsOthers", spec := "bucketsOthers", inPlace := ["internal/abi.NoEscape", "internal/bytealg.MakeNoZero"], unfollowed := true, recurses := true, apart := false }
def BucketsOthersSaid : Prop := bucketsOthersRow.holds Try.pinned (OpenSpec.ofChange bucketsOthersSpec)

/-- ITS FALSE NEIGHBOUR: 'it returns false'. Refute it at one input. -/
def bucketsOthersWrong : ChangeSpec := { name := "bucketsOthers", fn := fun _ => fun
  | [d1, d2, d3, d4] => { results := [.lit (.bool false)], args := [d1, d2, d3, d4] }
  | _ => none }
def BucketsOthersWrongFalsely : Prop := bucketsOthersRow.holds Try.pinned (OpenSpec.ofChange bucketsOthersWrong)

/- THE SECOND FORM. 'bulk': how many values and letters a reading holds, each counted each time it is reached (what is shared counts as often as it is met; a slice's spare places count too). A statement '..UptoSaid' is the law's where the arguments, and the package variables that the reading takes, are together of bulk at most 1048576: NARROWER than '..Said'. Prove '..Said' where nothing that the law and all that it calls make is longer than what came in: it says more and counts as full. Else prove '..UptoSaid'. A law counts once. -/
mutual
def uptoBulk {H : Type} : DataW H → Nat
  | .lit (.string bytes) => bytes.length + 1
  | .lit _ => 1
  | .nil => 1
  | .ptr d => uptoBulk d + 1
  | .slice elems spare => uptoBulkAll elems + uptoBulkAll spare + 1
  | .agg parts => uptoBulkAll parts + 1
  | .iface _ d => uptoBulk d + 1
  | .map entries => uptoBulkEntries entries + 1
  | .held _ => 1
def uptoBulkAll {H : Type} : List (DataW H) → Nat
  | [] => 0
  | d :: r => uptoBulk d + uptoBulkAll r
def uptoBulkEntries {H : Type} : List (Lit × DataW H) → Nat
  | [] => 0
  | x :: r => uptoBulkEntry x + uptoBulkEntries r
def uptoBulkEntry {H : Type} : Lit × DataW H → Nat
  | (.string bytes, d) => bytes.length + uptoBulk d + 1
  | (_, d) => uptoBulk d + 1
 end
def uptoSmall : (H : Type) → List (DataW H) → Bool := fun _ ds => decide (uptoBulkAll ds ≤ 1048576)
def OpenSpec.upto (s : _root_.Go.ChangeSpec) : _root_.Go.OpenSpec := { _root_.Go.OpenSpec.ofChange s with cond := some uptoSmall }

/-- 'hyglaw14.BucketsSame', WHERE WHAT IT READS IS OF BULK AT MOST 1048576: true; the input reads as it did. -/
def bucketsSameUptoRow : OpenClaim := { program := "ytdokbooggbiciaa", sum := "69299e4ae4fbe4955607783299beacfc081619cfec8270292d3d7c56c3e89308", func := "hygrometer/hyglaw14.BucketsSame", spec := "bucketsSame", inPlace := ["internal/abi.NoEscape", "internal/bytealg.MakeNoZero"], unfollowed := true, recurses := true, apart := false, narrowed := true }
def BucketsSameUptoSaid : Prop := bucketsSameUptoRow.holds Try.pinned (OpenSpec.upto bucketsSameSpec)

/-- 'hyglaw14.BucketsBack', WHERE WHAT IT READS IS OF BULK AT MOST 1048576: true; the input reads as it did. -/
def bucketsBackUptoRow : OpenClaim := { program := "ytdokbooggbiciaa", sum := "69299e4ae4fbe4955607783299beacfc081619cfec8270292d3d7c56c3e89308", func := "hygrometer/hyglaw14.BucketsBack", spec := "bucketsBack", inPlace := ["internal/abi.NoEscape", "internal/bytealg.MakeNoZero"], unfollowed := true, recurses := true, apart := false, narrowed := true }
def BucketsBackUptoSaid : Prop := bucketsBackUptoRow.holds Try.pinned (OpenSpec.upto bucketsBackSpec)

/-- 'hyglaw14.BucketsTwice', WHERE WHAT IT READS IS OF BULK AT MOST 1048576: true; the input reads as it did. -/
def bucketsTwiceUptoRow : OpenClaim := { program := "ytdokbooggbiciaa", sum := "69299e4ae4fbe4955607783299beacfc081619cfec8270292d3d7c56c3e89308", func := "hygrometer/hyglaw14.BucketsTwice", spec := "bucketsTwice", inPlace := ["internal/abi.NoEscape", "internal/bytealg.MakeNoZero"], unfollowed := true, recurses := true, apart := false, narrowed := true }
def BucketsTwiceUptoSaid : Prop := bucketsTwiceUptoRow.holds Try.pinned (OpenSpec.upto bucketsTwiceSpec)

/-- 'hyglaw14.BucketsJoins', WHERE WHAT IT READS IS OF BULK AT MOST 1048576: true; the input reads as it did. -/
def bucketsJoinsUptoRow : OpenClaim := { program := "ytdokbooggbiciaa", sum := "69299e4ae4fbe4955607783299beacfc081619cfec8270292d3d7c56c3e89308", func := "hygrometer/hyglaw14.BucketsJoins", spec := "bucketsJoins", inPlace := ["internal/abi.NoEscape", "internal/bytealg.MakeNoZero"], unfollowed := true, recurses := true, apart := false, narrowed := true }
def BucketsJoinsUptoSaid : Prop := bucketsJoinsUptoRow.holds Try.pinned (OpenSpec.upto bucketsJoinsSpec)

/-- 'hyglaw14.BucketsOthers', WHERE WHAT IT READS IS OF BULK AT MOST 1048576: true; the input reads as it did. -/
def bucketsOthersUptoRow : OpenClaim := { program := "ytdokbooggbiciaa", sum := "69299e4ae4fbe4955607783299beacfc081619cfec8270292d3d7c56c3e89308", func := "hygrometer/hyglaw14.BucketsOthers", spec := "bucketsOthers", inPlace := ["internal/abi.NoEscape", "internal/bytealg.MakeNoZero"], unfollowed := true, recurses := true, apart := false, narrowed := true }
def BucketsOthersUptoSaid : Prop := bucketsOthersUptoRow.holds Try.pinned (OpenSpec.upto bucketsOthersSpec)

end Rows
end Go.Proofs.Ytdokbooggbiciaa
