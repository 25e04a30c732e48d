/-
  DERIVED. GIVEN WITH THE SEED: THE CARDS: each row of YtlbfeknmbgjknaaDoorRows.lean that lists a variable, with what it lists TIED to the program's text (the seventh form; the later family's looks); each row that meets fmt, with fmt's text TOLD by the authors' own Lean function (tested against real Go, not proved from fmt's source: count such statements apart). THE CARD IS WHAT COUNTS. Prove the row's statement (the work); the ties are given (YtlbfeknmbgjknaaDoorTie.lean); close each card by the builder's one call (the guide's Derived/Test/ToyasCard.lean, 'card_holds'). Laid BY PROGRAM, IN A SANDBOX (cutbox-door.mjs). By AI agents, Wed Nov 11 2026. No macro, syntax, notation, axiom, sorry.
-/
import Derived.Test.YtlbfeknmbgjknaaDoorRows
import GoSem.ClaimSeven
namespace Go.Proofs.YtlbfeknmbgjknaaDoor
namespace Rows

/-- THE TIED CARD OF 'hyglaw1.BlameMade'. -/
def blameMadeCard : Claim7 := { stood := { row := blameMadeRow, standIns := [], harness := (true, "a256178be12812b9d88a74397fe6fcaff7db223328fb093143b22577eca55d3f"), looks := true }, kinds := [], alts := [], laidByText := true, laidKinds := [.handle], laidTests := true, laidLooks := .later }
def BlameMadeCardSaid : Prop := Claim7.holds Tryd.pinned (.plain (OpenSpec.ofChange blameMadeSpec)) blameMadeCard

/-- THE TIED CARD OF 'hyglaw1.BlameFound'. -/
def blameFoundCard : Claim7 := { stood := { row := blameFoundRow, standIns := [], harness := (true, "a256178be12812b9d88a74397fe6fcaff7db223328fb093143b22577eca55d3f"), looks := true }, kinds := [], alts := [], laidByText := true, laidKinds := [.handle], laidTests := true, laidLooks := .later }
def BlameFoundCardSaid : Prop := Claim7.holds Tryd.pinned (.plain (OpenSpec.ofChange blameFoundSpec)) blameFoundCard

/-- THE TIED CARD OF 'hyglaw1.BlameOther'. -/
def blameOtherCard : Claim7 := { stood := { row := blameOtherRow, standIns := [], harness := (true, "a256178be12812b9d88a74397fe6fcaff7db223328fb093143b22577eca55d3f"), looks := true }, kinds := [], alts := [], laidByText := true, laidKinds := [.handle], laidTests := true, laidLooks := .later }
def BlameOtherCardSaid : Prop := Claim7.holds Tryd.pinned (.plain (OpenSpec.ofChange blameOtherSpec)) blameOtherCard

/-- THE TIED CARD OF 'hyglaw2.VarintGets'. -/
def varintGetsCard : Claim7 := { stood := { row := varintGetsRow, standIns := [], harness := (true, "a256178be12812b9d88a74397fe6fcaff7db223328fb093143b22577eca55d3f"), looks := true }, kinds := [], alts := [], laidByText := true, laidKinds := [.handle], laidTests := true, laidLooks := .later }
def VarintGetsCardSaid : Prop := Claim7.holds Tryd.pinned (.plain (OpenSpec.ofChange varintGetsSpec)) varintGetsCard

/-- THE TIED CARD OF 'hyglaw2.VarintLong'. -/
def varintLongCard : Claim7 := { stood := { row := varintLongRow, standIns := [], harness := (true, "a256178be12812b9d88a74397fe6fcaff7db223328fb093143b22577eca55d3f"), looks := true }, kinds := [], alts := [], laidByText := true, laidKinds := [.handle], laidTests := true, laidLooks := .later }
def VarintLongCardSaid : Prop := Claim7.holds Tryd.pinned (.plain (OpenSpec.ofChange varintLongSpec)) varintLongCard

/-- THE SECOND FORM's CARD OF 'hyglaw1.BlameMade'. -/
def blameMadeUptoCard : Claim7 := { stood := { row := blameMadeUptoRow, standIns := [], harness := (true, "a256178be12812b9d88a74397fe6fcaff7db223328fb093143b22577eca55d3f"), looks := true }, kinds := [], alts := [], laidByText := true, laidKinds := [.handle], laidTests := true, laidLooks := .later }
def BlameMadeUptoCardSaid : Prop := Claim7.holds Tryd.pinned (.plain (OpenSpec.upto blameMadeSpec)) blameMadeUptoCard

/-- THE SECOND FORM's CARD OF 'hyglaw1.BlameFound'. -/
def blameFoundUptoCard : Claim7 := { stood := { row := blameFoundUptoRow, standIns := [], harness := (true, "a256178be12812b9d88a74397fe6fcaff7db223328fb093143b22577eca55d3f"), looks := true }, kinds := [], alts := [], laidByText := true, laidKinds := [.handle], laidTests := true, laidLooks := .later }
def BlameFoundUptoCardSaid : Prop := Claim7.holds Tryd.pinned (.plain (OpenSpec.upto blameFoundSpec)) blameFoundUptoCard

/-- THE SECOND FORM's CARD OF 'hyglaw1.BlameOther'. -/
def blameOtherUptoCard : Claim7 := { stood := { row := blameOtherUptoRow, standIns := [], harness := (true, "a256178be12812b9d88a74397fe6fcaff7db223328fb093143b22577eca55d3f"), looks := true }, kinds := [], alts := [], laidByText := true, laidKinds := [.handle], laidTests := true, laidLooks := .later }
def BlameOtherUptoCardSaid : Prop := Claim7.holds Tryd.pinned (.plain (OpenSpec.upto blameOtherSpec)) blameOtherUptoCard

/-- THE SECOND FORM's CARD OF 'hyglaw2.VarintGets'. -/
def varintGetsUptoCard : Claim7 := { stood := { row := varintGetsUptoRow, standIns := [], harness := (true, "a256178be12812b9d88a74397fe6fcaff7db223328fb093143b22577eca55d3f"), looks := true }, kinds := [], alts := [], laidByText := true, laidKinds := [.handle], laidTests := true, laidLooks := .later }
def VarintGetsUptoCardSaid : Prop := Claim7.holds Tryd.pinned (.plain (OpenSpec.upto varintGetsSpec)) varintGetsUptoCard

/-- THE SECOND FORM's CARD OF 'hyglaw2.VarintLong'. -/
def varintLongUptoCard : Claim7 := { stood := { row := varintLongUptoRow, standIns := [], harness := (true, "a256178be12812b9d88a74397fe6fcaff7db223328fb093143b22577eca55d3f"), looks := true }, kinds := [], alts := [], laidByText := true, laidKinds := [.handle], laidTests := true, laidLooks := .later }
def VarintLongUptoCardSaid : Prop := Claim7.holds Tryd.pinned (.plain (OpenSpec.upto varintLongSpec)) varintLongUptoCard
end Rows
end Go.Proofs.YtlbfeknmbgjknaaDoor
