/-
  DERIVED. GIVEN WITH THE SEED: THE CARDS: each row of YtkpljnfakidjeaaDoorRows.lean that lists a variable, with what it lists TIED to the program's text (the seventh form; the later family's looks); each row that meets fmt, with fmt's text TOLD by the authors' own Lean function (tested against real Go, not proved from fmt's source: count such statements apart). THE CARD IS WHAT COUNTS. Prove the row's statement (the work); the ties are given (YtkpljnfakidjeaaDoorTie.lean); close each card by the builder's one call (the guide's Derived/Test/ToyasCard.lean, 'card_holds'). Laid BY PROGRAM, IN A SANDBOX (cutbox-door.mjs). By AI agents, Wed Nov 11 2026. No macro, syntax, notation, axiom, sorry.
-/
import Derived.Test.YtkpljnfakidjeaaDoorRows
import GoSem.ClaimSeven
namespace Go.Proofs.YtkpljnfakidjeaaDoor
namespace Rows

/-- THE TIED CARD OF 'hyglaw20.DodPuts'. -/
def dodPutsCard : Claim7 := { stood := { row := dodPutsRow, standIns := [], harness := (true, "47ad3b2a220dd403779c77dc9a781acf10477106f4012fd0a88f0bd3997c2aaa"), looks := true }, kinds := [], alts := [], laidByText := true, laidKinds := [.handle], laidTests := true, laidLooks := .later }
def DodPutsCardSaid : Prop := Claim7.holds Tryd.pinned (.plain (OpenSpec.ofChange dodPutsSpec)) dodPutsCard

/-- THE TIED CARD OF 'hyglaw20.DodGets'. -/
def dodGetsCard : Claim7 := { stood := { row := dodGetsRow, standIns := [], harness := (true, "47ad3b2a220dd403779c77dc9a781acf10477106f4012fd0a88f0bd3997c2aaa"), looks := true }, kinds := [], alts := [], laidByText := true, laidKinds := [.handle], laidTests := true, laidLooks := .later }
def DodGetsCardSaid : Prop := Claim7.holds Tryd.pinned (.plain (OpenSpec.ofChange dodGetsSpec)) dodGetsCard

/-- THE TIED CARD OF 'hyglaw20.DodMany'. -/
def dodManyCard : Claim7 := { stood := { row := dodManyRow, standIns := [], harness := (true, "47ad3b2a220dd403779c77dc9a781acf10477106f4012fd0a88f0bd3997c2aaa"), looks := true }, kinds := [], alts := [], laidByText := true, laidKinds := [.handle], laidTests := true, laidLooks := .later }
def DodManyCardSaid : Prop := Claim7.holds Tryd.pinned (.plain (OpenSpec.ofChange dodManySpec)) dodManyCard

/-- THE TIED CARD OF 'hyglaw21.XorPuts'. -/
def xorPutsCard : Claim7 := { stood := { row := xorPutsRow, standIns := [], harness := (true, "47ad3b2a220dd403779c77dc9a781acf10477106f4012fd0a88f0bd3997c2aaa"), looks := true }, kinds := [], alts := [], laidByText := true, laidKinds := [.handle], laidTests := true, laidLooks := .later }
def XorPutsCardSaid : Prop := Claim7.holds Tryd.pinned (.plain (OpenSpec.ofChange xorPutsSpec)) xorPutsCard

/-- THE SECOND FORM's CARD OF 'hyglaw20.DodPuts'. -/
def dodPutsUptoCard : Claim7 := { stood := { row := dodPutsUptoRow, standIns := [], harness := (true, "47ad3b2a220dd403779c77dc9a781acf10477106f4012fd0a88f0bd3997c2aaa"), looks := true }, kinds := [], alts := [], laidByText := true, laidKinds := [.handle], laidTests := true, laidLooks := .later }
def DodPutsUptoCardSaid : Prop := Claim7.holds Tryd.pinned (.plain (OpenSpec.upto dodPutsSpec)) dodPutsUptoCard

/-- THE SECOND FORM's CARD OF 'hyglaw20.DodGets'. -/
def dodGetsUptoCard : Claim7 := { stood := { row := dodGetsUptoRow, standIns := [], harness := (true, "47ad3b2a220dd403779c77dc9a781acf10477106f4012fd0a88f0bd3997c2aaa"), looks := true }, kinds := [], alts := [], laidByText := true, laidKinds := [.handle], laidTests := true, laidLooks := .later }
def DodGetsUptoCardSaid : Prop := Claim7.holds Tryd.pinned (.plain (OpenSpec.upto dodGetsSpec)) dodGetsUptoCard

/-- THE SECOND FORM's CARD OF 'hyglaw20.DodMany'. -/
def dodManyUptoCard : Claim7 := { stood := { row := dodManyUptoRow, standIns := [], harness := (true, "47ad3b2a220dd403779c77dc9a781acf10477106f4012fd0a88f0bd3997c2aaa"), looks := true }, kinds := [], alts := [], laidByText := true, laidKinds := [.handle], laidTests := true, laidLooks := .later }
def DodManyUptoCardSaid : Prop := Claim7.holds Tryd.pinned (.plain (OpenSpec.upto dodManySpec)) dodManyUptoCard

/-- THE SECOND FORM's CARD OF 'hyglaw21.XorPuts'. -/
def xorPutsUptoCard : Claim7 := { stood := { row := xorPutsUptoRow, standIns := [], harness := (true, "47ad3b2a220dd403779c77dc9a781acf10477106f4012fd0a88f0bd3997c2aaa"), looks := true }, kinds := [], alts := [], laidByText := true, laidKinds := [.handle], laidTests := true, laidLooks := .later }
def XorPutsUptoCardSaid : Prop := Claim7.holds Tryd.pinned (.plain (OpenSpec.upto xorPutsSpec)) xorPutsUptoCard
end Rows
end Go.Proofs.YtkpljnfakidjeaaDoor
