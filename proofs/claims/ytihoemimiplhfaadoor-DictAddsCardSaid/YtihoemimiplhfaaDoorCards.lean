/-
  DERIVED. GIVEN WITH THE SEED: THE CARDS: each row of YtihoemimiplhfaaDoorRows.lean that lists a variable, with what it lists TIED to the program's text (the seventh form; the later family's looks); each row that meets fmt, with fmt's text TOLD by the authors' own Lean function (tested against real Go, not proved from fmt's source: count such statements apart). THE CARD IS WHAT COUNTS. Prove the row's statement (the work); the ties are given (YtihoemimiplhfaaDoorTie.lean); close each card by the builder's one call (the guide's Derived/Test/ToyasCard.lean, 'card_holds'). Laid BY PROGRAM, IN A SANDBOX (cutbox-door.mjs). By AI agents, Wed Nov 11 2026. No macro, syntax, notation, axiom, sorry.
-/
import Derived.Test.YtihoemimiplhfaaDoorRows
import GoSem.ClaimSeven
namespace Go.Proofs.YtihoemimiplhfaaDoor
namespace Rows

/-- THE TIED CARD OF 'hyglaw21.XorPuts'. -/
def xorPutsCard : Claim7 := { stood := { row := xorPutsRow, standIns := [], harness := (true, "ed1d6c1757be0bb67dfe8c6dc3579213901978c86294b2205455a46fef0d706f"), looks := true }, kinds := [], alts := [], laidByText := true, laidKinds := [.handle], laidTests := true, laidLooks := .later }
def XorPutsCardSaid : Prop := Claim7.holds Tryd.pinned (.plain (OpenSpec.ofChange xorPutsSpec)) xorPutsCard

/-- THE TIED CARD OF 'hyglaw21.XorGets'. -/
def xorGetsCard : Claim7 := { stood := { row := xorGetsRow, standIns := [], harness := (true, "ed1d6c1757be0bb67dfe8c6dc3579213901978c86294b2205455a46fef0d706f"), looks := true }, kinds := [], alts := [], laidByText := true, laidKinds := [.handle], laidTests := true, laidLooks := .later }
def XorGetsCardSaid : Prop := Claim7.holds Tryd.pinned (.plain (OpenSpec.ofChange xorGetsSpec)) xorGetsCard

/-- THE TIED CARD OF 'hyglaw21.XorMany'. -/
def xorManyCard : Claim7 := { stood := { row := xorManyRow, standIns := [], harness := (true, "ed1d6c1757be0bb67dfe8c6dc3579213901978c86294b2205455a46fef0d706f"), looks := true }, kinds := [], alts := [], laidByText := true, laidKinds := [.handle], laidTests := true, laidLooks := .later }
def XorManyCardSaid : Prop := Claim7.holds Tryd.pinned (.plain (OpenSpec.ofChange xorManySpec)) xorManyCard

/-- THE TIED CARD OF 'hyglaw22.RunsGets'. -/
def runsGetsCard : Claim7 := { stood := { row := runsGetsRow, standIns := [], harness := (true, "ed1d6c1757be0bb67dfe8c6dc3579213901978c86294b2205455a46fef0d706f"), looks := true }, kinds := [], alts := [], laidByText := true, laidKinds := [.handle], laidTests := true, laidLooks := .later }
def RunsGetsCardSaid : Prop := Claim7.holds Tryd.pinned (.plain (OpenSpec.ofChange runsGetsSpec)) runsGetsCard

/-- THE TIED CARD OF 'hyglaw23.DictAdds'. -/
def dictAddsCard : Claim7 := { stood := { row := dictAddsRow, standIns := [], harness := (true, "ed1d6c1757be0bb67dfe8c6dc3579213901978c86294b2205455a46fef0d706f"), looks := true }, kinds := [], alts := [], laidByText := true, laidKinds := [.handle], laidTests := true, laidLooks := .later }
def DictAddsCardSaid : Prop := Claim7.holds Tryd.pinned (.plain (OpenSpec.ofChange dictAddsSpec)) dictAddsCard

/-- THE SECOND FORM's CARD OF 'hyglaw21.XorPuts'. -/
def xorPutsUptoCard : Claim7 := { stood := { row := xorPutsUptoRow, standIns := [], harness := (true, "ed1d6c1757be0bb67dfe8c6dc3579213901978c86294b2205455a46fef0d706f"), looks := true }, kinds := [], alts := [], laidByText := true, laidKinds := [.handle], laidTests := true, laidLooks := .later }
def XorPutsUptoCardSaid : Prop := Claim7.holds Tryd.pinned (.plain (OpenSpec.upto xorPutsSpec)) xorPutsUptoCard

/-- THE SECOND FORM's CARD OF 'hyglaw21.XorGets'. -/
def xorGetsUptoCard : Claim7 := { stood := { row := xorGetsUptoRow, standIns := [], harness := (true, "ed1d6c1757be0bb67dfe8c6dc3579213901978c86294b2205455a46fef0d706f"), looks := true }, kinds := [], alts := [], laidByText := true, laidKinds := [.handle], laidTests := true, laidLooks := .later }
def XorGetsUptoCardSaid : Prop := Claim7.holds Tryd.pinned (.plain (OpenSpec.upto xorGetsSpec)) xorGetsUptoCard

/-- THE SECOND FORM's CARD OF 'hyglaw21.XorMany'. -/
def xorManyUptoCard : Claim7 := { stood := { row := xorManyUptoRow, standIns := [], harness := (true, "ed1d6c1757be0bb67dfe8c6dc3579213901978c86294b2205455a46fef0d706f"), looks := true }, kinds := [], alts := [], laidByText := true, laidKinds := [.handle], laidTests := true, laidLooks := .later }
def XorManyUptoCardSaid : Prop := Claim7.holds Tryd.pinned (.plain (OpenSpec.upto xorManySpec)) xorManyUptoCard

/-- THE SECOND FORM's CARD OF 'hyglaw22.RunsGets'. -/
def runsGetsUptoCard : Claim7 := { stood := { row := runsGetsUptoRow, standIns := [], harness := (true, "ed1d6c1757be0bb67dfe8c6dc3579213901978c86294b2205455a46fef0d706f"), looks := true }, kinds := [], alts := [], laidByText := true, laidKinds := [.handle], laidTests := true, laidLooks := .later }
def RunsGetsUptoCardSaid : Prop := Claim7.holds Tryd.pinned (.plain (OpenSpec.upto runsGetsSpec)) runsGetsUptoCard

/-- THE SECOND FORM's CARD OF 'hyglaw23.DictAdds'. -/
def dictAddsUptoCard : Claim7 := { stood := { row := dictAddsUptoRow, standIns := [], harness := (true, "ed1d6c1757be0bb67dfe8c6dc3579213901978c86294b2205455a46fef0d706f"), looks := true }, kinds := [], alts := [], laidByText := true, laidKinds := [.handle], laidTests := true, laidLooks := .later }
def DictAddsUptoCardSaid : Prop := Claim7.holds Tryd.pinned (.plain (OpenSpec.upto dictAddsSpec)) dictAddsUptoCard
end Rows
end Go.Proofs.YtihoemimiplhfaaDoor
