/-
  DERIVED. GIVEN WITH THE SEED: THE CARDS: each row of YtkpljnfakidjeabDoorRows.lean that lists a variable, with what it lists TIED to the program's text (the seventh form; the later family's looks); each row that meets fmt, with fmt's text TOLD by the authors' own Lean function (tested against real Go, not proved from fmt's source: count such statements apart). THE CARD IS WHAT COUNTS. Prove the row's statement (the work); the ties are given (YtkpljnfakidjeabDoorTie.lean); close each card by the builder's one call (the guide's Derived/Test/ToyasCard.lean, 'card_holds'). Laid BY PROGRAM, IN A SANDBOX (cutbox-door.mjs). By AI agents, Wed Nov 11 2026. No macro, syntax, notation, axiom, sorry.
-/
import Derived.Test.YtkpljnfakidjeabDoorRows
import GoSem.ClaimSeven
namespace Go.Proofs.YtkpljnfakidjeabDoor
namespace Rows

/-- THE TIED CARD OF 'hyglaw21.XorGets'. -/
def xorGetsCard : Claim7 := { stood := { row := xorGetsRow, standIns := [], harness := (true, "aa685c24fcf2f5c8cc2a37ff6a8c44736d68d38483ebaefe397acd7df0428eba"), looks := true }, kinds := [], alts := [], laidByText := true, laidKinds := [.handle], laidTests := true, laidLooks := .later }
def XorGetsCardSaid : Prop := Claim7.holds Tryd.pinned (.plain (OpenSpec.ofChange xorGetsSpec)) xorGetsCard

/-- THE TIED CARD OF 'hyglaw21.XorMany'. -/
def xorManyCard : Claim7 := { stood := { row := xorManyRow, standIns := [], harness := (true, "aa685c24fcf2f5c8cc2a37ff6a8c44736d68d38483ebaefe397acd7df0428eba"), looks := true }, kinds := [], alts := [], laidByText := true, laidKinds := [.handle], laidTests := true, laidLooks := .later }
def XorManyCardSaid : Prop := Claim7.holds Tryd.pinned (.plain (OpenSpec.ofChange xorManySpec)) xorManyCard

/-- THE TIED CARD OF 'hyglaw22.RunsPuts'. -/
def runsPutsCard : Claim7 := { stood := { row := runsPutsRow, standIns := [], harness := (true, "aa685c24fcf2f5c8cc2a37ff6a8c44736d68d38483ebaefe397acd7df0428eba"), looks := true }, kinds := [], alts := [], laidByText := true, laidKinds := [.handle], laidTests := true, laidLooks := .later }
def RunsPutsCardSaid : Prop := Claim7.holds Tryd.pinned (.plain (OpenSpec.ofChange runsPutsSpec)) runsPutsCard

/-- THE TIED CARD OF 'hyglaw22.RunsGets'. -/
def runsGetsCard : Claim7 := { stood := { row := runsGetsRow, standIns := [], harness := (true, "aa685c24fcf2f5c8cc2a37ff6a8c44736d68d38483ebaefe397acd7df0428eba"), looks := true }, kinds := [], alts := [], laidByText := true, laidKinds := [.handle], laidTests := true, laidLooks := .later }
def RunsGetsCardSaid : Prop := Claim7.holds Tryd.pinned (.plain (OpenSpec.ofChange runsGetsSpec)) runsGetsCard

/-- THE TIED CARD OF 'hyglaw22.RunsMany'. -/
def runsManyCard : Claim7 := { stood := { row := runsManyRow, standIns := [], harness := (true, "aa685c24fcf2f5c8cc2a37ff6a8c44736d68d38483ebaefe397acd7df0428eba"), looks := true }, kinds := [], alts := [], laidByText := true, laidKinds := [.handle], laidTests := true, laidLooks := .later }
def RunsManyCardSaid : Prop := Claim7.holds Tryd.pinned (.plain (OpenSpec.ofChange runsManySpec)) runsManyCard

/-- THE TIED CARD OF 'hyglaw23.DictAdds'. -/
def dictAddsCard : Claim7 := { stood := { row := dictAddsRow, standIns := [], harness := (true, "aa685c24fcf2f5c8cc2a37ff6a8c44736d68d38483ebaefe397acd7df0428eba"), looks := true }, kinds := [], alts := [], laidByText := true, laidKinds := [.handle], laidTests := true, laidLooks := .later }
def DictAddsCardSaid : Prop := Claim7.holds Tryd.pinned (.plain (OpenSpec.ofChange dictAddsSpec)) dictAddsCard

/-- THE SECOND FORM's CARD OF 'hyglaw21.XorGets'. -/
def xorGetsUptoCard : Claim7 := { stood := { row := xorGetsUptoRow, standIns := [], harness := (true, "aa685c24fcf2f5c8cc2a37ff6a8c44736d68d38483ebaefe397acd7df0428eba"), looks := true }, kinds := [], alts := [], laidByText := true, laidKinds := [.handle], laidTests := true, laidLooks := .later }
def XorGetsUptoCardSaid : Prop := Claim7.holds Tryd.pinned (.plain (OpenSpec.upto xorGetsSpec)) xorGetsUptoCard

/-- THE SECOND FORM's CARD OF 'hyglaw21.XorMany'. -/
def xorManyUptoCard : Claim7 := { stood := { row := xorManyUptoRow, standIns := [], harness := (true, "aa685c24fcf2f5c8cc2a37ff6a8c44736d68d38483ebaefe397acd7df0428eba"), looks := true }, kinds := [], alts := [], laidByText := true, laidKinds := [.handle], laidTests := true, laidLooks := .later }
def XorManyUptoCardSaid : Prop := Claim7.holds Tryd.pinned (.plain (OpenSpec.upto xorManySpec)) xorManyUptoCard

/-- THE SECOND FORM's CARD OF 'hyglaw22.RunsPuts'. -/
def runsPutsUptoCard : Claim7 := { stood := { row := runsPutsUptoRow, standIns := [], harness := (true, "aa685c24fcf2f5c8cc2a37ff6a8c44736d68d38483ebaefe397acd7df0428eba"), looks := true }, kinds := [], alts := [], laidByText := true, laidKinds := [.handle], laidTests := true, laidLooks := .later }
def RunsPutsUptoCardSaid : Prop := Claim7.holds Tryd.pinned (.plain (OpenSpec.upto runsPutsSpec)) runsPutsUptoCard

/-- THE SECOND FORM's CARD OF 'hyglaw22.RunsGets'. -/
def runsGetsUptoCard : Claim7 := { stood := { row := runsGetsUptoRow, standIns := [], harness := (true, "aa685c24fcf2f5c8cc2a37ff6a8c44736d68d38483ebaefe397acd7df0428eba"), looks := true }, kinds := [], alts := [], laidByText := true, laidKinds := [.handle], laidTests := true, laidLooks := .later }
def RunsGetsUptoCardSaid : Prop := Claim7.holds Tryd.pinned (.plain (OpenSpec.upto runsGetsSpec)) runsGetsUptoCard

/-- THE SECOND FORM's CARD OF 'hyglaw22.RunsMany'. -/
def runsManyUptoCard : Claim7 := { stood := { row := runsManyUptoRow, standIns := [], harness := (true, "aa685c24fcf2f5c8cc2a37ff6a8c44736d68d38483ebaefe397acd7df0428eba"), looks := true }, kinds := [], alts := [], laidByText := true, laidKinds := [.handle], laidTests := true, laidLooks := .later }
def RunsManyUptoCardSaid : Prop := Claim7.holds Tryd.pinned (.plain (OpenSpec.upto runsManySpec)) runsManyUptoCard

/-- THE SECOND FORM's CARD OF 'hyglaw23.DictAdds'. -/
def dictAddsUptoCard : Claim7 := { stood := { row := dictAddsUptoRow, standIns := [], harness := (true, "aa685c24fcf2f5c8cc2a37ff6a8c44736d68d38483ebaefe397acd7df0428eba"), looks := true }, kinds := [], alts := [], laidByText := true, laidKinds := [.handle], laidTests := true, laidLooks := .later }
def DictAddsUptoCardSaid : Prop := Claim7.holds Tryd.pinned (.plain (OpenSpec.upto dictAddsSpec)) dictAddsUptoCard
end Rows
end Go.Proofs.YtkpljnfakidjeabDoor
