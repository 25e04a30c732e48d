/-
  DERIVED. GIVEN WITH THE SEED: THE CARDS: each row of YtmlghmjjlpioeaaGreatDoorRows.lean that lists a variable, with what it lists TIED to the program's text (the seventh form; the later family's looks); each row that meets fmt, with fmt's text TOLD by the authors' own Lean function (tested against real Go, not proved from fmt's source: count such statements apart). THE CARD IS WHAT COUNTS. Prove the row's statement (the work); the ties are given (YtmlghmjjlpioeaaGreatDoorTie.lean); close each card by the builder's one call (the guide's Derived/Test/ToyasCard.lean, 'card_holds'). Laid BY PROGRAM, IN A SANDBOX (cutbox-door.mjs). By AI agents, Wed Nov 11 2026. No macro, syntax, notation, axiom, sorry.
-/
import Derived.Test.YtmlghmjjlpioeaaGreatDoorRows
import GoSem.ClaimSeven
namespace Go.Proofs.YtmlghmjjlpioeaaGreatDoor
namespace Rows

/-- THE TIED CARD OF 'hyglaw14.ExphReads'. -/
def exphReadsCard : Claim7 := { stood := { row := exphReadsRow, standIns := [], harness := (true, "d7b308ceba3d16b57893f23e5ec0d7b56ea5516bcf621ab699da3d54a30ae1fd"), looks := true }, kinds := [], alts := [], laidByText := true, laidKinds := [.handle], laidTests := true, laidLooks := .later }
def ExphReadsCardSaid : Prop := Claim7.holds Tryz.pinned (.plain (OpenSpec.ofChange exphReadsSpec)) exphReadsCard

/-- THE TIED CARD OF 'hyglaw19.IdentOrder'. -/
def identOrderCard : Claim7 := { stood := { row := identOrderRow, standIns := [], harness := (true, "d7b308ceba3d16b57893f23e5ec0d7b56ea5516bcf621ab699da3d54a30ae1fd"), looks := true }, kinds := [], alts := [], laidByText := true, laidKinds := [.handle], laidTests := true, laidLooks := .later }
def IdentOrderCardSaid : Prop := Claim7.holds Tryz.pinned (.plain (OpenSpec.ofChange identOrderSpec)) identOrderCard

/-- THE SECOND FORM's CARD OF 'hyglaw14.ExphReads'. -/
def exphReadsUptoCard : Claim7 := { stood := { row := exphReadsUptoRow, standIns := [], harness := (true, "d7b308ceba3d16b57893f23e5ec0d7b56ea5516bcf621ab699da3d54a30ae1fd"), looks := true }, kinds := [], alts := [], laidByText := true, laidKinds := [.handle], laidTests := true, laidLooks := .later }
def ExphReadsUptoCardSaid : Prop := Claim7.holds Tryz.pinned (.plain (OpenSpec.upto exphReadsSpec)) exphReadsUptoCard

/-- THE SECOND FORM's CARD OF 'hyglaw19.IdentOrder'. -/
def identOrderUptoCard : Claim7 := { stood := { row := identOrderUptoRow, standIns := [], harness := (true, "d7b308ceba3d16b57893f23e5ec0d7b56ea5516bcf621ab699da3d54a30ae1fd"), looks := true }, kinds := [], alts := [], laidByText := true, laidKinds := [.handle], laidTests := true, laidLooks := .later }
def IdentOrderUptoCardSaid : Prop := Claim7.holds Tryz.pinned (.plain (OpenSpec.upto identOrderSpec)) identOrderUptoCard
end Rows
end Go.Proofs.YtmlghmjjlpioeaaGreatDoor
