/-
  DERIVED. GIVEN WITH THE SEED: THE CARDS: each row of YtficgfemmijaaaaGreatDoorRows.lean that lists a variable, with what it lists TIED to the program's text (the seventh form; the later family's looks); each row that meets fmt, with fmt's text TOLD by the authors' own Lean function (tested against real Go, not proved from fmt's source: count such statements apart). THE CARD IS WHAT COUNTS. Prove the row's statement (the work); the ties are given (YtficgfemmijaaaaGreatDoorTie.lean); close each card by the builder's one call (the guide's Derived/Test/ToyasCard.lean, 'card_holds'). Laid BY PROGRAM, IN A SANDBOX (cutbox-door.mjs). By AI agents, Wed Nov 11 2026. No macro, syntax, notation, axiom, sorry.
-/
import Derived.Test.YtficgfemmijaaaaGreatDoorRows
import GoSem.ClaimSeven
namespace Go.Proofs.YtficgfemmijaaaaGreatDoor
namespace Rows

/-- THE TIED CARD OF 'hyglaw14.ExphReads'. -/
def exphReadsCard : Claim7 := { stood := { row := exphReadsRow, standIns := [], harness := (true, "98bb2b8a3a81fc38d59ea05ab1af7fa38ffa8838470cec6a21a1101ab5ec2b3d"), looks := true }, kinds := [], alts := [], laidByText := true, laidKinds := [.handle], laidTests := true, laidLooks := .later }
def ExphReadsCardSaid : Prop := Claim7.holds Tryz.pinned (.plain (OpenSpec.ofChange exphReadsSpec)) exphReadsCard

/-- THE TIED CARD OF 'hyglaw14.ExphWrites'. -/
def exphWritesCard : Claim7 := { stood := { row := exphWritesRow, standIns := [], harness := (true, "98bb2b8a3a81fc38d59ea05ab1af7fa38ffa8838470cec6a21a1101ab5ec2b3d"), looks := true }, kinds := [], alts := [], laidByText := true, laidKinds := [.handle], laidTests := true, laidLooks := .later }
def ExphWritesCardSaid : Prop := Claim7.holds Tryz.pinned (.plain (OpenSpec.ofChange exphWritesSpec)) exphWritesCard

/-- THE TIED CARD OF 'hyglaw14.ExphDeep'. -/
def exphDeepCard : Claim7 := { stood := { row := exphDeepRow, standIns := [], harness := (true, "98bb2b8a3a81fc38d59ea05ab1af7fa38ffa8838470cec6a21a1101ab5ec2b3d"), looks := true }, kinds := [], alts := [], laidByText := true, laidKinds := [.handle], laidTests := true, laidLooks := .later }
def ExphDeepCardSaid : Prop := Claim7.holds Tryz.pinned (.plain (OpenSpec.ofChange exphDeepSpec)) exphDeepCard

/-- THE SECOND FORM's CARD OF 'hyglaw14.ExphReads'. -/
def exphReadsUptoCard : Claim7 := { stood := { row := exphReadsUptoRow, standIns := [], harness := (true, "98bb2b8a3a81fc38d59ea05ab1af7fa38ffa8838470cec6a21a1101ab5ec2b3d"), looks := true }, kinds := [], alts := [], laidByText := true, laidKinds := [.handle], laidTests := true, laidLooks := .later }
def ExphReadsUptoCardSaid : Prop := Claim7.holds Tryz.pinned (.plain (OpenSpec.upto exphReadsSpec)) exphReadsUptoCard

/-- THE SECOND FORM's CARD OF 'hyglaw14.ExphWrites'. -/
def exphWritesUptoCard : Claim7 := { stood := { row := exphWritesUptoRow, standIns := [], harness := (true, "98bb2b8a3a81fc38d59ea05ab1af7fa38ffa8838470cec6a21a1101ab5ec2b3d"), looks := true }, kinds := [], alts := [], laidByText := true, laidKinds := [.handle], laidTests := true, laidLooks := .later }
def ExphWritesUptoCardSaid : Prop := Claim7.holds Tryz.pinned (.plain (OpenSpec.upto exphWritesSpec)) exphWritesUptoCard

/-- THE SECOND FORM's CARD OF 'hyglaw14.ExphDeep'. -/
def exphDeepUptoCard : Claim7 := { stood := { row := exphDeepUptoRow, standIns := [], harness := (true, "98bb2b8a3a81fc38d59ea05ab1af7fa38ffa8838470cec6a21a1101ab5ec2b3d"), looks := true }, kinds := [], alts := [], laidByText := true, laidKinds := [.handle], laidTests := true, laidLooks := .later }
def ExphDeepUptoCardSaid : Prop := Claim7.holds Tryz.pinned (.plain (OpenSpec.upto exphDeepSpec)) exphDeepUptoCard
end Rows
end Go.Proofs.YtficgfemmijaaaaGreatDoor
