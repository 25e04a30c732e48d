/-
  DERIVED. GIVEN WITH THE SEED: THE CARDS: each row of YtdokbooggbiciaaGreatDoorRows.lean that lists a variable, with what it lists TIED to the program's text (the seventh form; the later family's looks); each row that meets fmt, with fmt's text TOLD by the authors' own Lean function (tested against real Go, not proved from fmt's source: count such statements apart). THE CARD IS WHAT COUNTS. Prove the row's statement (the work); the ties are given (YtdokbooggbiciaaGreatDoorTie.lean); close each card by the builder's one call (the guide's Derived/Test/ToyasCard.lean, 'card_holds'). Laid BY PROGRAM, IN A SANDBOX (cutbox-door.mjs). By AI agents, Wed Nov 11 2026. No macro, syntax, notation, axiom, sorry.
-/
import Derived.Test.YtdokbooggbiciaaGreatDoorRows
import GoSem.ClaimSeven
namespace Go.Proofs.YtdokbooggbiciaaGreatDoor
namespace Rows

/-- THE TIED CARD OF 'hyglaw14.BucketsReads'. -/
def bucketsReadsCard : Claim7 := { stood := { row := bucketsReadsRow, standIns := [], harness := (true, "8ab05c34231df48ddbb186ae100943c1fa659a94117d319adc003039c5f71aae"), looks := true }, kinds := [], alts := [], laidByText := true, laidKinds := [.handle], laidTests := true, laidLooks := .later }
def BucketsReadsCardSaid : Prop := Claim7.holds Tryz.pinned (.plain (OpenSpec.ofChange bucketsReadsSpec)) bucketsReadsCard

/-- THE TIED CARD OF 'hyglaw14.BucketsWrites'. -/
def bucketsWritesCard : Claim7 := { stood := { row := bucketsWritesRow, standIns := [], harness := (true, "8ab05c34231df48ddbb186ae100943c1fa659a94117d319adc003039c5f71aae"), looks := true }, kinds := [], alts := [], laidByText := true, laidKinds := [.handle], laidTests := true, laidLooks := .later }
def BucketsWritesCardSaid : Prop := Claim7.holds Tryz.pinned (.plain (OpenSpec.ofChange bucketsWritesSpec)) bucketsWritesCard

/-- THE TIED CARD OF 'hyglaw14.BucketsDeep'. -/
def bucketsDeepCard : Claim7 := { stood := { row := bucketsDeepRow, standIns := [], harness := (true, "8ab05c34231df48ddbb186ae100943c1fa659a94117d319adc003039c5f71aae"), looks := true }, kinds := [], alts := [], laidByText := true, laidKinds := [.handle], laidTests := true, laidLooks := .later }
def BucketsDeepCardSaid : Prop := Claim7.holds Tryz.pinned (.plain (OpenSpec.ofChange bucketsDeepSpec)) bucketsDeepCard

/-- THE SECOND FORM's CARD OF 'hyglaw14.BucketsReads'. -/
def bucketsReadsUptoCard : Claim7 := { stood := { row := bucketsReadsUptoRow, standIns := [], harness := (true, "8ab05c34231df48ddbb186ae100943c1fa659a94117d319adc003039c5f71aae"), looks := true }, kinds := [], alts := [], laidByText := true, laidKinds := [.handle], laidTests := true, laidLooks := .later }
def BucketsReadsUptoCardSaid : Prop := Claim7.holds Tryz.pinned (.plain (OpenSpec.upto bucketsReadsSpec)) bucketsReadsUptoCard

/-- THE SECOND FORM's CARD OF 'hyglaw14.BucketsWrites'. -/
def bucketsWritesUptoCard : Claim7 := { stood := { row := bucketsWritesUptoRow, standIns := [], harness := (true, "8ab05c34231df48ddbb186ae100943c1fa659a94117d319adc003039c5f71aae"), looks := true }, kinds := [], alts := [], laidByText := true, laidKinds := [.handle], laidTests := true, laidLooks := .later }
def BucketsWritesUptoCardSaid : Prop := Claim7.holds Tryz.pinned (.plain (OpenSpec.upto bucketsWritesSpec)) bucketsWritesUptoCard

/-- THE SECOND FORM's CARD OF 'hyglaw14.BucketsDeep'. -/
def bucketsDeepUptoCard : Claim7 := { stood := { row := bucketsDeepUptoRow, standIns := [], harness := (true, "8ab05c34231df48ddbb186ae100943c1fa659a94117d319adc003039c5f71aae"), looks := true }, kinds := [], alts := [], laidByText := true, laidKinds := [.handle], laidTests := true, laidLooks := .later }
def BucketsDeepUptoCardSaid : Prop := Claim7.holds Tryz.pinned (.plain (OpenSpec.upto bucketsDeepSpec)) bucketsDeepUptoCard
end Rows
end Go.Proofs.YtdokbooggbiciaaGreatDoor
