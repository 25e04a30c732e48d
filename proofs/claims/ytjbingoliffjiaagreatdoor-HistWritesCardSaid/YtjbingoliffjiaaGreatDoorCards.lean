/-
  DERIVED. GIVEN WITH THE SEED: THE CARDS: each row of YtjbingoliffjiaaGreatDoorRows.lean that lists a variable, with what it lists TIED to the program's text (the seventh form; the later family's looks); each row that meets fmt, with fmt's text TOLD by the authors' own Lean function (tested against real Go, not proved from fmt's source: count such statements apart). THE CARD IS WHAT COUNTS. Prove the row's statement (the work); the ties are given (YtjbingoliffjiaaGreatDoorTie.lean); close each card by the builder's one call (the guide's Derived/Test/ToyasCard.lean, 'card_holds'). Laid BY PROGRAM, IN A SANDBOX (cutbox-door.mjs). By AI agents, Wed Nov 11 2026. No macro, syntax, notation, axiom, sorry.
-/
import Derived.Test.YtjbingoliffjiaaGreatDoorRows
import GoSem.ClaimSeven
namespace Go.Proofs.YtjbingoliffjiaaGreatDoor
namespace Rows

/-- THE TIED CARD OF 'hyglaw12.NumberReads'. -/
def numberReadsCard : Claim7 := { stood := { row := numberReadsRow, standIns := [], harness := (true, "19ca8a5e8287d04c4323cf5193e37c7aa8ec6b790a59cdfa67fd083da1a279b7"), looks := true }, kinds := [], alts := [], laidByText := true, laidKinds := [.handle], laidTests := true, laidLooks := .later }
def NumberReadsCardSaid : Prop := Claim7.holds Tryz.pinned (.plain (OpenSpec.ofChange numberReadsSpec)) numberReadsCard

/-- THE TIED CARD OF 'hyglaw12.NumberWrites'. -/
def numberWritesCard : Claim7 := { stood := { row := numberWritesRow, standIns := [], harness := (true, "19ca8a5e8287d04c4323cf5193e37c7aa8ec6b790a59cdfa67fd083da1a279b7"), looks := true }, kinds := [], alts := [], laidByText := true, laidKinds := [.handle], laidTests := true, laidLooks := .later }
def NumberWritesCardSaid : Prop := Claim7.holds Tryz.pinned (.plain (OpenSpec.ofChange numberWritesSpec)) numberWritesCard

/-- THE TIED CARD OF 'hyglaw13.HistReads'. -/
def histReadsCard : Claim7 := { stood := { row := histReadsRow, standIns := [], harness := (true, "19ca8a5e8287d04c4323cf5193e37c7aa8ec6b790a59cdfa67fd083da1a279b7"), looks := true }, kinds := [], alts := [], laidByText := true, laidKinds := [.handle], laidTests := true, laidLooks := .later }
def HistReadsCardSaid : Prop := Claim7.holds Tryz.pinned (.plain (OpenSpec.ofChange histReadsSpec)) histReadsCard

/-- THE TIED CARD OF 'hyglaw13.HistWrites'. -/
def histWritesCard : Claim7 := { stood := { row := histWritesRow, standIns := [], harness := (true, "19ca8a5e8287d04c4323cf5193e37c7aa8ec6b790a59cdfa67fd083da1a279b7"), looks := true }, kinds := [], alts := [], laidByText := true, laidKinds := [.handle], laidTests := true, laidLooks := .later }
def HistWritesCardSaid : Prop := Claim7.holds Tryz.pinned (.plain (OpenSpec.ofChange histWritesSpec)) histWritesCard

/-- THE TIED CARD OF 'hyglaw13.HistDeep'. -/
def histDeepCard : Claim7 := { stood := { row := histDeepRow, standIns := [], harness := (true, "19ca8a5e8287d04c4323cf5193e37c7aa8ec6b790a59cdfa67fd083da1a279b7"), looks := true }, kinds := [], alts := [], laidByText := true, laidKinds := [.handle], laidTests := true, laidLooks := .later }
def HistDeepCardSaid : Prop := Claim7.holds Tryz.pinned (.plain (OpenSpec.ofChange histDeepSpec)) histDeepCard

/-- THE TIED CARD OF 'hyglaw15.SummReads'. -/
def summReadsCard : Claim7 := { stood := { row := summReadsRow, standIns := [], harness := (true, "19ca8a5e8287d04c4323cf5193e37c7aa8ec6b790a59cdfa67fd083da1a279b7"), looks := true }, kinds := [], alts := [], laidByText := true, laidKinds := [.handle], laidTests := true, laidLooks := .later }
def SummReadsCardSaid : Prop := Claim7.holds Tryz.pinned (.plain (OpenSpec.ofChange summReadsSpec)) summReadsCard

/-- THE TIED CARD OF 'hyglaw15.SummWrites'. -/
def summWritesCard : Claim7 := { stood := { row := summWritesRow, standIns := [], harness := (true, "19ca8a5e8287d04c4323cf5193e37c7aa8ec6b790a59cdfa67fd083da1a279b7"), looks := true }, kinds := [], alts := [], laidByText := true, laidKinds := [.handle], laidTests := true, laidLooks := .later }
def SummWritesCardSaid : Prop := Claim7.holds Tryz.pinned (.plain (OpenSpec.ofChange summWritesSpec)) summWritesCard

/-- THE SECOND FORM's CARD OF 'hyglaw12.NumberReads'. -/
def numberReadsUptoCard : Claim7 := { stood := { row := numberReadsUptoRow, standIns := [], harness := (true, "19ca8a5e8287d04c4323cf5193e37c7aa8ec6b790a59cdfa67fd083da1a279b7"), looks := true }, kinds := [], alts := [], laidByText := true, laidKinds := [.handle], laidTests := true, laidLooks := .later }
def NumberReadsUptoCardSaid : Prop := Claim7.holds Tryz.pinned (.plain (OpenSpec.upto numberReadsSpec)) numberReadsUptoCard

/-- THE SECOND FORM's CARD OF 'hyglaw12.NumberWrites'. -/
def numberWritesUptoCard : Claim7 := { stood := { row := numberWritesUptoRow, standIns := [], harness := (true, "19ca8a5e8287d04c4323cf5193e37c7aa8ec6b790a59cdfa67fd083da1a279b7"), looks := true }, kinds := [], alts := [], laidByText := true, laidKinds := [.handle], laidTests := true, laidLooks := .later }
def NumberWritesUptoCardSaid : Prop := Claim7.holds Tryz.pinned (.plain (OpenSpec.upto numberWritesSpec)) numberWritesUptoCard

/-- THE SECOND FORM's CARD OF 'hyglaw13.HistReads'. -/
def histReadsUptoCard : Claim7 := { stood := { row := histReadsUptoRow, standIns := [], harness := (true, "19ca8a5e8287d04c4323cf5193e37c7aa8ec6b790a59cdfa67fd083da1a279b7"), looks := true }, kinds := [], alts := [], laidByText := true, laidKinds := [.handle], laidTests := true, laidLooks := .later }
def HistReadsUptoCardSaid : Prop := Claim7.holds Tryz.pinned (.plain (OpenSpec.upto histReadsSpec)) histReadsUptoCard

/-- THE SECOND FORM's CARD OF 'hyglaw13.HistWrites'. -/
def histWritesUptoCard : Claim7 := { stood := { row := histWritesUptoRow, standIns := [], harness := (true, "19ca8a5e8287d04c4323cf5193e37c7aa8ec6b790a59cdfa67fd083da1a279b7"), looks := true }, kinds := [], alts := [], laidByText := true, laidKinds := [.handle], laidTests := true, laidLooks := .later }
def HistWritesUptoCardSaid : Prop := Claim7.holds Tryz.pinned (.plain (OpenSpec.upto histWritesSpec)) histWritesUptoCard

/-- THE SECOND FORM's CARD OF 'hyglaw13.HistDeep'. -/
def histDeepUptoCard : Claim7 := { stood := { row := histDeepUptoRow, standIns := [], harness := (true, "19ca8a5e8287d04c4323cf5193e37c7aa8ec6b790a59cdfa67fd083da1a279b7"), looks := true }, kinds := [], alts := [], laidByText := true, laidKinds := [.handle], laidTests := true, laidLooks := .later }
def HistDeepUptoCardSaid : Prop := Claim7.holds Tryz.pinned (.plain (OpenSpec.upto histDeepSpec)) histDeepUptoCard

/-- THE SECOND FORM's CARD OF 'hyglaw15.SummReads'. -/
def summReadsUptoCard : Claim7 := { stood := { row := summReadsUptoRow, standIns := [], harness := (true, "19ca8a5e8287d04c4323cf5193e37c7aa8ec6b790a59cdfa67fd083da1a279b7"), looks := true }, kinds := [], alts := [], laidByText := true, laidKinds := [.handle], laidTests := true, laidLooks := .later }
def SummReadsUptoCardSaid : Prop := Claim7.holds Tryz.pinned (.plain (OpenSpec.upto summReadsSpec)) summReadsUptoCard

/-- THE SECOND FORM's CARD OF 'hyglaw15.SummWrites'. -/
def summWritesUptoCard : Claim7 := { stood := { row := summWritesUptoRow, standIns := [], harness := (true, "19ca8a5e8287d04c4323cf5193e37c7aa8ec6b790a59cdfa67fd083da1a279b7"), looks := true }, kinds := [], alts := [], laidByText := true, laidKinds := [.handle], laidTests := true, laidLooks := .later }
def SummWritesUptoCardSaid : Prop := Claim7.holds Tryz.pinned (.plain (OpenSpec.upto summWritesSpec)) summWritesUptoCard
end Rows
end Go.Proofs.YtjbingoliffjiaaGreatDoor
