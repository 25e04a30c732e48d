/-
  DERIVED. GIVEN WITH THE SEED: THE CARDS: each row of YthpngihcjbmmkaaGreatDoorRows.lean that lists a variable, with what it lists TIED to the program's text (the seventh form; the later family's looks); each row that meets fmt, with fmt's text TOLD by the authors' own Lean function (tested against real Go, not proved from fmt's source: count such statements apart). THE CARD IS WHAT COUNTS. Prove the row's statement (the work); the ties are given (YthpngihcjbmmkaaGreatDoorTie.lean); close each card by the builder's one call (the guide's Derived/Test/ToyasCard.lean, 'card_holds'). Laid BY PROGRAM, IN A SANDBOX (cutbox-door.mjs). By AI agents, Wed Nov 11 2026. No macro, syntax, notation, axiom, sorry.
-/
import Derived.Test.YthpngihcjbmmkaaGreatDoorRows
import GoSem.ClaimSeven
namespace Go.Proofs.YthpngihcjbmmkaaGreatDoor
namespace Rows

/-- THE TIED CARD OF 'hyglaw13.HistReads'. -/
def histReadsCard : Claim7 := { stood := { row := histReadsRow, standIns := [], harness := (true, "dd68cc0a30c848cfe6eb408b624e3d1b7c9c98365fe2f8d2975a697a47d0f26b"), looks := true }, kinds := [], alts := [], laidByText := true, laidKinds := [.handle], laidTests := true, laidLooks := .later }
def HistReadsCardSaid : Prop := Claim7.holds Tryz.pinned (.plain (OpenSpec.ofChange histReadsSpec)) histReadsCard

/-- THE TIED CARD OF 'hyglaw13.HistWrites'. -/
def histWritesCard : Claim7 := { stood := { row := histWritesRow, standIns := [], harness := (true, "dd68cc0a30c848cfe6eb408b624e3d1b7c9c98365fe2f8d2975a697a47d0f26b"), looks := true }, kinds := [], alts := [], laidByText := true, laidKinds := [.handle], laidTests := true, laidLooks := .later }
def HistWritesCardSaid : Prop := Claim7.holds Tryz.pinned (.plain (OpenSpec.ofChange histWritesSpec)) histWritesCard

/-- THE TIED CARD OF 'hyglaw13.HistDeep'. -/
def histDeepCard : Claim7 := { stood := { row := histDeepRow, standIns := [], harness := (true, "dd68cc0a30c848cfe6eb408b624e3d1b7c9c98365fe2f8d2975a697a47d0f26b"), looks := true }, kinds := [], alts := [], laidByText := true, laidKinds := [.handle], laidTests := true, laidLooks := .later }
def HistDeepCardSaid : Prop := Claim7.holds Tryz.pinned (.plain (OpenSpec.ofChange histDeepSpec)) histDeepCard

/-- THE TIED CARD OF 'hyglaw15.SummReads'. -/
def summReadsCard : Claim7 := { stood := { row := summReadsRow, standIns := [], harness := (true, "dd68cc0a30c848cfe6eb408b624e3d1b7c9c98365fe2f8d2975a697a47d0f26b"), looks := true }, kinds := [], alts := [], laidByText := true, laidKinds := [.handle], laidTests := true, laidLooks := .later }
def SummReadsCardSaid : Prop := Claim7.holds Tryz.pinned (.plain (OpenSpec.ofChange summReadsSpec)) summReadsCard

/-- THE TIED CARD OF 'hyglaw15.SummWrites'. -/
def summWritesCard : Claim7 := { stood := { row := summWritesRow, standIns := [], harness := (true, "dd68cc0a30c848cfe6eb408b624e3d1b7c9c98365fe2f8d2975a697a47d0f26b"), looks := true }, kinds := [], alts := [], laidByText := true, laidKinds := [.handle], laidTests := true, laidLooks := .later }
def SummWritesCardSaid : Prop := Claim7.holds Tryz.pinned (.plain (OpenSpec.ofChange summWritesSpec)) summWritesCard

/-- THE TIED CARD OF 'hyglaw15.SummSame'. -/
def summSameCard : Claim7 := { stood := { row := summSameRow, standIns := [], harness := (true, "dd68cc0a30c848cfe6eb408b624e3d1b7c9c98365fe2f8d2975a697a47d0f26b"), looks := true }, kinds := [], alts := [], laidByText := true, laidKinds := [.handle], laidTests := true, laidLooks := .later }
def SummSameCardSaid : Prop := Claim7.holds Tryz.pinned (.plain (OpenSpec.ofChange summSameSpec)) summSameCard

/-- THE TIED CARD OF 'hyglaw15.SummBack'. -/
def summBackCard : Claim7 := { stood := { row := summBackRow, standIns := [], harness := (true, "dd68cc0a30c848cfe6eb408b624e3d1b7c9c98365fe2f8d2975a697a47d0f26b"), looks := true }, kinds := [], alts := [], laidByText := true, laidKinds := [.handle], laidTests := true, laidLooks := .later }
def SummBackCardSaid : Prop := Claim7.holds Tryz.pinned (.plain (OpenSpec.ofChange summBackSpec)) summBackCard

/-- THE TIED CARD OF 'hyglaw15.SummTwice'. -/
def summTwiceCard : Claim7 := { stood := { row := summTwiceRow, standIns := [], harness := (true, "dd68cc0a30c848cfe6eb408b624e3d1b7c9c98365fe2f8d2975a697a47d0f26b"), looks := true }, kinds := [], alts := [], laidByText := true, laidKinds := [.handle], laidTests := true, laidLooks := .later }
def SummTwiceCardSaid : Prop := Claim7.holds Tryz.pinned (.plain (OpenSpec.ofChange summTwiceSpec)) summTwiceCard

/-- THE TIED CARD OF 'hyglaw15.SummJoins'. -/
def summJoinsCard : Claim7 := { stood := { row := summJoinsRow, standIns := [], harness := (true, "dd68cc0a30c848cfe6eb408b624e3d1b7c9c98365fe2f8d2975a697a47d0f26b"), looks := true }, kinds := [], alts := [], laidByText := true, laidKinds := [.handle], laidTests := true, laidLooks := .later }
def SummJoinsCardSaid : Prop := Claim7.holds Tryz.pinned (.plain (OpenSpec.ofChange summJoinsSpec)) summJoinsCard

/-- THE TIED CARD OF 'hyglaw15.SummOthers'. -/
def summOthersCard : Claim7 := { stood := { row := summOthersRow, standIns := [], harness := (true, "dd68cc0a30c848cfe6eb408b624e3d1b7c9c98365fe2f8d2975a697a47d0f26b"), looks := true }, kinds := [], alts := [], laidByText := true, laidKinds := [.handle], laidTests := true, laidLooks := .later }
def SummOthersCardSaid : Prop := Claim7.holds Tryz.pinned (.plain (OpenSpec.ofChange summOthersSpec)) summOthersCard

/-- THE TIED CARD OF 'hyglaw15.SummDeep'. -/
def summDeepCard : Claim7 := { stood := { row := summDeepRow, standIns := [], harness := (true, "dd68cc0a30c848cfe6eb408b624e3d1b7c9c98365fe2f8d2975a697a47d0f26b"), looks := true }, kinds := [], alts := [], laidByText := true, laidKinds := [.handle], laidTests := true, laidLooks := .later }
def SummDeepCardSaid : Prop := Claim7.holds Tryz.pinned (.plain (OpenSpec.ofChange summDeepSpec)) summDeepCard

/-- THE SECOND FORM's CARD OF 'hyglaw13.HistReads'. -/
def histReadsUptoCard : Claim7 := { stood := { row := histReadsUptoRow, standIns := [], harness := (true, "dd68cc0a30c848cfe6eb408b624e3d1b7c9c98365fe2f8d2975a697a47d0f26b"), looks := true }, kinds := [], alts := [], laidByText := true, laidKinds := [.handle], laidTests := true, laidLooks := .later }
def HistReadsUptoCardSaid : Prop := Claim7.holds Tryz.pinned (.plain (OpenSpec.upto histReadsSpec)) histReadsUptoCard

/-- THE SECOND FORM's CARD OF 'hyglaw13.HistWrites'. -/
def histWritesUptoCard : Claim7 := { stood := { row := histWritesUptoRow, standIns := [], harness := (true, "dd68cc0a30c848cfe6eb408b624e3d1b7c9c98365fe2f8d2975a697a47d0f26b"), looks := true }, kinds := [], alts := [], laidByText := true, laidKinds := [.handle], laidTests := true, laidLooks := .later }
def HistWritesUptoCardSaid : Prop := Claim7.holds Tryz.pinned (.plain (OpenSpec.upto histWritesSpec)) histWritesUptoCard

/-- THE SECOND FORM's CARD OF 'hyglaw13.HistDeep'. -/
def histDeepUptoCard : Claim7 := { stood := { row := histDeepUptoRow, standIns := [], harness := (true, "dd68cc0a30c848cfe6eb408b624e3d1b7c9c98365fe2f8d2975a697a47d0f26b"), looks := true }, kinds := [], alts := [], laidByText := true, laidKinds := [.handle], laidTests := true, laidLooks := .later }
def HistDeepUptoCardSaid : Prop := Claim7.holds Tryz.pinned (.plain (OpenSpec.upto histDeepSpec)) histDeepUptoCard

/-- THE SECOND FORM's CARD OF 'hyglaw15.SummReads'. -/
def summReadsUptoCard : Claim7 := { stood := { row := summReadsUptoRow, standIns := [], harness := (true, "dd68cc0a30c848cfe6eb408b624e3d1b7c9c98365fe2f8d2975a697a47d0f26b"), looks := true }, kinds := [], alts := [], laidByText := true, laidKinds := [.handle], laidTests := true, laidLooks := .later }
def SummReadsUptoCardSaid : Prop := Claim7.holds Tryz.pinned (.plain (OpenSpec.upto summReadsSpec)) summReadsUptoCard

/-- THE SECOND FORM's CARD OF 'hyglaw15.SummWrites'. -/
def summWritesUptoCard : Claim7 := { stood := { row := summWritesUptoRow, standIns := [], harness := (true, "dd68cc0a30c848cfe6eb408b624e3d1b7c9c98365fe2f8d2975a697a47d0f26b"), looks := true }, kinds := [], alts := [], laidByText := true, laidKinds := [.handle], laidTests := true, laidLooks := .later }
def SummWritesUptoCardSaid : Prop := Claim7.holds Tryz.pinned (.plain (OpenSpec.upto summWritesSpec)) summWritesUptoCard

/-- THE SECOND FORM's CARD OF 'hyglaw15.SummSame'. -/
def summSameUptoCard : Claim7 := { stood := { row := summSameUptoRow, standIns := [], harness := (true, "dd68cc0a30c848cfe6eb408b624e3d1b7c9c98365fe2f8d2975a697a47d0f26b"), looks := true }, kinds := [], alts := [], laidByText := true, laidKinds := [.handle], laidTests := true, laidLooks := .later }
def SummSameUptoCardSaid : Prop := Claim7.holds Tryz.pinned (.plain (OpenSpec.upto summSameSpec)) summSameUptoCard

/-- THE SECOND FORM's CARD OF 'hyglaw15.SummBack'. -/
def summBackUptoCard : Claim7 := { stood := { row := summBackUptoRow, standIns := [], harness := (true, "dd68cc0a30c848cfe6eb408b624e3d1b7c9c98365fe2f8d2975a697a47d0f26b"), looks := true }, kinds := [], alts := [], laidByText := true, laidKinds := [.handle], laidTests := true, laidLooks := .later }
def SummBackUptoCardSaid : Prop := Claim7.holds Tryz.pinned (.plain (OpenSpec.upto summBackSpec)) summBackUptoCard

/-- THE SECOND FORM's CARD OF 'hyglaw15.SummTwice'. -/
def summTwiceUptoCard : Claim7 := { stood := { row := summTwiceUptoRow, standIns := [], harness := (true, "dd68cc0a30c848cfe6eb408b624e3d1b7c9c98365fe2f8d2975a697a47d0f26b"), looks := true }, kinds := [], alts := [], laidByText := true, laidKinds := [.handle], laidTests := true, laidLooks := .later }
def SummTwiceUptoCardSaid : Prop := Claim7.holds Tryz.pinned (.plain (OpenSpec.upto summTwiceSpec)) summTwiceUptoCard

/-- THE SECOND FORM's CARD OF 'hyglaw15.SummJoins'. -/
def summJoinsUptoCard : Claim7 := { stood := { row := summJoinsUptoRow, standIns := [], harness := (true, "dd68cc0a30c848cfe6eb408b624e3d1b7c9c98365fe2f8d2975a697a47d0f26b"), looks := true }, kinds := [], alts := [], laidByText := true, laidKinds := [.handle], laidTests := true, laidLooks := .later }
def SummJoinsUptoCardSaid : Prop := Claim7.holds Tryz.pinned (.plain (OpenSpec.upto summJoinsSpec)) summJoinsUptoCard

/-- THE SECOND FORM's CARD OF 'hyglaw15.SummOthers'. -/
def summOthersUptoCard : Claim7 := { stood := { row := summOthersUptoRow, standIns := [], harness := (true, "dd68cc0a30c848cfe6eb408b624e3d1b7c9c98365fe2f8d2975a697a47d0f26b"), looks := true }, kinds := [], alts := [], laidByText := true, laidKinds := [.handle], laidTests := true, laidLooks := .later }
def SummOthersUptoCardSaid : Prop := Claim7.holds Tryz.pinned (.plain (OpenSpec.upto summOthersSpec)) summOthersUptoCard

/-- THE SECOND FORM's CARD OF 'hyglaw15.SummDeep'. -/
def summDeepUptoCard : Claim7 := { stood := { row := summDeepUptoRow, standIns := [], harness := (true, "dd68cc0a30c848cfe6eb408b624e3d1b7c9c98365fe2f8d2975a697a47d0f26b"), looks := true }, kinds := [], alts := [], laidByText := true, laidKinds := [.handle], laidTests := true, laidLooks := .later }
def SummDeepUptoCardSaid : Prop := Claim7.holds Tryz.pinned (.plain (OpenSpec.upto summDeepSpec)) summDeepUptoCard
end Rows
end Go.Proofs.YthpngihcjbmmkaaGreatDoor
