/-
  DERIVED. GIVEN WITH THE SEED: THE CARDS: each row of YtandoppfbilhbaaGreatDoorRows.lean that lists a variable, with what it lists TIED to the program's text (the seventh form; the later family's looks); each row that meets fmt, with fmt's text TOLD by the authors' own Lean function (tested against real Go, not proved from fmt's source: count such statements apart). THE CARD IS WHAT COUNTS. Prove the row's statement (the work); the ties are given (YtandoppfbilhbaaGreatDoorTie.lean); close each card by the builder's one call (the guide's Derived/Test/ToyasCard.lean, 'card_holds'). Laid BY PROGRAM, IN A SANDBOX (cutbox-door.mjs). By AI agents, Wed Nov 11 2026. No macro, syntax, notation, axiom, sorry.
-/
import Derived.Test.YtandoppfbilhbaaGreatDoorRows
import GoSem.ClaimSeven
namespace Go.Proofs.YtandoppfbilhbaaGreatDoor
namespace Rows

/-- THE TIED CARD OF 'hyglaw11.ExemReads'. -/
def exemReadsCard : Claim7 := { stood := { row := exemReadsRow, standIns := [], harness := (true, "48fefb7d9928b68820476892cd6102be91f22807b15d84ae4e81ff654010ae5a"), looks := true }, kinds := [], alts := [], laidByText := true, laidKinds := [.handle], laidTests := true, laidLooks := .later }
def ExemReadsCardSaid : Prop := Claim7.holds Tryz.pinned (.plain (OpenSpec.ofChange exemReadsSpec)) exemReadsCard

/-- THE TIED CARD OF 'hyglaw11.ExemWrites'. -/
def exemWritesCard : Claim7 := { stood := { row := exemWritesRow, standIns := [], harness := (true, "48fefb7d9928b68820476892cd6102be91f22807b15d84ae4e81ff654010ae5a"), looks := true }, kinds := [], alts := [], laidByText := true, laidKinds := [.handle], laidTests := true, laidLooks := .later }
def ExemWritesCardSaid : Prop := Claim7.holds Tryz.pinned (.plain (OpenSpec.ofChange exemWritesSpec)) exemWritesCard

/-- THE TIED CARD OF 'hyglaw11.ExemSame'. -/
def exemSameCard : Claim7 := { stood := { row := exemSameRow, standIns := [], harness := (true, "48fefb7d9928b68820476892cd6102be91f22807b15d84ae4e81ff654010ae5a"), looks := true }, kinds := [], alts := [], laidByText := true, laidKinds := [.handle], laidTests := true, laidLooks := .later }
def ExemSameCardSaid : Prop := Claim7.holds Tryz.pinned (.plain (OpenSpec.ofChange exemSameSpec)) exemSameCard

/-- THE TIED CARD OF 'hyglaw11.ExemBack'. -/
def exemBackCard : Claim7 := { stood := { row := exemBackRow, standIns := [], harness := (true, "48fefb7d9928b68820476892cd6102be91f22807b15d84ae4e81ff654010ae5a"), looks := true }, kinds := [], alts := [], laidByText := true, laidKinds := [.handle], laidTests := true, laidLooks := .later }
def ExemBackCardSaid : Prop := Claim7.holds Tryz.pinned (.plain (OpenSpec.ofChange exemBackSpec)) exemBackCard

/-- THE TIED CARD OF 'hyglaw11.ExemTwice'. -/
def exemTwiceCard : Claim7 := { stood := { row := exemTwiceRow, standIns := [], harness := (true, "48fefb7d9928b68820476892cd6102be91f22807b15d84ae4e81ff654010ae5a"), looks := true }, kinds := [], alts := [], laidByText := true, laidKinds := [.handle], laidTests := true, laidLooks := .later }
def ExemTwiceCardSaid : Prop := Claim7.holds Tryz.pinned (.plain (OpenSpec.ofChange exemTwiceSpec)) exemTwiceCard

/-- THE TIED CARD OF 'hyglaw11.ExemJoins'. -/
def exemJoinsCard : Claim7 := { stood := { row := exemJoinsRow, standIns := [], harness := (true, "48fefb7d9928b68820476892cd6102be91f22807b15d84ae4e81ff654010ae5a"), looks := true }, kinds := [], alts := [], laidByText := true, laidKinds := [.handle], laidTests := true, laidLooks := .later }
def ExemJoinsCardSaid : Prop := Claim7.holds Tryz.pinned (.plain (OpenSpec.ofChange exemJoinsSpec)) exemJoinsCard

/-- THE TIED CARD OF 'hyglaw11.ExemOthers'. -/
def exemOthersCard : Claim7 := { stood := { row := exemOthersRow, standIns := [], harness := (true, "48fefb7d9928b68820476892cd6102be91f22807b15d84ae4e81ff654010ae5a"), looks := true }, kinds := [], alts := [], laidByText := true, laidKinds := [.handle], laidTests := true, laidLooks := .later }
def ExemOthersCardSaid : Prop := Claim7.holds Tryz.pinned (.plain (OpenSpec.ofChange exemOthersSpec)) exemOthersCard

/-- THE TIED CARD OF 'hyglaw11.ExemDeep'. -/
def exemDeepCard : Claim7 := { stood := { row := exemDeepRow, standIns := [], harness := (true, "48fefb7d9928b68820476892cd6102be91f22807b15d84ae4e81ff654010ae5a"), looks := true }, kinds := [], alts := [], laidByText := true, laidKinds := [.handle], laidTests := true, laidLooks := .later }
def ExemDeepCardSaid : Prop := Claim7.holds Tryz.pinned (.plain (OpenSpec.ofChange exemDeepSpec)) exemDeepCard

/-- THE TIED CARD OF 'hyglaw12.NumberReads'. -/
def numberReadsCard : Claim7 := { stood := { row := numberReadsRow, standIns := [], harness := (true, "48fefb7d9928b68820476892cd6102be91f22807b15d84ae4e81ff654010ae5a"), looks := true }, kinds := [], alts := [], laidByText := true, laidKinds := [.handle], laidTests := true, laidLooks := .later }
def NumberReadsCardSaid : Prop := Claim7.holds Tryz.pinned (.plain (OpenSpec.ofChange numberReadsSpec)) numberReadsCard

/-- THE TIED CARD OF 'hyglaw12.NumberWrites'. -/
def numberWritesCard : Claim7 := { stood := { row := numberWritesRow, standIns := [], harness := (true, "48fefb7d9928b68820476892cd6102be91f22807b15d84ae4e81ff654010ae5a"), looks := true }, kinds := [], alts := [], laidByText := true, laidKinds := [.handle], laidTests := true, laidLooks := .later }
def NumberWritesCardSaid : Prop := Claim7.holds Tryz.pinned (.plain (OpenSpec.ofChange numberWritesSpec)) numberWritesCard

/-- THE TIED CARD OF 'hyglaw12.NumberDeep'. -/
def numberDeepCard : Claim7 := { stood := { row := numberDeepRow, standIns := [], harness := (true, "48fefb7d9928b68820476892cd6102be91f22807b15d84ae4e81ff654010ae5a"), looks := true }, kinds := [], alts := [], laidByText := true, laidKinds := [.handle], laidTests := true, laidLooks := .later }
def NumberDeepCardSaid : Prop := Claim7.holds Tryz.pinned (.plain (OpenSpec.ofChange numberDeepSpec)) numberDeepCard

/-- THE SECOND FORM's CARD OF 'hyglaw11.ExemReads'. -/
def exemReadsUptoCard : Claim7 := { stood := { row := exemReadsUptoRow, standIns := [], harness := (true, "48fefb7d9928b68820476892cd6102be91f22807b15d84ae4e81ff654010ae5a"), looks := true }, kinds := [], alts := [], laidByText := true, laidKinds := [.handle], laidTests := true, laidLooks := .later }
def ExemReadsUptoCardSaid : Prop := Claim7.holds Tryz.pinned (.plain (OpenSpec.upto exemReadsSpec)) exemReadsUptoCard

/-- THE SECOND FORM's CARD OF 'hyglaw11.ExemWrites'. -/
def exemWritesUptoCard : Claim7 := { stood := { row := exemWritesUptoRow, standIns := [], harness := (true, "48fefb7d9928b68820476892cd6102be91f22807b15d84ae4e81ff654010ae5a"), looks := true }, kinds := [], alts := [], laidByText := true, laidKinds := [.handle], laidTests := true, laidLooks := .later }
def ExemWritesUptoCardSaid : Prop := Claim7.holds Tryz.pinned (.plain (OpenSpec.upto exemWritesSpec)) exemWritesUptoCard

/-- THE SECOND FORM's CARD OF 'hyglaw11.ExemSame'. -/
def exemSameUptoCard : Claim7 := { stood := { row := exemSameUptoRow, standIns := [], harness := (true, "48fefb7d9928b68820476892cd6102be91f22807b15d84ae4e81ff654010ae5a"), looks := true }, kinds := [], alts := [], laidByText := true, laidKinds := [.handle], laidTests := true, laidLooks := .later }
def ExemSameUptoCardSaid : Prop := Claim7.holds Tryz.pinned (.plain (OpenSpec.upto exemSameSpec)) exemSameUptoCard

/-- THE SECOND FORM's CARD OF 'hyglaw11.ExemBack'. -/
def exemBackUptoCard : Claim7 := { stood := { row := exemBackUptoRow, standIns := [], harness := (true, "48fefb7d9928b68820476892cd6102be91f22807b15d84ae4e81ff654010ae5a"), looks := true }, kinds := [], alts := [], laidByText := true, laidKinds := [.handle], laidTests := true, laidLooks := .later }
def ExemBackUptoCardSaid : Prop := Claim7.holds Tryz.pinned (.plain (OpenSpec.upto exemBackSpec)) exemBackUptoCard

/-- THE SECOND FORM's CARD OF 'hyglaw11.ExemTwice'. -/
def exemTwiceUptoCard : Claim7 := { stood := { row := exemTwiceUptoRow, standIns := [], harness := (true, "48fefb7d9928b68820476892cd6102be91f22807b15d84ae4e81ff654010ae5a"), looks := true }, kinds := [], alts := [], laidByText := true, laidKinds := [.handle], laidTests := true, laidLooks := .later }
def ExemTwiceUptoCardSaid : Prop := Claim7.holds Tryz.pinned (.plain (OpenSpec.upto exemTwiceSpec)) exemTwiceUptoCard

/-- THE SECOND FORM's CARD OF 'hyglaw11.ExemJoins'. -/
def exemJoinsUptoCard : Claim7 := { stood := { row := exemJoinsUptoRow, standIns := [], harness := (true, "48fefb7d9928b68820476892cd6102be91f22807b15d84ae4e81ff654010ae5a"), looks := true }, kinds := [], alts := [], laidByText := true, laidKinds := [.handle], laidTests := true, laidLooks := .later }
def ExemJoinsUptoCardSaid : Prop := Claim7.holds Tryz.pinned (.plain (OpenSpec.upto exemJoinsSpec)) exemJoinsUptoCard

/-- THE SECOND FORM's CARD OF 'hyglaw11.ExemOthers'. -/
def exemOthersUptoCard : Claim7 := { stood := { row := exemOthersUptoRow, standIns := [], harness := (true, "48fefb7d9928b68820476892cd6102be91f22807b15d84ae4e81ff654010ae5a"), looks := true }, kinds := [], alts := [], laidByText := true, laidKinds := [.handle], laidTests := true, laidLooks := .later }
def ExemOthersUptoCardSaid : Prop := Claim7.holds Tryz.pinned (.plain (OpenSpec.upto exemOthersSpec)) exemOthersUptoCard

/-- THE SECOND FORM's CARD OF 'hyglaw11.ExemDeep'. -/
def exemDeepUptoCard : Claim7 := { stood := { row := exemDeepUptoRow, standIns := [], harness := (true, "48fefb7d9928b68820476892cd6102be91f22807b15d84ae4e81ff654010ae5a"), looks := true }, kinds := [], alts := [], laidByText := true, laidKinds := [.handle], laidTests := true, laidLooks := .later }
def ExemDeepUptoCardSaid : Prop := Claim7.holds Tryz.pinned (.plain (OpenSpec.upto exemDeepSpec)) exemDeepUptoCard

/-- THE SECOND FORM's CARD OF 'hyglaw12.NumberReads'. -/
def numberReadsUptoCard : Claim7 := { stood := { row := numberReadsUptoRow, standIns := [], harness := (true, "48fefb7d9928b68820476892cd6102be91f22807b15d84ae4e81ff654010ae5a"), looks := true }, kinds := [], alts := [], laidByText := true, laidKinds := [.handle], laidTests := true, laidLooks := .later }
def NumberReadsUptoCardSaid : Prop := Claim7.holds Tryz.pinned (.plain (OpenSpec.upto numberReadsSpec)) numberReadsUptoCard

/-- THE SECOND FORM's CARD OF 'hyglaw12.NumberWrites'. -/
def numberWritesUptoCard : Claim7 := { stood := { row := numberWritesUptoRow, standIns := [], harness := (true, "48fefb7d9928b68820476892cd6102be91f22807b15d84ae4e81ff654010ae5a"), looks := true }, kinds := [], alts := [], laidByText := true, laidKinds := [.handle], laidTests := true, laidLooks := .later }
def NumberWritesUptoCardSaid : Prop := Claim7.holds Tryz.pinned (.plain (OpenSpec.upto numberWritesSpec)) numberWritesUptoCard

/-- THE SECOND FORM's CARD OF 'hyglaw12.NumberDeep'. -/
def numberDeepUptoCard : Claim7 := { stood := { row := numberDeepUptoRow, standIns := [], harness := (true, "48fefb7d9928b68820476892cd6102be91f22807b15d84ae4e81ff654010ae5a"), looks := true }, kinds := [], alts := [], laidByText := true, laidKinds := [.handle], laidTests := true, laidLooks := .later }
def NumberDeepUptoCardSaid : Prop := Claim7.holds Tryz.pinned (.plain (OpenSpec.upto numberDeepSpec)) numberDeepUptoCard
end Rows
end Go.Proofs.YtandoppfbilhbaaGreatDoor
