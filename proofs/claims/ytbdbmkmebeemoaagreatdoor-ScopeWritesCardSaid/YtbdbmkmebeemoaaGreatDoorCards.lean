/-
  DERIVED. GIVEN WITH THE SEED: THE CARDS: each row of YtbdbmkmebeemoaaGreatDoorRows.lean that lists a variable, with what it lists TIED to the program's text (the seventh form; the later family's looks); each row that meets fmt, with fmt's text TOLD by the authors' own Lean function (tested against real Go, not proved from fmt's source: count such statements apart). THE CARD IS WHAT COUNTS. Prove the row's statement (the work); the ties are given (YtbdbmkmebeemoaaGreatDoorTie.lean); close each card by the builder's one call (the guide's Derived/Test/ToyasCard.lean, 'card_holds'). Laid BY PROGRAM, IN A SANDBOX (cutbox-door.mjs). By AI agents, Wed Nov 11 2026. No macro, syntax, notation, axiom, sorry.
-/
import Derived.Test.YtbdbmkmebeemoaaGreatDoorRows
import GoSem.ClaimSeven
namespace Go.Proofs.YtbdbmkmebeemoaaGreatDoor
namespace Rows

/-- THE TIED CARD OF 'hyglaw10.ScopeReads'. -/
def scopeReadsCard : Claim7 := { stood := { row := scopeReadsRow, standIns := [], harness := (true, "91bd7428adfd9f6fc892a81f5fdd59435976dd75cf1818247cce09b4808cadf4"), looks := true }, kinds := [], alts := [], laidByText := true, laidKinds := [.handle], laidTests := true, laidLooks := .later }
def ScopeReadsCardSaid : Prop := Claim7.holds Tryz.pinned (.plain (OpenSpec.ofChange scopeReadsSpec)) scopeReadsCard

/-- THE TIED CARD OF 'hyglaw10.ScopeWrites'. -/
def scopeWritesCard : Claim7 := { stood := { row := scopeWritesRow, standIns := [], harness := (true, "91bd7428adfd9f6fc892a81f5fdd59435976dd75cf1818247cce09b4808cadf4"), looks := true }, kinds := [], alts := [], laidByText := true, laidKinds := [.handle], laidTests := true, laidLooks := .later }
def ScopeWritesCardSaid : Prop := Claim7.holds Tryz.pinned (.plain (OpenSpec.ofChange scopeWritesSpec)) scopeWritesCard

/-- THE TIED CARD OF 'hyglaw10.ResourceReads'. -/
def resourceReadsCard : Claim7 := { stood := { row := resourceReadsRow, standIns := [], harness := (true, "91bd7428adfd9f6fc892a81f5fdd59435976dd75cf1818247cce09b4808cadf4"), looks := true }, kinds := [], alts := [], laidByText := true, laidKinds := [.handle], laidTests := true, laidLooks := .later }
def ResourceReadsCardSaid : Prop := Claim7.holds Tryz.pinned (.plain (OpenSpec.ofChange resourceReadsSpec)) resourceReadsCard

/-- THE TIED CARD OF 'hyglaw10.ResourceWrites'. -/
def resourceWritesCard : Claim7 := { stood := { row := resourceWritesRow, standIns := [], harness := (true, "91bd7428adfd9f6fc892a81f5fdd59435976dd75cf1818247cce09b4808cadf4"), looks := true }, kinds := [], alts := [], laidByText := true, laidKinds := [.handle], laidTests := true, laidLooks := .later }
def ResourceWritesCardSaid : Prop := Claim7.holds Tryz.pinned (.plain (OpenSpec.ofChange resourceWritesSpec)) resourceWritesCard

/-- THE TIED CARD OF 'hyglaw10.ScopeDeep'. -/
def scopeDeepCard : Claim7 := { stood := { row := scopeDeepRow, standIns := [], harness := (true, "91bd7428adfd9f6fc892a81f5fdd59435976dd75cf1818247cce09b4808cadf4"), looks := true }, kinds := [], alts := [], laidByText := true, laidKinds := [.handle], laidTests := true, laidLooks := .later }
def ScopeDeepCardSaid : Prop := Claim7.holds Tryz.pinned (.plain (OpenSpec.ofChange scopeDeepSpec)) scopeDeepCard

/-- THE TIED CARD OF 'hyglaw10.ResourceDeep'. -/
def resourceDeepCard : Claim7 := { stood := { row := resourceDeepRow, standIns := [], harness := (true, "91bd7428adfd9f6fc892a81f5fdd59435976dd75cf1818247cce09b4808cadf4"), looks := true }, kinds := [], alts := [], laidByText := true, laidKinds := [.handle], laidTests := true, laidLooks := .later }
def ResourceDeepCardSaid : Prop := Claim7.holds Tryz.pinned (.plain (OpenSpec.ofChange resourceDeepSpec)) resourceDeepCard

/-- THE SECOND FORM's CARD OF 'hyglaw10.ScopeReads'. -/
def scopeReadsUptoCard : Claim7 := { stood := { row := scopeReadsUptoRow, standIns := [], harness := (true, "91bd7428adfd9f6fc892a81f5fdd59435976dd75cf1818247cce09b4808cadf4"), looks := true }, kinds := [], alts := [], laidByText := true, laidKinds := [.handle], laidTests := true, laidLooks := .later }
def ScopeReadsUptoCardSaid : Prop := Claim7.holds Tryz.pinned (.plain (OpenSpec.upto scopeReadsSpec)) scopeReadsUptoCard

/-- THE SECOND FORM's CARD OF 'hyglaw10.ScopeWrites'. -/
def scopeWritesUptoCard : Claim7 := { stood := { row := scopeWritesUptoRow, standIns := [], harness := (true, "91bd7428adfd9f6fc892a81f5fdd59435976dd75cf1818247cce09b4808cadf4"), looks := true }, kinds := [], alts := [], laidByText := true, laidKinds := [.handle], laidTests := true, laidLooks := .later }
def ScopeWritesUptoCardSaid : Prop := Claim7.holds Tryz.pinned (.plain (OpenSpec.upto scopeWritesSpec)) scopeWritesUptoCard

/-- THE SECOND FORM's CARD OF 'hyglaw10.ResourceReads'. -/
def resourceReadsUptoCard : Claim7 := { stood := { row := resourceReadsUptoRow, standIns := [], harness := (true, "91bd7428adfd9f6fc892a81f5fdd59435976dd75cf1818247cce09b4808cadf4"), looks := true }, kinds := [], alts := [], laidByText := true, laidKinds := [.handle], laidTests := true, laidLooks := .later }
def ResourceReadsUptoCardSaid : Prop := Claim7.holds Tryz.pinned (.plain (OpenSpec.upto resourceReadsSpec)) resourceReadsUptoCard

/-- THE SECOND FORM's CARD OF 'hyglaw10.ResourceWrites'. -/
def resourceWritesUptoCard : Claim7 := { stood := { row := resourceWritesUptoRow, standIns := [], harness := (true, "91bd7428adfd9f6fc892a81f5fdd59435976dd75cf1818247cce09b4808cadf4"), looks := true }, kinds := [], alts := [], laidByText := true, laidKinds := [.handle], laidTests := true, laidLooks := .later }
def ResourceWritesUptoCardSaid : Prop := Claim7.holds Tryz.pinned (.plain (OpenSpec.upto resourceWritesSpec)) resourceWritesUptoCard

/-- THE SECOND FORM's CARD OF 'hyglaw10.ScopeDeep'. -/
def scopeDeepUptoCard : Claim7 := { stood := { row := scopeDeepUptoRow, standIns := [], harness := (true, "91bd7428adfd9f6fc892a81f5fdd59435976dd75cf1818247cce09b4808cadf4"), looks := true }, kinds := [], alts := [], laidByText := true, laidKinds := [.handle], laidTests := true, laidLooks := .later }
def ScopeDeepUptoCardSaid : Prop := Claim7.holds Tryz.pinned (.plain (OpenSpec.upto scopeDeepSpec)) scopeDeepUptoCard

/-- THE SECOND FORM's CARD OF 'hyglaw10.ResourceDeep'. -/
def resourceDeepUptoCard : Claim7 := { stood := { row := resourceDeepUptoRow, standIns := [], harness := (true, "91bd7428adfd9f6fc892a81f5fdd59435976dd75cf1818247cce09b4808cadf4"), looks := true }, kinds := [], alts := [], laidByText := true, laidKinds := [.handle], laidTests := true, laidLooks := .later }
def ResourceDeepUptoCardSaid : Prop := Claim7.holds Tryz.pinned (.plain (OpenSpec.upto resourceDeepSpec)) resourceDeepUptoCard
end Rows
end Go.Proofs.YtbdbmkmebeemoaaGreatDoor
