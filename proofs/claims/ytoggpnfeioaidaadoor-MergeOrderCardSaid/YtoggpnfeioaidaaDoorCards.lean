/-
  DERIVED. GIVEN WITH THE SEED: THE CARDS: each row of YtoggpnfeioaidaaDoorRows.lean that lists a variable, with what it lists TIED to the program's text (the seventh form; the later family's looks); each row that meets fmt, with fmt's text TOLD by the authors' own Lean function (tested against real Go, not proved from fmt's source: count such statements apart). THE CARD IS WHAT COUNTS. Prove the row's statement (the work); the ties are given (YtoggpnfeioaidaaDoorTie.lean); close each card by the builder's one call (the guide's Derived/Test/ToyasCard.lean, 'card_holds'). Laid BY PROGRAM, IN A SANDBOX (cutbox-door.mjs). By AI agents, Wed Nov 11 2026. No macro, syntax, notation, axiom, sorry.
-/
import Derived.Test.YtoggpnfeioaidaaDoorRows
import GoSem.ClaimSeven
namespace Go.Proofs.YtoggpnfeioaidaaDoor
namespace Rows

/-- THE TIED CARD OF 'hyglaw25.MergeTotals'. -/
def mergeTotalsCard : Claim7 := { stood := { row := mergeTotalsRow, standIns := [], harness := (true, "3d79f708c63bf8d230222c8000475495de7f4560ac9dcdbe7c6703e810404753"), looks := true }, kinds := [], alts := [], laidByText := true, laidKinds := [.handle, .sentinel], laidTests := true, laidLooks := .later }
def MergeTotalsCardSaid : Prop := Claim7.holds Tryd.pinned (.plain (OpenSpec.ofChange mergeTotalsSpec)) mergeTotalsCard

/-- THE TIED CARD OF 'hyglaw25.MergeOrder'. -/
def mergeOrderCard : Claim7 := { stood := { row := mergeOrderRow, standIns := [], harness := (true, "3d79f708c63bf8d230222c8000475495de7f4560ac9dcdbe7c6703e810404753"), looks := true }, kinds := [], alts := [], laidByText := true, laidKinds := [.handle, .sentinel], laidTests := true, laidLooks := .later }
def MergeOrderCardSaid : Prop := Claim7.holds Tryd.pinned (.plain (OpenSpec.ofChange mergeOrderSpec)) mergeOrderCard

/-- THE SECOND FORM's CARD OF 'hyglaw25.MergeTotals'. -/
def mergeTotalsUptoCard : Claim7 := { stood := { row := mergeTotalsUptoRow, standIns := [], harness := (true, "3d79f708c63bf8d230222c8000475495de7f4560ac9dcdbe7c6703e810404753"), looks := true }, kinds := [], alts := [], laidByText := true, laidKinds := [.handle, .sentinel], laidTests := true, laidLooks := .later }
def MergeTotalsUptoCardSaid : Prop := Claim7.holds Tryd.pinned (.plain (OpenSpec.upto mergeTotalsSpec)) mergeTotalsUptoCard

/-- THE SECOND FORM's CARD OF 'hyglaw25.MergeOrder'. -/
def mergeOrderUptoCard : Claim7 := { stood := { row := mergeOrderUptoRow, standIns := [], harness := (true, "3d79f708c63bf8d230222c8000475495de7f4560ac9dcdbe7c6703e810404753"), looks := true }, kinds := [], alts := [], laidByText := true, laidKinds := [.handle, .sentinel], laidTests := true, laidLooks := .later }
def MergeOrderUptoCardSaid : Prop := Claim7.holds Tryd.pinned (.plain (OpenSpec.upto mergeOrderSpec)) mergeOrderUptoCard
end Rows
end Go.Proofs.YtoggpnfeioaidaaDoor
