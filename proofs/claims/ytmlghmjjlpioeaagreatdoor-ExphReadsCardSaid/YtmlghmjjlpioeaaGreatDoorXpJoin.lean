/-
  A point of an exponential histogram: one behind the other, read.
-/
import Derived.Test.YtmlghmjjlpioeaaGreatDoorXpUn
namespace Go.Proofs.YtmlghmjjlpioeaaGreatDoor
open Go.RowKit
open Lib (hid)
theorem ke {w:World}{g:Nat}{c0 c1 c2 c3 c4 c5 c6 c7 c8 c9 c10 c11 c12 c13 c14 c15 c16 c17 c18 c19 c20 c21 c22 c23:Value}{T:TypeId}{fr:Nat × Nat}(h:w.heap[g]?=some (.cells #[c0,c1,c2,c3,c4,c5,c6,c7,c8,c9,c10,c11,c12,c13,c14,c15,c16,c17,c18,c19,c20,c21,c22,c23] T fr)):w.cell? ⟨g,0,none⟩=some c0/\w.cell? ⟨g,1,none⟩=some c1/\w.cell? ⟨g,2,none⟩=some c2/\w.cell? ⟨g,3,none⟩=some c3/\w.cell? ⟨g,4,none⟩=some c4/\w.cell? ⟨g,5,none⟩=some c5/\w.cell? ⟨g,6,none⟩=some c6/\w.cell? ⟨g,7,none⟩=some c7/\w.cell? ⟨g,8,none⟩=some c8/\w.cell? ⟨g,9,none⟩=some c9/\w.cell? ⟨g,10,none⟩=some c10/\w.cell? ⟨g,11,none⟩=some c11/\w.cell? ⟨g,12,none⟩=some c12/\w.cell? ⟨g,13,none⟩=some c13/\w.cell? ⟨g,14,none⟩=some c14/\w.cell? ⟨g,15,none⟩=some c15/\w.cell? ⟨g,16,none⟩=some c16/\w.cell? ⟨g,17,none⟩=some c17/\w.cell? ⟨g,18,none⟩=some c18/\w.cell? ⟨g,19,none⟩=some c19/\w.cell? ⟨g,20,none⟩=some c20/\w.cell? ⟨g,21,none⟩=some c21/\w.cell? ⟨g,22,none⟩=some c22/\w.cell? ⟨g,23,none⟩=some c23:=⟨za h (j:=0) rfl,za h (j:=1) rfl,za h (j:=2) rfl,za h (j:=3) rfl,za h (j:=4) rfl,za h (j:=5) rfl,za h (j:=6) rfl,za h (j:=7) rfl,za h (j:=8) rfl,za h (j:=9) rfl,za h (j:=10) rfl,za h (j:=11) rfl,za h (j:=12) rfl,za h (j:=13) rfl,za h (j:=14) rfl,za h (j:=15) rfl,za h (j:=16) rfl,za h (j:=17) rfl,za h (j:=18) rfl,za h (j:=19) rfl,za h (j:=20) rfl,za h (j:=21) rfl,za h (j:=22) rfl,za h (j:=23) rfl⟩
end Go.Proofs.YtmlghmjjlpioeaaGreatDoor
