/-
  CkTot, XpJoin
-/
import Derived.Test.YtcblkndiclkacaaDoorNumsK
import Derived.Test.YtcblkndiclkacaaDoorKit
import Derived.Test.YtcblkndiclkacaaDoorFmC
import Derived.Deep.LoopGhost
import Derived.Lib.MinMax
import Derived.Test.YtcblkndiclkacaaDoorXpUn
import Derived.Test.YtcblkndiclkacaaDoorAlikeB
import Derived.Test.YtcblkndiclkacaaDoorMsgRead
namespace Go.Proofs.YtcblkndiclkacaaDoor
open Go.RowKit
def Lists (w:World) (ao:Option Addr) (ls:List (List Nat)):Prop:=∀ j (h:j<ls.length),∃ g off bo cap,ao=some ⟨g,off,none⟩∧w.cell? ⟨g,off+j,none⟩=some (.slice bo ls[j].length cap)∧Nats .u64 w bo ls[j]
open Go.RowKit
theorem row24 {w:World} {g:Nat} {c0 c1 c2 c3 c4 c5 c6 c7 c8 c9 c10 c11 c12 c13 c14 c15 c16 c17 c18 c19 c20 c21 c22 c23:Value} {T:TypeId} {fr:Nat × Nat} (h:w.heap[g]? = some (.cells #[c0,c1,c2,c3,c4,c5,c6,c7,c8,c9,c10,c11,c12,c13,c14,c15,c16,c17,c18,c19,c20,c21,c22,c23] T fr)):w.cell? ⟨g,0,none⟩=some c0∧w.cell? ⟨g,1,none⟩=some c1∧w.cell? ⟨g,2,none⟩=some c2∧w.cell? ⟨g,3,none⟩=some c3∧w.cell? ⟨g,4,none⟩=some c4∧w.cell? ⟨g,5,none⟩=some c5∧w.cell? ⟨g,6,none⟩=some c6∧w.cell? ⟨g,7,none⟩=some c7∧w.cell? ⟨g,8,none⟩=some c8∧w.cell? ⟨g,9,none⟩=some c9∧w.cell? ⟨g,10,none⟩=some c10∧w.cell? ⟨g,11,none⟩=some c11∧w.cell? ⟨g,12,none⟩=some c12∧w.cell? ⟨g,13,none⟩=some c13∧w.cell? ⟨g,14,none⟩=some c14∧w.cell? ⟨g,15,none⟩=some c15∧w.cell? ⟨g,16,none⟩=some c16∧w.cell? ⟨g,17,none⟩=some c17∧w.cell? ⟨g,18,none⟩=some c18∧w.cell? ⟨g,19,none⟩=some c19∧w.cell? ⟨g,20,none⟩=some c20∧w.cell? ⟨g,21,none⟩=some c21∧w.cell? ⟨g,22,none⟩=some c22∧w.cell? ⟨g,23,none⟩=some c23:=⟨row_cell h (j:=0) rfl,row_cell h (j:=1) rfl,row_cell h (j:=2) rfl,row_cell h (j:=3) rfl,row_cell h (j:=4) rfl,row_cell h (j:=5) rfl,row_cell h (j:=6) rfl,row_cell h (j:=7) rfl,row_cell h (j:=8) rfl,row_cell h (j:=9) rfl,row_cell h (j:=10) rfl,row_cell h (j:=11) rfl,row_cell h (j:=12) rfl,row_cell h (j:=13) rfl,row_cell h (j:=14) rfl,row_cell h (j:=15) rfl,row_cell h (j:=16) rfl,row_cell h (j:=17) rfl,row_cell h (j:=18) rfl,row_cell h (j:=19) rfl,row_cell h (j:=20) rfl,row_cell h (j:=21) rfl,row_cell h (j:=22) rfl,row_cell h (j:=23) rfl⟩
end Go.Proofs.YtcblkndiclkacaaDoor
