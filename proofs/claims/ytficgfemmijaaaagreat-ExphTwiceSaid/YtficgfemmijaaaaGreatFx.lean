/-
  A value and an attribute beside each other: the rows of a law's two arguments.
-/
import Derived.Test.YtficgfemmijaaaaGreatAlikeB
import Derived.Test.YtficgfemmijaaaaGreatMsgRead
namespace Go.Proofs.YtficgfemmijaaaaGreat
open Go.RowKit
open Lib (hid)
open Go.RowKit
structure Fx (A:World→Prop) (w:World):Prop where
 is:A w
 st:∀ w1 w2,A w1→Below w1.heap.size w1 w2→A w2
theorem Fx.nil (w:World):Fx (fun _=>True) w:=⟨trivial,fun _ _ _ _=>trivial⟩
theorem Fx.below {A:World→Prop}{w w':World}(h:Fx A w)(hb:Below w.heap.size w w'):Fx A w':=⟨h.st _ _ h.is hb,h.st⟩
theorem Fx.add {A B:World→Prop}{w:World}(h:Fx A w)(hb:B w)(hs:∀ w1 w2,B w1→Below w1.heap.size w1 w2→B w2):Fx (fun w=>B w∧A w) w:=⟨⟨hb,h.is⟩,fun _ _ h1 h2=>⟨hs _ _ h1.1 h2,h.st _ _ h1.2 h2⟩⟩
theorem Fx.base {A:World→Prop}{w w0:World}(h:Fx A w)(hb:Below w0.heap.size w0 w):Fx (fun w=>Below w0.heap.size w0 w∧A w) w:=h.add (B:=fun w=>Below w0.heap.size w0 w) hb fun _ _ h1 h2=>below_step h1 h2
theorem Fx.row {A:World→Prop}{w:World}{g:Nat}{c:Array Value}{T:TypeId}(h:Fx A w)(hb:w.heap[g]? = some (.cells c T (0,0))):Fx (fun w=>w.heap[g]? = some (.cells c T (0,0))∧A w) w:=h.add (B:=fun w=>w.heap[g]? = some (.cells c T (0,0))) hb fun _ _ h1 h2=>(h2.block _ (row_lt h1)).trans h1
theorem row11 {w:World}{g:Nat}{c0 c1 c2 c3 c4 c5 c6 c7 c8 c9 c10:Value}{T:TypeId}{fr:Nat × Nat}(h:w.heap[g]? = some (.cells #[c0,c1,c2,c3,c4,c5,c6,c7,c8,c9,c10] T fr)):w.cell? ⟨g,0,none⟩=some c0∧w.cell? ⟨g,1,none⟩=some c1∧w.cell? ⟨g,2,none⟩=some c2∧w.cell? ⟨g,3,none⟩=some c3∧w.cell? ⟨g,4,none⟩=some c4∧w.cell? ⟨g,5,none⟩=some c5∧w.cell? ⟨g,6,none⟩=some c6∧w.cell? ⟨g,7,none⟩=some c7∧w.cell? ⟨g,8,none⟩=some c8∧w.cell? ⟨g,9,none⟩=some c9∧w.cell? ⟨g,10,none⟩=some c10:=⟨row_cell h (j:=0) rfl,row_cell h (j:=1) rfl,row_cell h (j:=2) rfl,row_cell h (j:=3) rfl,row_cell h (j:=4) rfl,row_cell h (j:=5) rfl,row_cell h (j:=6) rfl,row_cell h (j:=7) rfl,row_cell h (j:=8) rfl,row_cell h (j:=9) rfl,row_cell h (j:=10) rfl⟩
def R2 (g1:Nat)(c1:Array Value)(T1:TypeId)(g2:Nat)(c2:Array Value)(T2:TypeId)(w:World):Prop:=w.heap[g1]? = some (.cells c1 T1 (0,0))∧w.heap[g2]? = some (.cells c2 T2 (0,0))
theorem R2.below {g1 g2:Nat}{c1 c2:Array Value}{T1 T2:TypeId}{w w':World}(h:R2 g1 c1 T1 g2 c2 T2 w)(hb:Below w.heap.size w w'):R2 g1 c1 T1 g2 c2 T2 w':=⟨(hb.block _ (row_lt h.1)).trans h.1,(hb.block _ (row_lt h.2)).trans h.2⟩
theorem Fx.cel {A:World→Prop}{w:World}{α:Type}{C:Cel α}{P:Nat→Prop}{x:α}{c:List Value}(h:Fx A w)(hb:C.R w P x c):Fx (fun w=>C.R w P x c∧A w) w:=h.add (B:=fun w=>C.R w P x c) hb fun _ _ h1 h2=>C.upd (Upd.of_new (S:=fun _=>False) h2) (fun _ _ h=>h) (fun _ h=>h) h1
theorem row5 {w:World}{g:Nat}{c0 c1 c2 c3 c4:Value}{T:TypeId}{fr:Nat × Nat}(h:w.heap[g]? = some (.cells #[c0,c1,c2,c3,c4] T fr)):w.cell? ⟨g,0,none⟩=some c0∧w.cell? ⟨g,1,none⟩=some c1∧w.cell? ⟨g,2,none⟩=some c2∧w.cell? ⟨g,3,none⟩=some c3∧w.cell? ⟨g,4,none⟩=some c4:=⟨row_cell h (j:=0) rfl,row_cell h (j:=1) rfl,row_cell h (j:=2) rfl,row_cell h (j:=3) rfl,row_cell h (j:=4) rfl⟩
end Go.Proofs.YtficgfemmijaaaaGreat
