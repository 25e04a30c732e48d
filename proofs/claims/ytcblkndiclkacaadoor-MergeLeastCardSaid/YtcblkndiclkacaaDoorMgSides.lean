/-
  MgStepM, MgSides
-/
import Derived.Test.YtcblkndiclkacaaDoorFrN
import Derived.Test.YtcblkndiclkacaaDoorMgPlaces
import Derived.Test.YtcblkndiclkacaaDoorMgTrim
import Derived.Test.YtcblkndiclkacaaDoorMgFirst
namespace Go.Proofs.YtcblkndiclkacaaDoor
open Go.RowKit
def CodeV (w:World) (v:Value) (c:Nat):Prop:=(c=0∧v = .nilIface)∨EC w v c
open Go.RowKit
def sumN (F:Nat→Nat):Nat→Nat
 | 0=>0
 | n+1=>sumN F n+F n
theorem sumN_add (F G:Nat→Nat) (n:Nat):sumN (fun j=>F j+G j) n=sumN F n+sumN G n:=by
 induction n with
 | zero=>rfl
 | succ n ih=>simp only[sumN,ih];omega
theorem sumN_congr {F G:Nat→Nat} {n:Nat} (h:∀ j,j<n→F j=G j):sumN F n=sumN G n:=by
 induction n with
 | zero=>rfl
 | succ n ih=>simp only[sumN];rw[ih fun j hj=>h j (by omega),h n (by omega)]
open Go.RowKit
theorem codev_any {w:World} {v:Value} {c:Nat} (h:CodeV w v c) (hg:Glob w) :
  Calls Tryd.prog 16 #[v] w fun e w'=>e = .returned (.int .i64 (c:Int))∧Below w.heap.size w w':=by
 rcases h with ⟨rfl,rfl⟩|⟨ws,hws⟩
 ·exact (code_nil w).mono fun e w' h=>⟨h.1,h.2 ▸ Below.refl _ w⟩
 ·exact (code_any ws _ _ w hws (root_code c) hg).mono fun e w' h=>⟨h.1,h.2⟩
end Go.Proofs.YtcblkndiclkacaaDoor
