/-
  hyglaw25.MergeSides.
-/
import Derived.Test.YtcblkndiclkacaaDoorMgFirst
import Derived.Test.YtcblkndiclkacaaDoorMgUni
namespace Go.Proofs.YtcblkndiclkacaaDoor
open Go.RowKit
theorem codev_any {w:World} {v:Value} {c:Nat} (h:CodeV w v c) (hg:Glob w) :
  Calls Tryd.prog 16 #[v] w fun e w'=>e = .returned (.int .i64 (c:Int))∧Below w.heap.size w w':=by
 rcases h with ⟨rfl,rfl⟩|⟨ws,hws⟩
 ·exact (code_nil w).mono fun e w' h=>⟨h.1,h.2 ▸ Below.refl _ w⟩
 ·exact (code_any ws _ _ w hws (root_code c) hg).mono fun e w' h=>⟨h.1,h.2⟩
end Go.Proofs.YtcblkndiclkacaaDoor
