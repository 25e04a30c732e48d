/-
  hygref25.sum, places: the places of a side, shifted.
-/
import Derived.Test.YtcblkndiclkacaaDoorMgTrim
namespace Go.Proofs.YtcblkndiclkacaaDoor
open Go.RowKit
theorem own_mono9 {w:World} {b b':Nat} {e:TypeId} {size:Nat} {v:Value} {n:Nat} {xs:List Value} (h:w.ownsRow b e size v n xs) (hb:b'≤b):w.ownsRow b' e size v n xs :=
 ⟨h.1,h.2.imp_right fun ⟨g,cap,cur,h1,h2,h3⟩=>⟨g,cap,cur,h1,Nat.le_trans hb h2,h3⟩⟩
end Go.Proofs.YtcblkndiclkacaaDoor
