/-
  Trimmed: what add answers of one part that is not shifted.
-/
import Derived.Test.YtcblkndiclkacaaDoorMgTrim
namespace Go.Proofs.YtcblkndiclkacaaDoor
open Go.RowKit
theorem set_getD (C:List Nat) (i j n:Nat) (hj:j<C.length):(C.set j n).getD i 0=if i=j then n else C.getD i 0:=by
 by_cases h:i=j
 ·subst h;rw[if_pos rfl];simp[List.getD_eq_getElem?_getD,hj]
 ·rw[if_neg h];simp[List.getD_eq_getElem?_getD,List.getElem?_set_ne (show j≠i from fun e=>h e.symm)]
end Go.Proofs.YtcblkndiclkacaaDoor
