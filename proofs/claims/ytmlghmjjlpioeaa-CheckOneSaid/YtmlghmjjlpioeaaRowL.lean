/-
  A message that is being read, with any number of lists.
-/
import Derived.Test.YtmlghmjjlpioeaaFld
namespace Go.Proofs.Ytmlghmjjlpioeaa
open Go.RowKit
open Lib (hid)
structure LPart (σ:Type) (lo:Nat) where
 V:Type
 rel:σ→V→(Nat→Prop)→World→Prop
 lt:∀ {st v P w},rel st v P w→∀ k,P k→lo≤k∧k<w.heap.size
 kept:∀ {st v P w w'},rel st v P w→Upd (fun k=>¬P k) w w'→rel st v P w'
 same:σ→σ→Prop
 conv:∀ {st st' v P w},same st st'→rel st v P w→rel st' v P w
section
variable {σ:Type} {bx:Nat} {A:LPart σ (bx+1)} {T0:TypeId} {row:σ→A.V→Array Value} {st st':σ} {v:A.V} {P1:Nat→Prop} {w:World}
end
def lmays {α:Type}(S:Sub α)(l:List α)(d:Int):Bool:=l.all fun x=>decide (1≤d)&&S.may (d - 1) x
def lwt {α:Type}(S:Sub α)(l:List α):Nat:=lsum (l.map S.wt)
section
variable {α:Type} {S:Sub α}
theorem lwt_cons (x:α)(l:List α):lwt S (x::l)=S.wt x+lwt S l:=rfl
end
end Go.Proofs.Ytmlghmjjlpioeaa
