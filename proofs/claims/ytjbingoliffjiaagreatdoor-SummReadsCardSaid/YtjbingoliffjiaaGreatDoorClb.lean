/-
  A list that is being made by append: its elements' cells, its blocks not below a number.
-/
import Derived.Test.YtjbingoliffjiaaGreatDoorValTake
import Derived.Test.YtjbingoliffjiaaGreatDoorRefMsg
namespace Go.Proofs.YtjbingoliffjiaaGreatDoor
open Go.RowKit
def RfPost {α:Type} (C:Cel α) (zero:Array Value) (rd:Except Nat α) (w:World) (e:Ending) (w':World):Prop:=Below w.heap.size w w'∧match rd with
 | .error _=>e = .returned (.tuple #[.agg zero,.bool false])
 | .ok x=>∃ cs,e = .returned (.tuple #[.agg cs.toArray,.bool true])∧C.R w' (fun k=>w.heap.size≤k) x cs
theorem mread_of_fields {σ:Type} {tk:Rec→Bool} {step:σ→Rec→Except Nat σ} {st:σ} {l:List UInt8} {d:Int} {rs:List Rec} (hw:wfields l d = .ok rs):(∀ c,mfold tk step st rs = .error c→mread tk step st l d = .error c)∧(∀ x,mfold tk step st rs = .ok x→mread tk step st l d = .ok (x,munk tk rs)):=by
 unfold wfields at hw
 unfold mread
 split at hw
 ·cases hw
 ·rename_i h
  rw[if_neg h,hw]
  dsimp only
  exact ⟨fun c hc=>by rw[hc],fun x hx=>by rw[hx]⟩
theorem mread_fields {σ:Type} {tk:Rec→Bool} {step:σ→Rec→Except Nat σ} {st:σ} {l:List UInt8} {d:Int}:mread tk step st l d=match wfields l d with
  | .error c => .error c
  | .ok rs=>match mfold tk step st rs with
   | .error c => .error c
   | .ok x => .ok (x,munk tk rs):=by
 unfold mread wfields
 split
 ·rfl
 ·cases wall l d with
  | error c=>rfl
  | ok rs =>
   dsimp only
   cases mfold tk step st rs<;>rfl
end Go.Proofs.YtjbingoliffjiaaGreatDoor
