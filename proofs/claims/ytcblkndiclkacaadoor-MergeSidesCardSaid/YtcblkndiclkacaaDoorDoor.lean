/-
  What a row that lists errors.errorType gives a walk, and a world that meets it.
-/
import Derived.Test.YtcblkndiclkacaaDoorRow
import Derived.Test.YtcblkndiclkacaaDoorErrNew
import Derived.Test.YtcblkndiclkacaaDoorCards
import Derived.Test.YtcblkndiclkacaaDoorTie
import Derived.Deep.DeepHandedRow
import Derived.LaidLaws
import Derived.LaidHandle
import Derived.Stop.Joined
namespace Go.Proofs.YtcblkndiclkacaaDoor
open Go.ChangeShapes Go.WideShapes Go.ChangeAt Go.RowKit
theorem Tryd.own:ownKnob Tryd.prog.godebug=none:=by kernel_rfl
theorem Tryd.et:Tryd.prog.globalNamed "errors.errorType" = some 0:=by kernel_rfl
theorem Tryd.rt:(Tryd.prog.cutTypes.find? (·.1 == "internal/reflectlite.rtype")).map (·.2)=some 164:=by kernel_rfl
theorem Tryd.oneRow:((List.range Tryd.prog.types.size).filter fun t=>Tryd.prog.rowNamed t [101,114,114,111,114])=[28]:=by kernel_rfl
def theLaid:List (String × DataW Unit):=[("errors.errorType",.iface "internal/reflectlite.rtype" (.agg [.ptr (.lit (.string [101,114,114,111,114]))]))]
theorem glob_of_laid {W:World} (h:laidMetH Tryd.prog theLaid W):Glob W:=by
 have h':laidMet Tryd.prog [] W∧handlesMet Tryd.prog theLaid W:=h
 obtain ⟨name,u,ty,e1,e2,e3,e4,e5⟩:=h'.2 _ (List.mem_singleton.2 rfl)
 have en:name=[101,114,114,111,114]:=(Option.some.inj e1).symm
 subst en
 obtain rfl:=Option.some.inj (Tryd.rt.symm.trans e2)
 have hm:ty∈(List.range Tryd.prog.types.size).filter fun t=>Tryd.prog.rowNamed t [101,114,114,111,114]:=List.mem_filter.2 ⟨List.mem_range.2 e3,e4⟩
 rw[Tryd.oneRow] at hm
 obtain rfl:=List.mem_singleton.1 hm
 have hh:typeHandle Tryd.prog 28 = .pointer (some ⟨2,28,none⟩):=by kernel_rfl
 rw[hh] at e5
 simpa [Glob] using World.var?_cell Tryd.et e5 0
noncomputable def laidWorld (os:Os):World :=
 let w0:=World.holding Tryd.prog os ⟨#[],#[],[]⟩
 { w0 with heap:=w0.heap.modify 0 fun
   | .cells _ t frozen => .cells #[.iface 164 (.agg #[.pointer (some ⟨2,28,none⟩)])] t frozen
   | o=>o }
theorem laidWorld_met (os:Os) (args:Array Value):laidMetH Tryd.prog theLaid ((laidWorld os).forCall (fun _ _=>0) ⟨#[],args,[]⟩).memory :=
 laidMetH_of_parts (laidMet_nil _ _) (by kernel_rfl)
end Go.Proofs.YtcblkndiclkacaaDoor
