/-
  strings.Join of texts, nothing between them.
-/
import Derived.Shelf.Strings.OnBuilder
import Derived.Test.YtoggpnfeioaidaaDoorProg
import Derived.Test.YtoggpnfeioaidaaDoorOrd
import Derived.Test.YtoggpnfeioaidaaDoorGet
import Derived.Test.YtoggpnfeioaidaaDoorMsgMath
import Derived.Test.YtoggpnfeioaidaaDoorWireR5
import Derived.Test.YtoggpnfeioaidaaDoorErrNew
import Derived.Test.YtoggpnfeioaidaaDoorUtf2
import Derived.Deep.Cut
namespace Go.Proofs.YtoggpnfeioaidaaDoor
open Go.RowKit
open Go.RowKit
theorem in_any (n:Int) (t:TypeId) (v:Value) (w:World) :
  Calls Tryd.prog 20 #[.int .i64 n,.iface t v] w fun e w'=>e = .returned (.iface 97 (.pointer (some ⟨w.heap.size,0,none⟩)))∧w'=w.alloc (.cells #[.int .i64 n,.iface t v] 99):=by
 go_enter Tryd.func20,Tryd.ntmps20
 go_wp2
 all_goals go_ret
 all_goals exact ⟨rfl,rfl⟩
theorem in_nil (n:Int) (w:World) :
  Calls Tryd.prog 20 #[.int .i64 n,.nilIface] w fun e w'=>e = .returned .nilIface∧w=w':=by
 go_enter Tryd.func20,Tryd.ntmps20
 go_wp2
 all_goals go_ret
 all_goals exact ⟨rfl,rfl⟩
open Go.RowKit
def EC (w:World) (v:Value) (c:Nat):Prop:=∃ ws,isErr w ws v (codeV c)
theorem EC.iface {w:World} {v:Value} {c:Nat} (h:EC w v c):∃ T x,v = .iface T x:=by
 obtain ⟨ws,h⟩:=h
 exact isErr_iface h (root_code c)
theorem EC.below {w w':World} {v:Value} {c:Nat} (h:EC w v c) (hb:Below w.heap.size w w'):EC w' v c:=by
 obtain ⟨ws,h⟩:=h
 exact ⟨ws,isErr_below hb h⟩
open Go.RowKit
theorem ec_field {w:World} {n:Int} {v:Value} {c:Nat} (h:EC w v c):EC (w.alloc (.cells #[.int .i64 n,v] 99)) (.iface 97 (.pointer (some ⟨w.heap.size,0,none⟩))) c:=by
 obtain ⟨ws,h⟩:=h
 exact ⟨(false,n)::ws,w.heap.size,v,rfl,by simp,heap_alloc_new w _,isErr_below ((Below.refl _ _).alloc (Nat.le_refl _) _) h⟩
theorem body_cell2v {P:Program} {fn:Func} {R:Ending→World→Prop} {a:Act} {w:World} {p u:Tmp} {ty:TypeId} {g:Nat} {cs:Array Value}
  (h:fn.results=#[.cell p ty,.tmp u]) (hp:a.tmps.getD p undef = .pointer (some ⟨g,0,none⟩)) (hl:(loadVar ty ⟨g,0,none⟩).run P w = .ok (.agg cs) w) (hdf:a.defers=[])
  (hR:R (.returned (.tuple #[.agg cs,a.tmps.getD u undef])) w):bodyPost P fn R .ret a w:=by
 refine bodyPost_ret ?_ hdf hR
 have hp':a.tmps[p]?.getD undef = .pointer (some ⟨g,0,none⟩):=by simpa using hp
 have hr:(asAddr (a.tmps[p]?.getD undef)).run P w = .ok ⟨g,0,none⟩ w:=by rw[hp'];rfl
 simp[results,h,Sem.run_bind,Result.andThen,hr,hl]
end Go.Proofs.YtoggpnfeioaidaaDoor
