/-
  ErrFacts, ErrAs
-/
import Derived.Test.YtoggpnfeioaidaaDoorGet
import Derived.LaidEql
import Derived.Stop.Asserts
import Derived.RowKitTokens
import Derived.Deep.LoopGhost
set_option maxRecDepth 1000000
set_option maxHeartbeats 16000000
namespace Go.Proofs.YtoggpnfeioaidaaDoor
open Go.RowKit Go.Extern.Stop Go.Stop Go.Extern
theorem rlm (z:Sem Value) (f:TypeId→Addr→Nat→Nat→Sem Value) (v:Value) :
  ReflectliteValue.method z f #[v]=(do match ←ReflectliteValue.parts v with|none=>z|some (t,a,fl)=>f t a fl (fl % 32)):=rfl
theorem rls (v x:Value):ReflectliteValue.set #[v,x]=(do
  let (some (dst,a,fl),some (src,b,_)):=(←ReflectliteValue.parts v,←ReflectliteValue.parts x)
   | unsupported (.noEntry "extern/(internal/reflectlite.Value).Set.zeroValue")
  if fl / ReflectliteValue.flagAddr % 2 == 0 then unsupported (.noEntry "extern/(internal/reflectlite.Value).Set.unaddressable")
  let val ←loadVar src b
  if ←Rtype.directlyAssignable dst src then storeVar dst a val
  else if ←Rtype.implements dst src then
   if (←Rtype.kind src) == 20 then
    match val with
    | .nilIface=>unsupported (.noEntry "extern/reflectlite: a nil value of one interface type handed on as a value of another")
    | _=>storeVar dst a val
   else storeVar dst a (.iface src val)
  else panicString ("reflectlite.Set: value of type " ++ (←Rtype.spelt src) ++ " is not assignable to type " ++ (←Rtype.spelt dst))
  pure (.tuple #[])):=rfl
theorem Tryd.methodKind (h:Value) (w:World):(Go.method 298 147 (.agg #[h]) "Kind").run Tryd.prog w = .ok (90,h) w:=by kernel_rfl
theorem Tryd.methodElem (h:Value) (w:World):(Go.method 298 147 (.agg #[h]) "Elem").run Tryd.prog w = .ok (105,.agg #[h]) w:=by kernel_rfl
theorem Tryd.methodImplements (h:Value) (w:World):(Go.method 298 147 (.agg #[h]) "Implements").run Tryd.prog w = .ok (106,.agg #[h]) w:=by kernel_rfl
theorem Tryd.methodAssignableTo (h:Value) (w:World):(Go.method 298 147 (.agg #[h]) "AssignableTo").run Tryd.prog w = .ok (103,.agg #[h]) w:=by kernel_rfl
theorem Tryd.valueOfPCode (t:Addr) (w:World):(ReflectliteValue.unpack (.iface 85 (.pointer (some t)))).run Tryd.prog w
  = .ok (.agg #[.pointer (some ⟨2,85,none⟩),.pointer (some ⟨w.heap.size,0,none⟩),.int .u64 150]) (w.alloc (.cells #[.pointer (some t)] 85)):=by kernel_rfl
theorem Tryd.typePCode (a:Addr) (w:World):(ReflectliteValue.methodAny (ReflectliteValue.valueError "reflectlite.Value.Type" 0) (fun t _ _ _=>ReflectliteType.toType t) #[.agg #[.pointer (some ⟨2,85,none⟩),.pointer (some a),.int .u64 150]]).run Tryd.prog w
  = .ok (.iface 147 (.agg #[.pointer (some ⟨2,85,none⟩)])) w:=by kernel_rfl
theorem Tryd.kindPCode (w:World):((ReflectliteType.abiMethod fun t=>(fun a:Nat=>Value.int IntKind.u8 (a:Int)) <$> Rtype.kind t) #[.pointer (some ⟨2,85,none⟩)]).run Tryd.prog w = .ok (.int .u8 22) w:=by kernel_rfl
theorem Tryd.kindCode (w:World):((ReflectliteType.abiMethod fun t=>(fun a:Nat=>Value.int IntKind.u8 (a:Int)) <$> Rtype.kind t) #[.pointer (some ⟨2,59,none⟩)]).run Tryd.prog w = .ok (.int .u8 2) w:=by kernel_rfl
theorem Tryd.partsPCode (a:Addr) (w:World):(ReflectliteValue.parts (.agg #[.pointer (some ⟨2,85,none⟩),.pointer (some a),.int .u64 150])).run Tryd.prog w = .ok (some (85,a,150)) w:=by kernel_rfl
theorem Tryd.isNilPCode (a p:Addr) (W:World) (ha:W.cell? a=some (.pointer (some p))) :
  (ReflectliteValue.method (ReflectliteValue.valueError "reflectlite.Value.IsNil" 0) ReflectliteValue.isNil #[.agg #[.pointer (some ⟨2,85,none⟩),.pointer (some a),.int .u64 150]]).run Tryd.prog W = .ok (.bool false) W:=by
 rw[rlm]
 simp only[Sem.run_bind,Tryd.partsPCode,Result.andThen]
 simp[ReflectliteValue.isNil,loadVar,isAgg,underlying,Tryd.underlying85,ha,Result.andThen]
theorem Tryd.elemPCode (w:World):(ReflectliteType.method ReflectliteType.elem #[.agg #[.pointer (some ⟨2,85,none⟩)]]).run Tryd.prog w = .ok (.iface 147 (.agg #[.pointer (some ⟨2,59,none⟩)])) w:=by kernel_rfl
theorem Tryd.implementsCode (w:World):(ReflectliteType.relation "Implements" ReflectliteType.implements_ #[.agg #[.pointer (some ⟨2,59,none⟩)],.iface 147 (.agg #[.pointer (some ⟨2,39,none⟩)])]).run Tryd.prog w = .ok (.bool true) w:=by kernel_rfl
theorem Tryd.elemOfPCode (w:World):(Rtype.elem? 85).run Tryd.prog w = .ok (some 59) w:=by kernel_rfl
theorem Tryd.mkCode (p:Addr) (w:World):(ReflectliteValue.mk 59 p ReflectliteValue.flagAddr).run Tryd.prog w = .ok (.agg #[.pointer (some ⟨2,59,none⟩),.pointer (some p),.int .u64 386]) w:=by kernel_rfl
theorem Tryd.elemVPCode (a p:Addr) (W:World) (ha:W.cell? a=some (.pointer (some p))) :
  (ReflectliteValue.method (ReflectliteValue.valueError "reflectlite.Value.Elem" 0) ReflectliteValue.elem #[.agg #[.pointer (some ⟨2,85,none⟩),.pointer (some a),.int .u64 150]]).run Tryd.prog W
   = .ok (.agg #[.pointer (some ⟨2,59,none⟩),.pointer (some p),.int .u64 386]) W:=by
 rw[rlm]
 simp only[Sem.run_bind,Tryd.partsPCode,Result.andThen]
 simp[ReflectliteValue.elem,loadVar,isAgg,underlying,Tryd.underlying85,ha,Result.andThen,Tryd.elemOfPCode,Tryd.mkCode]
theorem Tryd.valueOfCode (e:Int) (w:World):(ReflectliteValue.unpack (.iface 59 (.int .i64 e))).run Tryd.prog w
  = .ok (.agg #[.pointer (some ⟨2,59,none⟩),.pointer (some ⟨w.heap.size,0,none⟩),.int .u64 130]) (w.alloc (.cells #[.int .i64 e] 59)):=by kernel_rfl
theorem Tryd.partsACode (a:Addr) (w:World):(ReflectliteValue.parts (.agg #[.pointer (some ⟨2,59,none⟩),.pointer (some a),.int .u64 386])).run Tryd.prog w = .ok (some (59,a,386)) w:=by kernel_rfl
theorem Tryd.partsCode (a:Addr) (w:World):(ReflectliteValue.parts (.agg #[.pointer (some ⟨2,59,none⟩),.pointer (some a),.int .u64 130])).run Tryd.prog w = .ok (some (59,a,130)) w:=by kernel_rfl
theorem Tryd.directCode (w:World):(Rtype.directlyAssignable 59 59).run Tryd.prog w = .ok true w:=by kernel_rfl
theorem Tryd.setCode (ta b:Addr) (e:Int) (old:Value) (W:World) (hb:W.cell? b=some (.int .i64 e)) (ht:W.cell? ta=some old) (hf:W.frozen? ta=false) :
  (ReflectliteValue.set #[.agg #[.pointer (some ⟨2,59,none⟩),.pointer (some ta),.int .u64 386],.agg #[.pointer (some ⟨2,59,none⟩),.pointer (some b),.int .u64 130]]).run Tryd.prog W
   = .ok (.tuple #[]) (W.setCell ta (.int .i64 e)):=by
 rw[rls]
 simp only[Sem.run_bind,Tryd.partsACode,Tryd.partsCode,Result.andThen]
 simp[ReflectliteValue.flagAddr,loadVar,isAgg,underlying,Tryd.underlying59,hb,Result.andThen,Tryd.directCode,storeVar,Value.cells,storeCells,Addr.add]
 rw[run_store Tryd.prog W ta _ _ (by rfl)]
 simp[ht,hf]
theorem Tryd.typeOfCode (v:Value) (w:World):(ReflectliteType.typeOf #[.iface 59 v]).run Tryd.prog w = .ok (.iface 147 (.agg #[.pointer (some ⟨2,59,none⟩)])) w:=by kernel_rfl
theorem Tryd.assignableCodeCode (w:World):(ReflectliteType.relation "AssignableTo" ReflectliteType.assignableTo #[.agg #[.pointer (some ⟨2,59,none⟩)],.iface 147 (.agg #[.pointer (some ⟨2,59,none⟩)])]).run Tryd.prog w = .ok (.bool true) w:=by kernel_rfl
theorem Tryd.typeOfWhere (v:Value) (w:World):(ReflectliteType.typeOf #[.iface 90 v]).run Tryd.prog w = .ok (.iface 147 (.agg #[.pointer (some ⟨2,90,none⟩)])) w:=by kernel_rfl
theorem Tryd.assignableWhereCode (w:World):(ReflectliteType.relation "AssignableTo" ReflectliteType.assignableTo #[.agg #[.pointer (some ⟨2,90,none⟩)],.iface 147 (.agg #[.pointer (some ⟨2,59,none⟩)])]).run Tryd.prog w = .ok (.bool false) w:=by kernel_rfl
theorem Tryd.typeOfField (v:Value) (w:World):(ReflectliteType.typeOf #[.iface 97 v]).run Tryd.prog w = .ok (.iface 147 (.agg #[.pointer (some ⟨2,97,none⟩)])) w:=by kernel_rfl
theorem Tryd.assignableFieldCode (w:World):(ReflectliteType.relation "AssignableTo" ReflectliteType.assignableTo #[.agg #[.pointer (some ⟨2,97,none⟩)],.iface 147 (.agg #[.pointer (some ⟨2,59,none⟩)])]).run Tryd.prog w = .ok (.bool false) w:=by kernel_rfl
theorem Tryd.typeOfOther (v:Value) (w:World):(ReflectliteType.typeOf #[.iface 165 v]).run Tryd.prog w = .ok (.iface 147 (.agg #[.pointer (some ⟨2,165,none⟩)])) w:=by kernel_rfl
theorem Tryd.assignableOtherCode (w:World):(ReflectliteType.relation "AssignableTo" ReflectliteType.assignableTo #[.agg #[.pointer (some ⟨2,165,none⟩)],.iface 147 (.agg #[.pointer (some ⟨2,59,none⟩)])]).run Tryd.prog w = .ok (.bool false) w:=by kernel_rfl
theorem Tryd.isAsCode (v:Value) (w:World):(Instr.typeAssert (.iface 59 v) 39 151 true).run Tryd.prog w = .ok (.tuple #[.nilIface,.bool false]) w:=run_typeAssert_lacksB Tryd.underlying151 (by kernel_rfl) (by kernel_rfl) v 39 w
theorem Tryd.isUnCode (v:Value) (w:World):(Instr.typeAssert (.iface 59 v) 39 154 true).run Tryd.prog w = .ok (.tuple #[.nilIface,.bool false]) w:=run_typeAssert_lacksB Tryd.underlying154 (by kernel_rfl) (by kernel_rfl) v 39 w
theorem Tryd.isUnlCode (v:Value) (w:World):(Instr.typeAssert (.iface 59 v) 39 156 true).run Tryd.prog w = .ok (.tuple #[.nilIface,.bool false]) w:=run_typeAssert_lacksB Tryd.underlying156 (by kernel_rfl) (by kernel_rfl) v 39 w
theorem Tryd.isIsCode (v:Value) (w:World):(Instr.typeAssert (.iface 59 v) 39 159 true).run Tryd.prog w = .ok (.tuple #[.nilIface,.bool false]) w:=run_typeAssert_lacksB Tryd.underlying159 (by kernel_rfl) (by kernel_rfl) v 39 w
theorem Tryd.isAsWhere (v:Value) (w:World):(Instr.typeAssert (.iface 90 v) 39 151 true).run Tryd.prog w = .ok (.tuple #[.nilIface,.bool false]) w:=run_typeAssert_lacksB Tryd.underlying151 (by kernel_rfl) (by kernel_rfl) v 39 w
theorem Tryd.isUnWhere (v:Value) (w:World):(Instr.typeAssert (.iface 90 v) 39 154 true).run Tryd.prog w = .ok (.tuple #[.iface 90 v,.bool true]) w:=by kernel_rfl
theorem Tryd.unwrapWhere (v:Value) (w:World):(Go.method 298 90 v "Unwrap").run Tryd.prog w = .ok (95,v) w:=by kernel_rfl
theorem Tryd.isIsWhere (v:Value) (w:World):(Instr.typeAssert (.iface 90 v) 39 159 true).run Tryd.prog w = .ok (.tuple #[.nilIface,.bool false]) w:=run_typeAssert_lacksB Tryd.underlying159 (by kernel_rfl) (by kernel_rfl) v 39 w
theorem Tryd.isAsField (v:Value) (w:World):(Instr.typeAssert (.iface 97 v) 39 151 true).run Tryd.prog w = .ok (.tuple #[.nilIface,.bool false]) w:=run_typeAssert_lacksB Tryd.underlying151 (by kernel_rfl) (by kernel_rfl) v 39 w
theorem Tryd.isUnField (v:Value) (w:World):(Instr.typeAssert (.iface 97 v) 39 154 true).run Tryd.prog w = .ok (.tuple #[.iface 97 v,.bool true]) w:=by kernel_rfl
theorem Tryd.unwrapField (v:Value) (w:World):(Go.method 298 97 v "Unwrap").run Tryd.prog w = .ok (97,v) w:=by kernel_rfl
theorem Tryd.isIsField (v:Value) (w:World):(Instr.typeAssert (.iface 97 v) 39 159 true).run Tryd.prog w = .ok (.tuple #[.nilIface,.bool false]) w:=run_typeAssert_lacksB Tryd.underlying159 (by kernel_rfl) (by kernel_rfl) v 39 w
theorem Tryd.isAsOther (v:Value) (w:World):(Instr.typeAssert (.iface 165 v) 39 151 true).run Tryd.prog w = .ok (.tuple #[.nilIface,.bool false]) w:=run_typeAssert_lacksB Tryd.underlying151 (by kernel_rfl) (by kernel_rfl) v 39 w
theorem Tryd.isUnOther (v:Value) (w:World):(Instr.typeAssert (.iface 165 v) 39 154 true).run Tryd.prog w = .ok (.tuple #[.nilIface,.bool false]) w:=run_typeAssert_lacksB Tryd.underlying154 (by kernel_rfl) (by kernel_rfl) v 39 w
theorem Tryd.isUnlOther (v:Value) (w:World):(Instr.typeAssert (.iface 165 v) 39 156 true).run Tryd.prog w = .ok (.tuple #[.nilIface,.bool false]) w:=run_typeAssert_lacksB Tryd.underlying156 (by kernel_rfl) (by kernel_rfl) v 39 w
theorem Tryd.isIsOther (v:Value) (w:World):(Instr.typeAssert (.iface 165 v) 39 159 true).run Tryd.prog w = .ok (.tuple #[.nilIface,.bool false]) w:=run_typeAssert_lacksB Tryd.underlying159 (by kernel_rfl) (by kernel_rfl) v 39 w
open Go.RowKit Go.Extern.Stop Go.Stop Go.Extern
def wrapT (b:Bool):TypeId:=if b then 90 else 97
def wrapS (b:Bool):TypeId:=if b then 92 else 99
def isErr (w:World):List (Bool × Int)→Value→Value→Prop
 | [],v,r=>v=r
 | (b,n)::ws,v,r=>∃ a e,v = .iface (wrapT b) (.pointer (some ⟨a,0,none⟩))∧a<w.heap.size∧w.heap[a]? = some (.cells #[.int .i64 n,e] (wrapS b) (0,0))∧isErr w ws e r
def codeV (c:Int):Value := .iface 59 (.int .i64 c)
def isRoot (r:Value):Prop:=(∃ c,r=codeV c)∨∃ x,r = .iface 165 x
structure OneUpd (w w':World) (t:Nat) (T:TypeId) (u:Value):Prop where
 os:w'.os=w.os
 tape:w'.tape=w.tape
 output:w'.output=w.output
 size:w.heap.size≤w'.heap.size
 block:∀ k,k<w.heap.size→k≠t→w'.heap[k]? = w.heap[k]?
 cell:w'.heap[t]? = some (.cells #[u] T (0,0))
theorem isErr_kept {w w':World} (hk:∀ (k:Nat) (o:Obj),w.heap[k]? = some o→(∃ (b:Bool) (n:Int) (e:Value),o=Obj.cells #[Value.int .i64 n,e] (wrapS b) (0,0))→w'.heap[k]? = some o) (hs:w.heap.size≤w'.heap.size) :
  ∀ {ws:List (Bool × Int)} {v r:Value},isErr w ws v r→isErr w' ws v r
 | [],_,_,h=>h
 | (b,n)::_,_,_,⟨a,e,hv,ha,hh,hr⟩=>⟨a,e,hv,Nat.lt_of_lt_of_le ha hs,hk a _ hh ⟨b,n,e,rfl⟩,isErr_kept hk hs hr⟩
theorem isErr_below {w w':World} (hb:Below w.heap.size w w'):∀ {ws:List (Bool × Int)} {v r:Value},isErr w ws v r→isErr w' ws v r :=
 isErr_kept (fun k _ h _=>(hb.block k (Array.getElem?_eq_some_iff.1 h).1).trans h) hb.size
theorem oneUpd_set {w:World} {t:Nat} {T:TypeId} {old:Value} (ht:w.heap[t]? = some (.cells #[old] T (0,0))) (o o':Obj) (u:Value) :
  OneUpd w (((w.setCell ⟨t,0,none⟩ u).alloc o).alloc o') t T u:=by
 have hlt:t<w.heap.size:=(Array.getElem?_eq_some_iff.1 ht).1
 have hs:(w.setCell ⟨t,0,none⟩ u).heap.size=w.heap.size:=by simp[World.setCell]
 refine ⟨rfl,rfl,rfl,by simp;omega,fun k hk hne=>?_,?_⟩
 ·rw[Below.heap_alloc _ _ _ (by simp;omega),Below.heap_alloc _ _ _ (by omega),Below.heap_setCell _ _ _ _ hne]
 ·rw[Below.heap_alloc _ _ _ (by simp;omega),Below.heap_alloc _ _ _ (by omega),heap_setCell_same _ t 0 _ _ _ ht];rfl
theorem oneUpd_box {w:World} {t:Nat} {T:TypeId} {old:Value} (ht:w.heap[t]? = some (.cells #[old] T (0,0))) (o:Obj):OneUpd w (w.alloc o) t T old :=
 ⟨rfl,rfl,rfl,by simp,fun k hk _=>Below.heap_alloc _ _ _ hk,(Below.heap_alloc _ _ _ (Array.getElem?_eq_some_iff.1 ht).1).trans ht⟩
theorem oneUpd_alloc {w w':World} {t:Nat} {T:TypeId} {u:Value} {o:Obj} (h:OneUpd (w.alloc o) w' t T u):OneUpd w w' t T u :=
 ⟨h.os,h.tape,h.output,Nat.le_trans (by simp) h.size,fun k hk hne=>(h.block k (by simp;omega) hne).trans (Below.heap_alloc _ _ _ hk),h.cell⟩
theorem oneUpd_below {w w':World} {T:TypeId} {u:Value} {o:Obj} (h:OneUpd (w.alloc o) w' w.heap.size T u):Below w.heap.size w w' :=
 ⟨h.os,h.tape,h.output,Nat.le_trans (by simp) h.size,fun k hk=>(h.block k (by simp;omega) (by omega)).trans (Below.heap_alloc _ _ _ hk)⟩
theorem isRoot_iface {r:Value} (h:isRoot r):∃ T x,r = .iface T x:=by
 rcases h with ⟨c,rfl⟩|⟨x,rfl⟩<;>exact ⟨_,_,rfl⟩
theorem isErr_iface {w:World} {ws:List (Bool × Int)} {v r:Value} (h:isErr w ws v r) (hr:isRoot r):∃ T x,v = .iface T x:=by
 cases ws with
 | nil=>obtain ⟨T,x,rfl⟩:=isRoot_iface hr;exact ⟨_,_,h⟩
 | cons y ws=>obtain ⟨a,e,hv,_⟩:=h;exact ⟨_,_,hv⟩
theorem unwrap_where (a:Nat) (n:Int) (e:Value) (w:World) (h:w.heap[a]? = some (.cells #[.int .i64 n,e] 92 (0,0))) :
  Calls Tryd.prog 95 #[.pointer (some ⟨a,0,none⟩)] w fun r w'=>r = .returned e∧w=w':=by
 have hc:w.cell? ⟨a,1,none⟩=some e:=by rw[cell_of_row w a 1 _ _ _ h];rfl
 clear h
 go_enter Tryd.func95,Tryd.ntmps95
 go_wp2
 go_ret
 exact ⟨rfl,rfl⟩
theorem unwrap_field (a:Nat) (n:Int) (e:Value) (w:World) (h:w.heap[a]? = some (.cells #[.int .i64 n,e] 99 (0,0))) :
  Calls Tryd.prog 97 #[.pointer (some ⟨a,0,none⟩)] w fun r w'=>r = .returned e∧w=w':=by
 have hc:w.cell? ⟨a,1,none⟩=some e:=by rw[cell_of_row w a 1 _ _ _ h];rfl
 clear h
 go_enter Tryd.func97,Tryd.ntmps97
 go_wp2
 go_ret
 exact ⟨rfl,rfl⟩
def AsCode (ws:List (Bool × Int)) (r:Value) (t:Nat) (old:Value) (_ w:World) (e:Ending) (w':World):Prop:=ws=ws∧(∀ c,r=codeV c→e = .returned (.bool true)∧OneUpd w w' t 59 (.int .i64 c))∧((∀ c,r≠codeV c)→e = .returned (.bool false)∧OneUpd w w' t 59 old)
theorem as_code (ws:List (Bool × Int)) (v r:Value) (tg:Value) (p t:Nat) (w0 w:World) (he:isErr w0 ws v r) (hb0:Below w0.heap.size w0 w) (hroot:isRoot r) (old:Value)
  (ht:w.heap[t]? = some (.cells #[old] 59 (0,0))) (hp:w.heap[p]? = some (.cells #[.pointer (some ⟨t,0,none⟩)] 85 (0,0))) :
  Calls Tryd.prog 58 #[v,tg,.agg #[.pointer (some ⟨2,85,none⟩),.pointer (some ⟨p,0,none⟩),.int .u64 150],.iface 147 (.agg #[.pointer (some ⟨2,59,none⟩)])] w
   (AsCode ws r t old w0 w):=by
 go_enter Tryd.func58,Tryd.ntmps58
 have h25:=@run_callFunc_extern Tryd.prog 62 _ ReflectliteType.typeOf Tryd.func62 (by kernel_rfl) (by kernel_rfl) (by kernel_rfl) (by kernel_rfl)
 have h63:=@run_callFunc_extern Tryd.prog 103 _ (ReflectliteType.relation "AssignableTo" ReflectliteType.assignableTo) Tryd.func103 (by kernel_rfl) (by kernel_rfl) (by kernel_rfl) (by kernel_rfl)
 have mA:=Tryd.methodAssignableTo
 have kktCode:=Tryd.typeOfCode
 have kkaCode:=Tryd.assignableCodeCode
 have kkiCode:=Tryd.isAsCode
 have kkuCode:=Tryd.isUnCode
 have kklCode:=Tryd.isUnlCode
 have kktOther:=Tryd.typeOfOther
 have kkaOther:=Tryd.assignableOtherCode
 have kkiOther:=Tryd.isAsOther
 have kkuOther:=Tryd.isUnOther
 have kklOther:=Tryd.isUnlOther
 have kktWhere:=Tryd.typeOfWhere
 have kkaWhere:=Tryd.assignableWhereCode
 have kkiWhere:=Tryd.isAsWhere
 have kkuWhere:=Tryd.isUnWhere
 have kkmWhere:=Tryd.unwrapWhere
 have kktField:=Tryd.typeOfField
 have kkaField:=Tryd.assignableFieldCode
 have kkiField:=Tryd.isAsField
 have kkuField:=Tryd.isUnField
 have kkmField:=Tryd.unwrapField
 have HT:=Lib.hid ht
 have HP:=Lib.hid hp
 have HROOT:=Lib.hid hroot
 have HB:=Lib.hid hb0
 clear ht hp hroot hb0
 go_wp2
 go_loopg [0] ws.length (fun k v wr=>∃ ws',ws'.length≤k∧isErr w0 ws' v r∧(∀ e w',AsCode ws' r t old w0 w e w'→AsCode ws r t old w0 w e w')∧wr=w.alloc (.cells #[.pointer (some ⟨2,85,none⟩),.pointer (some ⟨p,0,none⟩),.int .u64 150] 118))
 case atStart=>exact ⟨ws,Nat.le_refl _,he,fun _ _ h=>h,rfl⟩
 case round =>
  clear he
  obtain ⟨ws',hk,hr,hpost,rfl⟩:=hrel
  have HK:=Lib.hid hpost
  clear hpost
  match ws',hk,hr,HK with
  | [],hk,hr,HK =>
   rcases HROOT.out with ⟨c,hc⟩|⟨x,hx⟩
   ·obtain rfl:u0=r:=hr
    rw[codeV] at hc
    subst hc
    have hlt:t<w.heap.size:=(Array.getElem?_eq_some_iff.1 HT.out).1
    have hpl:p<w.heap.size:=(Array.getElem?_eq_some_iff.1 HP.out).1
    have h34:=@run_callFunc_extern Tryd.prog 72 _ (ReflectliteValue.method (ReflectliteValue.valueError "reflectlite.Value.Elem" 0) ReflectliteValue.elem) Tryd.func72 (by kernel_rfl) (by kernel_rfl) (by kernel_rfl) (by kernel_rfl)
    have h35:=@run_callFunc_extern Tryd.prog 73 _ ReflectliteValue.set Tryd.func73 (by kernel_rfl) (by kernel_rfl) (by kernel_rfl) (by kernel_rfl)
    have h27:=@run_callFunc_extern Tryd.prog 55 _ (fun args=>ReflectliteValue.unpack (args.getD 0 (.tuple #[]))) Tryd.func55 (by kernel_rfl) (by kernel_rfl) (by kernel_rfl) (by kernel_rfl)
    have h40:=Tryd.valueOfCode
    have h41:=Tryd.elemVPCode ⟨p,0,none⟩ ⟨t,0,none⟩ (w.alloc (.cells #[.pointer (some ⟨2,85,none⟩),.pointer (some ⟨p,0,none⟩),.int .u64 150] 118)) (by rw[World.cell?_alloc_lt _ _ ⟨p,0,none⟩ hpl,cell_of_row w p 0 _ _ _ HP.out];rfl)
    have h42:=Tryd.setCode ⟨t,0,none⟩ ⟨w.heap.size+1,0,none⟩ c old ((w.alloc (.cells #[.pointer (some ⟨2,85,none⟩),.pointer (some ⟨p,0,none⟩),.int .u64 150] 118)).alloc (.cells #[.int .i64 c] 59))
     (by rw[World.cell?_alloc_at _ _ _ _ (by simp)];rfl)
     (by rw[World.cell?_alloc_lt _ _ ⟨t,0,none⟩ (by simp;omega),World.cell?_alloc_lt _ _ ⟨t,0,none⟩ hlt,cell_of_row w t 0 _ _ _ HT.out];rfl)
     (by rw[World.frozen?_alloc_old _ _ ⟨t,0,none⟩ (by simp;omega),World.frozen?_alloc_old _ _ ⟨t,0,none⟩ (Nat.ne_of_lt hlt)];exact frozen_of_row w t 0 _ _ HT.out)
    go_wp2
    go_ret
    exact HK.out _ _ ⟨rfl,fun d hd=>by injection hd with _ hd;injection hd with _ hd;subst hd;exact ⟨rfl,oneUpd_set HT.out _ _ _⟩,fun h=>absurd rfl (h c)⟩
   ·obtain rfl:u0=r:=hr
    subst hx
    go_wp2
    go_ret
    exact HK.out _ _ ⟨rfl,fun d hd=>(by injection hd with hd _;exact absurd hd (by decide)),fun _=>⟨rfl,oneUpd_box HT.out _⟩⟩
  | (true,n)::ws',hk,hr,HK =>
   obtain ⟨a,x,hv,ha,hh,hr'⟩:=hr
   obtain ⟨T,y,rfl⟩:=isErr_iface hr' HROOT.out
   rw[show wrapT true=90 from rfl] at hv
   subst hv
   have hh2:(w.alloc (.cells #[.pointer (some ⟨2,85,none⟩),.pointer (some ⟨p,0,none⟩),.int .u64 150] 118)).heap[a]? = some (.cells #[.int .i64 n,.iface T y] 92 (0,0)):=(Below.heap_alloc _ _ _ (Nat.lt_of_lt_of_le ha HB.out.size)).trans ((HB.out.block a ha).trans hh)
   have HH:=Lib.hid hh2
   have HR:=Lib.hid hr'
   clear hh2 hh hr'
   go_wp2_with (go_at_call 95;refine (unwrap_where a n _ _ HH.out).mono ?_;rintro e w' ⟨rfl,rfl⟩)
   go_roundg (gk - 1)
   case measure=>simp at hk;omega
   case rel=>exact ⟨ws',by simp at hk;omega,HR.out,fun e w' h=>HK.out e w' ⟨rfl,h.2⟩,rfl⟩
  | (false,n)::ws',hk,hr,HK =>
   obtain ⟨a,x,hv,ha,hh,hr'⟩:=hr
   obtain ⟨T,y,rfl⟩:=isErr_iface hr' HROOT.out
   rw[show wrapT false=97 from rfl] at hv
   subst hv
   have hh2:(w.alloc (.cells #[.pointer (some ⟨2,85,none⟩),.pointer (some ⟨p,0,none⟩),.int .u64 150] 118)).heap[a]? = some (.cells #[.int .i64 n,.iface T y] 99 (0,0)):=(Below.heap_alloc _ _ _ (Nat.lt_of_lt_of_le ha HB.out.size)).trans ((HB.out.block a ha).trans hh)
   have HH:=Lib.hid hh2
   have HR:=Lib.hid hr'
   clear hh2 hh hr'
   go_wp2_with (go_at_call 97;refine (unwrap_field a n _ _ HH.out).mono ?_;rintro e w' ⟨rfl,rfl⟩)
   go_roundg (gk - 1)
   case measure=>simp at hk;omega
   case rel=>exact ⟨ws',by simp at hk;omega,HR.out,fun e w' h=>HK.out e w' ⟨rfl,h.2⟩,rfl⟩
theorem errAs_code (ws:List (Bool × Int)) (v r:Value) (t:Nat) (w0 w:World) (he:isErr w0 ws v r) (hb0:Below w0.heap.size w0 w) (hroot:isRoot r) (old:Value) (ht:w.heap[t]? = some (.cells #[old] 59 (0,0)))
  (hg:w.cell? ⟨1,0,none⟩=some (.iface 147 (.agg #[.pointer (some ⟨2,39,none⟩)]))) :
  Calls Tryd.prog 34 #[v,.iface 85 (.pointer (some ⟨t,0,none⟩))] w (AsCode ws r t old w0 w):=by
 obtain ⟨T,x,rfl⟩:=isErr_iface he hroot
 have h6:=@run_callFunc_extern Tryd.prog 55 _ (fun args=>ReflectliteValue.unpack (args.getD 0 (.tuple #[]))) Tryd.func55 (by kernel_rfl) (by kernel_rfl) (by kernel_rfl) (by kernel_rfl)
 have h7:=@run_callFunc_extern Tryd.prog 56 _ (ReflectliteValue.methodAny (ReflectliteValue.valueError "reflectlite.Value.Type" 0) (fun t _ _ _=>ReflectliteType.toType t)) Tryd.func56 (by kernel_rfl) (by kernel_rfl) (by kernel_rfl) (by kernel_rfl)
 have h8:=@run_callFunc_extern Tryd.prog 57 _ (ReflectliteValue.method (ReflectliteValue.valueError "reflectlite.Value.IsNil" 0) ReflectliteValue.isNil) Tryd.func57 (by kernel_rfl) (by kernel_rfl) (by kernel_rfl) (by kernel_rfl)
 have h27:=@run_callFunc_extern Tryd.prog 90 _ (ReflectliteType.abiMethod fun t=>do pure (.int .u8 (←Rtype.kind t))) Tryd.func90 (by kernel_rfl) (by kernel_rfl) (by kernel_rfl) (by kernel_rfl)
 have h37:=@run_callFunc_extern Tryd.prog 105 _ (ReflectliteType.method ReflectliteType.elem) Tryd.func105 (by kernel_rfl) (by kernel_rfl) (by kernel_rfl) (by kernel_rfl)
 have h38:=@run_callFunc_extern Tryd.prog 106 _ (ReflectliteType.relation "Implements" ReflectliteType.implements_) Tryd.func106 (by kernel_rfl) (by kernel_rfl) (by kernel_rfl) (by kernel_rfl)
 have kk1:=Tryd.valueOfPCode
 have kk2:=Tryd.typePCode
 have kk3:=Tryd.methodKind
 have kk4:=Tryd.methodElem
 have kk5:=Tryd.methodImplements
 have kk6:=Tryd.kindPCode
 have kk7:=Tryd.kindCode
 have kk8:=Tryd.elemPCode
 have kk9:=Tryd.implementsCode
 have hlt:1<w.heap.size:=by
  refine Classical.byContradiction fun h0=>?_
  have h1:w.heap[1]? = none:=Array.getElem?_eq_none (by omega)
  simp[World.cell?,h1] at hg
 have h10:=Tryd.isNilPCode ⟨w.heap.size,0,none⟩ ⟨t,0,none⟩ ((w.alloc (.cells #[.pointer (some ⟨t,0,none⟩)] 85)).alloc (.cells #[.pointer (some ⟨2,85,none⟩),.pointer (some ⟨w.heap.size,0,none⟩),.int .u64 150] 118)) (by simp)
 have h11:((w.alloc (.cells #[.pointer (some ⟨t,0,none⟩)] 85)).alloc (.cells #[.pointer (some ⟨2,85,none⟩),.pointer (some ⟨w.heap.size,0,none⟩),.int .u64 150] 118)).cell? ⟨1,0,none⟩=some (.iface 147 (.agg #[.pointer (some ⟨2,39,none⟩)])):=by
  rw[World.cell?_alloc_lt _ _ ⟨1,0,none⟩ (by simp;omega),World.cell?_alloc_lt _ _ ⟨1,0,none⟩ hlt];exact hg
 have htl:t<w.heap.size:=(Array.getElem?_eq_some_iff.1 ht).1
 have HT:Hid (((w.alloc (.cells #[.pointer (some ⟨t,0,none⟩)] 85)).alloc (.cells #[.pointer (some ⟨2,85,none⟩),.pointer (some ⟨w.heap.size,0,none⟩),.int .u64 150] 118)).heap[t]? = some (.cells #[old] 59 (0,0))) :=
  Lib.hid (by rw[Below.heap_alloc _ _ _ (by simp;omega),Below.heap_alloc _ _ _ htl];exact ht)
 have HP:Hid (((w.alloc (.cells #[.pointer (some ⟨t,0,none⟩)] 85)).alloc (.cells #[.pointer (some ⟨2,85,none⟩),.pointer (some ⟨w.heap.size,0,none⟩),.int .u64 150] 118)).heap[w.heap.size]? = some (.cells #[.pointer (some ⟨t,0,none⟩)] 85 (0,0))) :=
  Lib.hid (by rw[Below.heap_alloc _ _ _ (by simp)];exact heap_alloc_new w _)
 have HE:=Lib.hid he
 have HB:=Lib.hid ((hb0.alloc hb0.size (.cells #[.pointer (some ⟨t,0,none⟩)] 85)).alloc (by have:=hb0.size;simp;omega) (.cells #[.pointer (some ⟨2,85,none⟩),.pointer (some ⟨w.heap.size,0,none⟩),.int .u64 150] 118))
 have HROOT:=Lib.hid hroot
 clear ht hg hroot he hb0
 go_enter Tryd.func34,Tryd.ntmps34
 go_wp2_with fail
 go_at_call 58
 refine (as_code ws _ r _ w.heap.size t w0 _ HE.out HB.out HROOT.out old HT.out HP.out).mono ?_
 intro e w' hpost
 have HPOST:=Lib.hid hpost
 clear hpost
 rcases HROOT.out with ⟨c,hc⟩|⟨x,hx⟩
 ·obtain ⟨rfl,hu⟩:=HPOST.out.2.1 c hc
  go_wp2
  go_ret
  exact ⟨rfl,fun d hd=>by rw[hc] at hd;injection hd with _ hd;injection hd with _ hd;subst hd;exact ⟨rfl,oneUpd_alloc (oneUpd_alloc hu)⟩,fun h=>absurd hc (h c)⟩
 ·have hne:∀ c,r≠codeV c:=fun c h=>by rw[hx] at h;injection h with h _;exact absurd h (by decide)
  obtain ⟨rfl,hu⟩:=HPOST.out.2.2 hne
  go_wp2
  go_ret
  exact ⟨rfl,fun c hc=>absurd hc (hne c),fun _=>⟨rfl,oneUpd_alloc (oneUpd_alloc hu)⟩⟩
theorem asCode_hit {ws:List (Bool × Int)} {c:Int} {t:Nat} {old:Value} {w0 w w':World} {e:Ending} (h:AsCode ws (codeV c) t old w0 w e w'):e = .returned (.bool true)∧OneUpd w w' t 59 (.int .i64 c) :=
 h.2.1 c rfl
theorem asCode_miss {ws:List (Bool × Int)} {x:Value} {t:Nat} {old:Value} {w0 w w':World} {e:Ending} (h:AsCode ws (.iface 165 x) t old w0 w e w'):e = .returned (.bool false)∧OneUpd w w' t 59 old :=
 h.2.2 fun c hc=>by injection hc with hc _;exact absurd hc (by decide)
end Go.Proofs.YtoggpnfeioaidaaDoor
