/-
  errors.As and what it stands on, at the targets that the code has: closed facts on the model's entries for internal/reflectlite, and the contracts of errors.as and errors.As over a chain of wraps.
-/
import Derived.Test.YtcblkndiclkacaaDoorKit
import Derived.LaidEql
import Derived.Stop.Asserts
import Derived.RowKitTokens
namespace Go.Proofs.YtcblkndiclkacaaDoor
open Go.RowKit Go.Extern.Stop Go.Stop Go.Extern
theorem rlm (z:Sem Value) (f:TypeId→Addr→Nat→Nat→Sem Value) (v:Value) :
  ReflectliteValue.method z f #[v]=(do match ←ReflectliteValue.parts v with|none=>z|some (t,a,fl)=>f t a fl (fl % 32)):=rfl
theorem rls (v x:Value):ReflectliteValue.set #[v,x]=(do
  let (some (dst,a,fl),some (src,b,_)):=(←ReflectliteValue.parts v,←ReflectliteValue.parts x)
   | unsupported (.noEntry "extern/(internal/reflectlite.Value).Set.zeroValue")
  if fl / ReflectliteValue.flagAddr % 2 == 0 then unsupported (.noEntry "extern/(internal/reflectlite.Value).Set.unaddressable")
  let val ←loadVar src b
  if ←Rtype.directlyAssignable dst src then storeVar dst a val
  else if ←Rtype.implements dst src then
   if (←Rtype.kind src) == 20 then
    match val with
    | .nilIface=>unsupported (.noEntry "extern/reflectlite: a nil value of one interface type handed on as a value of another")
    | _=>storeVar dst a val
   else storeVar dst a (.iface src val)
  else panicString ("reflectlite.Set: value of type " ++ (←Rtype.spelt src) ++ " is not assignable to type " ++ (←Rtype.spelt dst))
  pure (.tuple #[])):=rfl
theorem Tryd.methodKind (h:Value) (w:World):(Go.method 328 164 (.agg #[h]) "Kind").run Tryd.prog w = .ok (119,h) w:=by kernel_rfl
theorem Tryd.methodElem (h:Value) (w:World):(Go.method 328 164 (.agg #[h]) "Elem").run Tryd.prog w = .ok (134,.agg #[h]) w:=by kernel_rfl
theorem Tryd.methodImplements (h:Value) (w:World):(Go.method 328 164 (.agg #[h]) "Implements").run Tryd.prog w = .ok (135,.agg #[h]) w:=by kernel_rfl
theorem Tryd.methodAssignableTo (h:Value) (w:World):(Go.method 328 164 (.agg #[h]) "AssignableTo").run Tryd.prog w = .ok (132,.agg #[h]) w:=by kernel_rfl
theorem Tryd.valueOfPCode (t:Addr) (w:World):(ReflectliteValue.unpack (.iface 86 (.pointer (some t)))).run Tryd.prog w
  = .ok (.agg #[.pointer (some ⟨2,86,none⟩),.pointer (some ⟨w.heap.size,0,none⟩),.int .u64 150]) (w.alloc (.cells #[.pointer (some t)] 86)):=by kernel_rfl
theorem Tryd.typePCode (a:Addr) (w:World):(ReflectliteValue.methodAny (ReflectliteValue.valueError "reflectlite.Value.Type" 0) (fun t _ _ _=>ReflectliteType.toType t) #[.agg #[.pointer (some ⟨2,86,none⟩),.pointer (some a),.int .u64 150]]).run Tryd.prog w
  = .ok (.iface 164 (.agg #[.pointer (some ⟨2,86,none⟩)])) w:=by kernel_rfl
theorem Tryd.kindPCode (w:World):((ReflectliteType.abiMethod fun t=>(fun a:Nat=>Value.int IntKind.u8 (a:Int)) <$> Rtype.kind t) #[.pointer (some ⟨2,86,none⟩)]).run Tryd.prog w = .ok (.int .u8 22) w:=by kernel_rfl
theorem Tryd.kindCode (w:World):((ReflectliteType.abiMethod fun t=>(fun a:Nat=>Value.int IntKind.u8 (a:Int)) <$> Rtype.kind t) #[.pointer (some ⟨2,31,none⟩)]).run Tryd.prog w = .ok (.int .u8 2) w:=by kernel_rfl
theorem Tryd.partsPCode (a:Addr) (w:World):(ReflectliteValue.parts (.agg #[.pointer (some ⟨2,86,none⟩),.pointer (some a),.int .u64 150])).run Tryd.prog w = .ok (some (86,a,150)) w:=by kernel_rfl
theorem Tryd.isNilPCode (a p:Addr) (W:World) (ha:W.cell? a=some (.pointer (some p))) :
  (ReflectliteValue.method (ReflectliteValue.valueError "reflectlite.Value.IsNil" 0) ReflectliteValue.isNil #[.agg #[.pointer (some ⟨2,86,none⟩),.pointer (some a),.int .u64 150]]).run Tryd.prog W = .ok (.bool false) W:=by
 rw[rlm]
 simp only[Sem.run_bind,Tryd.partsPCode,Result.andThen]
 simp[ReflectliteValue.isNil,loadVar,isAgg,underlying,Tryd.underlying86,ha,Result.andThen]
theorem Tryd.elemPCode (w:World):(ReflectliteType.method ReflectliteType.elem #[.agg #[.pointer (some ⟨2,86,none⟩)]]).run Tryd.prog w = .ok (.iface 164 (.agg #[.pointer (some ⟨2,31,none⟩)])) w:=by kernel_rfl
theorem Tryd.implementsCode (w:World):(ReflectliteType.relation "Implements" ReflectliteType.implements_ #[.agg #[.pointer (some ⟨2,31,none⟩)],.iface 164 (.agg #[.pointer (some ⟨2,28,none⟩)])]).run Tryd.prog w = .ok (.bool true) w:=by kernel_rfl
theorem Tryd.elemOfPCode (w:World):(Rtype.elem? 86).run Tryd.prog w = .ok (some 31) w:=by kernel_rfl
theorem Tryd.mkCode (p:Addr) (w:World):(ReflectliteValue.mk 31 p ReflectliteValue.flagAddr).run Tryd.prog w = .ok (.agg #[.pointer (some ⟨2,31,none⟩),.pointer (some p),.int .u64 386]) w:=by kernel_rfl
theorem Tryd.elemVPCode (a p:Addr) (W:World) (ha:W.cell? a=some (.pointer (some p))) :
  (ReflectliteValue.method (ReflectliteValue.valueError "reflectlite.Value.Elem" 0) ReflectliteValue.elem #[.agg #[.pointer (some ⟨2,86,none⟩),.pointer (some a),.int .u64 150]]).run Tryd.prog W
   = .ok (.agg #[.pointer (some ⟨2,31,none⟩),.pointer (some p),.int .u64 386]) W:=by
 rw[rlm]
 simp only[Sem.run_bind,Tryd.partsPCode,Result.andThen]
 simp[ReflectliteValue.elem,loadVar,isAgg,underlying,Tryd.underlying86,ha,Result.andThen,Tryd.elemOfPCode,Tryd.mkCode]
theorem Tryd.valueOfCode (e:Int) (w:World):(ReflectliteValue.unpack (.iface 31 (.int .i64 e))).run Tryd.prog w
  = .ok (.agg #[.pointer (some ⟨2,31,none⟩),.pointer (some ⟨w.heap.size,0,none⟩),.int .u64 130]) (w.alloc (.cells #[.int .i64 e] 31)):=by kernel_rfl
theorem Tryd.partsACode (a:Addr) (w:World):(ReflectliteValue.parts (.agg #[.pointer (some ⟨2,31,none⟩),.pointer (some a),.int .u64 386])).run Tryd.prog w = .ok (some (31,a,386)) w:=by kernel_rfl
theorem Tryd.partsCode (a:Addr) (w:World):(ReflectliteValue.parts (.agg #[.pointer (some ⟨2,31,none⟩),.pointer (some a),.int .u64 130])).run Tryd.prog w = .ok (some (31,a,130)) w:=by kernel_rfl
theorem Tryd.directCode (w:World):(Rtype.directlyAssignable 31 31).run Tryd.prog w = .ok true w:=by kernel_rfl
theorem Tryd.setCode (ta b:Addr) (e:Int) (old:Value) (W:World) (hb:W.cell? b=some (.int .i64 e)) (ht:W.cell? ta=some old) (hf:W.frozen? ta=false) :
  (ReflectliteValue.set #[.agg #[.pointer (some ⟨2,31,none⟩),.pointer (some ta),.int .u64 386],.agg #[.pointer (some ⟨2,31,none⟩),.pointer (some b),.int .u64 130]]).run Tryd.prog W
   = .ok (.tuple #[]) (W.setCell ta (.int .i64 e)):=by
 rw[rls]
 simp only[Sem.run_bind,Tryd.partsACode,Tryd.partsCode,Result.andThen]
 simp[ReflectliteValue.flagAddr,loadVar,isAgg,underlying,Tryd.underlying31,hb,Result.andThen,Tryd.directCode,storeVar,Value.cells,storeCells,Addr.add]
 rw[run_store Tryd.prog W ta _ _ (by rfl)]
 simp[ht,hf]
theorem Tryd.typeOfCode (v:Value) (w:World):(ReflectliteType.typeOf #[.iface 31 v]).run Tryd.prog w = .ok (.iface 164 (.agg #[.pointer (some ⟨2,31,none⟩)])) w:=by kernel_rfl
theorem Tryd.assignableCodeCode (w:World):(ReflectliteType.relation "AssignableTo" ReflectliteType.assignableTo #[.agg #[.pointer (some ⟨2,31,none⟩)],.iface 164 (.agg #[.pointer (some ⟨2,31,none⟩)])]).run Tryd.prog w = .ok (.bool true) w:=by kernel_rfl
theorem Tryd.typeOfWhere (v:Value) (w:World):(ReflectliteType.typeOf #[.iface 118 v]).run Tryd.prog w = .ok (.iface 164 (.agg #[.pointer (some ⟨2,118,none⟩)])) w:=by kernel_rfl
theorem Tryd.assignableWhereCode (w:World):(ReflectliteType.relation "AssignableTo" ReflectliteType.assignableTo #[.agg #[.pointer (some ⟨2,118,none⟩)],.iface 164 (.agg #[.pointer (some ⟨2,31,none⟩)])]).run Tryd.prog w = .ok (.bool false) w:=by kernel_rfl
theorem Tryd.typeOfField (v:Value) (w:World):(ReflectliteType.typeOf #[.iface 139 v]).run Tryd.prog w = .ok (.iface 164 (.agg #[.pointer (some ⟨2,139,none⟩)])) w:=by kernel_rfl
theorem Tryd.assignableFieldCode (w:World):(ReflectliteType.relation "AssignableTo" ReflectliteType.assignableTo #[.agg #[.pointer (some ⟨2,139,none⟩)],.iface 164 (.agg #[.pointer (some ⟨2,31,none⟩)])]).run Tryd.prog w = .ok (.bool false) w:=by kernel_rfl
theorem Tryd.typeOfOther (v:Value) (w:World):(ReflectliteType.typeOf #[.iface 195 v]).run Tryd.prog w = .ok (.iface 164 (.agg #[.pointer (some ⟨2,195,none⟩)])) w:=by kernel_rfl
theorem Tryd.assignableOtherCode (w:World):(ReflectliteType.relation "AssignableTo" ReflectliteType.assignableTo #[.agg #[.pointer (some ⟨2,195,none⟩)],.iface 164 (.agg #[.pointer (some ⟨2,31,none⟩)])]).run Tryd.prog w = .ok (.bool false) w:=by kernel_rfl
theorem Tryd.isAsCode (v:Value) (w:World):(Instr.typeAssert (.iface 31 v) 28 169 true).run Tryd.prog w = .ok (.tuple #[.nilIface,.bool false]) w:=run_typeAssert_lacksB Tryd.underlying169 (by kernel_rfl) (by kernel_rfl) v 28 w
theorem Tryd.isUnCode (v:Value) (w:World):(Instr.typeAssert (.iface 31 v) 28 172 true).run Tryd.prog w = .ok (.tuple #[.nilIface,.bool false]) w:=run_typeAssert_lacksB Tryd.underlying172 (by kernel_rfl) (by kernel_rfl) v 28 w
theorem Tryd.isUnlCode (v:Value) (w:World):(Instr.typeAssert (.iface 31 v) 28 174 true).run Tryd.prog w = .ok (.tuple #[.nilIface,.bool false]) w:=run_typeAssert_lacksB Tryd.underlying174 (by kernel_rfl) (by kernel_rfl) v 28 w
theorem Tryd.isAsWhere (v:Value) (w:World):(Instr.typeAssert (.iface 118 v) 28 169 true).run Tryd.prog w = .ok (.tuple #[.nilIface,.bool false]) w:=run_typeAssert_lacksB Tryd.underlying169 (by kernel_rfl) (by kernel_rfl) v 28 w
theorem Tryd.isUnWhere (v:Value) (w:World):(Instr.typeAssert (.iface 118 v) 28 172 true).run Tryd.prog w = .ok (.tuple #[.iface 118 v,.bool true]) w:=by kernel_rfl
theorem Tryd.unwrapWhere (v:Value) (w:World):(Go.method 328 118 v "Unwrap").run Tryd.prog w = .ok (124,v) w:=by kernel_rfl
theorem Tryd.isAsField (v:Value) (w:World):(Instr.typeAssert (.iface 139 v) 28 169 true).run Tryd.prog w = .ok (.tuple #[.nilIface,.bool false]) w:=run_typeAssert_lacksB Tryd.underlying169 (by kernel_rfl) (by kernel_rfl) v 28 w
theorem Tryd.isUnField (v:Value) (w:World):(Instr.typeAssert (.iface 139 v) 28 172 true).run Tryd.prog w = .ok (.tuple #[.iface 139 v,.bool true]) w:=by kernel_rfl
theorem Tryd.unwrapField (v:Value) (w:World):(Go.method 328 139 v "Unwrap").run Tryd.prog w = .ok (129,v) w:=by kernel_rfl
theorem Tryd.isAsOther (v:Value) (w:World):(Instr.typeAssert (.iface 195 v) 28 169 true).run Tryd.prog w = .ok (.tuple #[.nilIface,.bool false]) w:=run_typeAssert_lacksB Tryd.underlying169 (by kernel_rfl) (by kernel_rfl) v 28 w
theorem Tryd.isUnOther (v:Value) (w:World):(Instr.typeAssert (.iface 195 v) 28 172 true).run Tryd.prog w = .ok (.tuple #[.nilIface,.bool false]) w:=run_typeAssert_lacksB Tryd.underlying172 (by kernel_rfl) (by kernel_rfl) v 28 w
theorem Tryd.isUnlOther (v:Value) (w:World):(Instr.typeAssert (.iface 195 v) 28 174 true).run Tryd.prog w = .ok (.tuple #[.nilIface,.bool false]) w:=run_typeAssert_lacksB Tryd.underlying174 (by kernel_rfl) (by kernel_rfl) v 28 w
end Go.Proofs.YtcblkndiclkacaaDoor
