/-
  errors.As and what it zz on, at the targets that the code has: closed facts on the model's entries for internal/reflectlite, and the contracts of errors.as and errors.As over a chain of wraps.
-/
import Derived.Test.YtmlghmjjlpioeaaGreatDoorKit
import Derived.LaidEql
import Derived.Stop.Asserts
import Derived.RowKitTokens
namespace Go.Proofs.YtmlghmjjlpioeaaGreatDoor
open Go.RowKit Go.Extern.Stop Go.Stop Go.Extern
theorem rlm (z:Sem Value)(f:TypeId->Addr->Nat->Nat->Sem Value)(v:Value) :
  ReflectliteValue.method z f #[v]=(do match <-ReflectliteValue.parts v with|none=>z|some (t,a,fl)=>f t a fl (fl%32)):=rfl
theorem rls (v x:Value):ReflectliteValue.set #[v,x]=(do
  let (some (dst,a,fl),some (src,b,_)):=(<-ReflectliteValue.parts v,<-ReflectliteValue.parts x)
   | unsupported (.noEntry "extern/(internal/reflectlite.Value).Set.zeroValue")
  if fl / ReflectliteValue.flagAddr % 2 == 0 then unsupported (.noEntry "extern/(internal/reflectlite.Value).Set.unaddressable")
  let val <-loadVar src b
  if <-Rtype.directlyAssignable dst src then storeVar dst a val
  else if <-Rtype.implements dst src then
   if (<-Rtype.kind src) == 20 then
    match val with
    | .nilIface=>unsupported (.noEntry "extern/reflectlite: a nil value of one interface type handed on as a value of another")
    | _=>storeVar dst a val
   else storeVar dst a (.iface src val)
  else panicString ("reflectlite.Set: value of type " ++ (←Rtype.spelt src) ++ " is not assignable to type " ++ (←Rtype.spelt dst))
  pure (.tuple #[])):=rfl
theorem Tryz.methodKind (h:Value)(w:World):(Go.method 431 261 (.agg #[h]) "Kind").run Tryz.prog w = .ok (200,h) w:=by kernel_rfl
theorem Tryz.methodElem (h:Value)(w:World):(Go.method 431 261 (.agg #[h]) "Elem").run Tryz.prog w = .ok (215,.agg #[h]) w:=by kernel_rfl
theorem Tryz.methodImplements (h:Value)(w:World):(Go.method 431 261 (.agg #[h]) "Implements").run Tryz.prog w = .ok (216,.agg #[h]) w:=by kernel_rfl
theorem Tryz.methodAssignableTo (h:Value)(w:World):(Go.method 431 261 (.agg #[h]) "AssignableTo").run Tryz.prog w = .ok (213,.agg #[h]) w:=by kernel_rfl
theorem Tryz.valueOfPCode (t:Addr)(w:World):(ReflectliteValue.unpack (.iface 167 (.pointer (some t)))).run Tryz.prog w
  = .ok (.agg #[.pointer (some ⟨2,167,none⟩),.pointer (some ⟨w.heap.size,0,none⟩),.int .u64 150]) (w.alloc (.cells #[.pointer (some t)] 167)):=by kernel_rfl
theorem Tryz.typePCode (a:Addr)(w:World):(ReflectliteValue.methodAny (ReflectliteValue.valueError "reflectlite.Value.Type" 0) (fun t _ _ _=>ReflectliteType.toType t) #[.agg #[.pointer (some ⟨2,167,none⟩),.pointer (some a),.int .u64 150]]).run Tryz.prog w
  = .ok (.iface 261 (.agg #[.pointer (some ⟨2,167,none⟩)])) w:=by kernel_rfl
theorem Tryz.kindPCode (w:World):((ReflectliteType.abiMethod fun t=>(fun a:Nat=>Value.int IntKind.u8 (a:Int)) <$> Rtype.kind t) #[.pointer (some ⟨2,167,none⟩)]).run Tryz.prog w=.ok (.int .u8 22) w:=by kernel_rfl
theorem Tryz.kindCode (w:World):((ReflectliteType.abiMethod fun t=>(fun a:Nat=>Value.int IntKind.u8 (a:Int)) <$> Rtype.kind t) #[.pointer (some ⟨2,103,none⟩)]).run Tryz.prog w=.ok (.int .u8 2) w:=by kernel_rfl
theorem Tryz.partsPCode (a:Addr)(w:World):(ReflectliteValue.parts (.agg #[.pointer (some ⟨2,167,none⟩),.pointer (some a),.int .u64 150])).run Tryz.prog w=.ok (some (167,a,150)) w:=by kernel_rfl
theorem Tryz.isNilPCode (a p:Addr)(W:World)(ha:W.cell? a=some (.pointer (some p))) :
  (ReflectliteValue.method (ReflectliteValue.valueError "reflectlite.Value.IsNil" 0) ReflectliteValue.isNil #[.agg #[.pointer (some ⟨2,167,none⟩),.pointer (some a),.int .u64 150]]).run Tryz.prog W = .ok (.bool false) W:=by
 rw[rlm]
 simp only[Sem.run_bind,Tryz.partsPCode,Result.andThen]
 simp[ReflectliteValue.isNil,loadVar,isAgg,underlying,Tryz.underlying167,ha,Result.andThen]
theorem Tryz.elemPCode (w:World):(ReflectliteType.method ReflectliteType.elem #[.agg #[.pointer (some ⟨2,167,none⟩)]]).run Tryz.prog w=.ok (.iface 261 (.agg #[.pointer (some ⟨2,103,none⟩)])) w:=by kernel_rfl
theorem Tryz.implementsCode (w:World):(ReflectliteType.relation "Implements" ReflectliteType.implements_ #[.agg #[.pointer (some ⟨2,103,none⟩)],.iface 261 (.agg #[.pointer (some ⟨2,35,none⟩)])]).run Tryz.prog w = .ok (.bool true) w:=by kernel_rfl
theorem Tryz.elemOfPCode (w:World):(Rtype.elem? 167).run Tryz.prog w=.ok (some 103) w:=by kernel_rfl
theorem Tryz.mkCode (p:Addr)(w:World):(ReflectliteValue.mk 103 p ReflectliteValue.flagAddr).run Tryz.prog w=.ok (.agg #[.pointer (some ⟨2,103,none⟩),.pointer (some p),.int .u64 386]) w:=by kernel_rfl
theorem Tryz.elemVPCode (a p:Addr)(W:World)(ha:W.cell? a=some (.pointer (some p))) :
  (ReflectliteValue.method (ReflectliteValue.valueError "reflectlite.Value.Elem" 0) ReflectliteValue.elem #[.agg #[.pointer (some ⟨2,167,none⟩),.pointer (some a),.int .u64 150]]).run Tryz.prog W
   = .ok (.agg #[.pointer (some ⟨2,103,none⟩),.pointer (some p),.int .u64 386]) W:=by
 rw[rlm]
 simp only[Sem.run_bind,Tryz.partsPCode,Result.andThen]
 simp[ReflectliteValue.elem,loadVar,isAgg,underlying,Tryz.underlying167,ha,Result.andThen,Tryz.elemOfPCode,Tryz.mkCode]
theorem Tryz.valueOfCode (e:Int)(w:World):(ReflectliteValue.unpack (.iface 103 (.int .i64 e))).run Tryz.prog w
  = .ok (.agg #[.pointer (some ⟨2,103,none⟩),.pointer (some ⟨w.heap.size,0,none⟩),.int .u64 130]) (w.alloc (.cells #[.int .i64 e] 103)):=by kernel_rfl
theorem Tryz.partsACode (a:Addr)(w:World):(ReflectliteValue.parts (.agg #[.pointer (some ⟨2,103,none⟩),.pointer (some a),.int .u64 386])).run Tryz.prog w=.ok (some (103,a,386)) w:=by kernel_rfl
theorem Tryz.partsCode (a:Addr)(w:World):(ReflectliteValue.parts (.agg #[.pointer (some ⟨2,103,none⟩),.pointer (some a),.int .u64 130])).run Tryz.prog w=.ok (some (103,a,130)) w:=by kernel_rfl
theorem Tryz.directCode (w:World):(Rtype.directlyAssignable 103 103).run Tryz.prog w=.ok true w:=by kernel_rfl
theorem Tryz.setCode (ta b:Addr)(e:Int)(old:Value)(W:World)(hb:W.cell? b=some (.int .i64 e))(ht:W.cell? ta=some old)(hf:W.frozen? ta=false) :
  (ReflectliteValue.set #[.agg #[.pointer (some ⟨2,103,none⟩),.pointer (some ta),.int .u64 386],.agg #[.pointer (some ⟨2,103,none⟩),.pointer (some b),.int .u64 130]]).run Tryz.prog W
   = .ok (.tuple #[]) (W.setCell ta (.int .i64 e)):=by
 rw[rls]
 simp only[Sem.run_bind,Tryz.partsACode,Tryz.partsCode,Result.andThen]
 simp[ReflectliteValue.flagAddr,loadVar,isAgg,underlying,Tryz.underlying103,hb,Result.andThen,Tryz.directCode,storeVar,Value.cells,storeCells,Addr.add]
 rw[run_store Tryz.prog W ta _ _ (by rfl)]
 simp[ht,hf]
theorem Tryz.valueOfPWhere (t:Addr)(w:World):(ReflectliteValue.unpack (.iface 164 (.pointer (some t)))).run Tryz.prog w
  = .ok (.agg #[.pointer (some ⟨2,164,none⟩),.pointer (some ⟨w.heap.size,0,none⟩),.int .u64 150]) (w.alloc (.cells #[.pointer (some t)] 164)):=by kernel_rfl
theorem Tryz.typePWhere (a:Addr)(w:World):(ReflectliteValue.methodAny (ReflectliteValue.valueError "reflectlite.Value.Type" 0) (fun t _ _ _=>ReflectliteType.toType t) #[.agg #[.pointer (some ⟨2,164,none⟩),.pointer (some a),.int .u64 150]]).run Tryz.prog w
  = .ok (.iface 261 (.agg #[.pointer (some ⟨2,164,none⟩)])) w:=by kernel_rfl
theorem Tryz.kindPWhere (w:World):((ReflectliteType.abiMethod fun t=>(fun a:Nat=>Value.int IntKind.u8 (a:Int)) <$> Rtype.kind t) #[.pointer (some ⟨2,164,none⟩)]).run Tryz.prog w=.ok (.int .u8 22) w:=by kernel_rfl
theorem Tryz.kindWhere (w:World):((ReflectliteType.abiMethod fun t=>(fun a:Nat=>Value.int IntKind.u8 (a:Int)) <$> Rtype.kind t) #[.pointer (some ⟨2,162,none⟩)]).run Tryz.prog w=.ok (.int .u8 22) w:=by kernel_rfl
theorem Tryz.partsPWhere (a:Addr)(w:World):(ReflectliteValue.parts (.agg #[.pointer (some ⟨2,164,none⟩),.pointer (some a),.int .u64 150])).run Tryz.prog w=.ok (some (164,a,150)) w:=by kernel_rfl
theorem Tryz.isNilPWhere (a p:Addr)(W:World)(ha:W.cell? a=some (.pointer (some p))) :
  (ReflectliteValue.method (ReflectliteValue.valueError "reflectlite.Value.IsNil" 0) ReflectliteValue.isNil #[.agg #[.pointer (some ⟨2,164,none⟩),.pointer (some a),.int .u64 150]]).run Tryz.prog W = .ok (.bool false) W:=by
 rw[rlm]
 simp only[Sem.run_bind,Tryz.partsPWhere,Result.andThen]
 simp[ReflectliteValue.isNil,loadVar,isAgg,underlying,Tryz.underlying164,ha,Result.andThen]
theorem Tryz.elemPWhere (w:World):(ReflectliteType.method ReflectliteType.elem #[.agg #[.pointer (some ⟨2,164,none⟩)]]).run Tryz.prog w=.ok (.iface 261 (.agg #[.pointer (some ⟨2,162,none⟩)])) w:=by kernel_rfl
theorem Tryz.implementsWhere (w:World):(ReflectliteType.relation "Implements" ReflectliteType.implements_ #[.agg #[.pointer (some ⟨2,162,none⟩)],.iface 261 (.agg #[.pointer (some ⟨2,35,none⟩)])]).run Tryz.prog w = .ok (.bool true) w:=by kernel_rfl
theorem Tryz.elemOfPWhere (w:World):(Rtype.elem? 164).run Tryz.prog w=.ok (some 162) w:=by kernel_rfl
theorem Tryz.mkWhere (p:Addr)(w:World):(ReflectliteValue.mk 162 p ReflectliteValue.flagAddr).run Tryz.prog w=.ok (.agg #[.pointer (some ⟨2,162,none⟩),.pointer (some p),.int .u64 406]) w:=by kernel_rfl
theorem Tryz.elemVPWhere (a p:Addr)(W:World)(ha:W.cell? a=some (.pointer (some p))) :
  (ReflectliteValue.method (ReflectliteValue.valueError "reflectlite.Value.Elem" 0) ReflectliteValue.elem #[.agg #[.pointer (some ⟨2,164,none⟩),.pointer (some a),.int .u64 150]]).run Tryz.prog W
   = .ok (.agg #[.pointer (some ⟨2,162,none⟩),.pointer (some p),.int .u64 406]) W:=by
 rw[rlm]
 simp only[Sem.run_bind,Tryz.partsPWhere,Result.andThen]
 simp[ReflectliteValue.elem,loadVar,isAgg,underlying,Tryz.underlying164,ha,Result.andThen,Tryz.elemOfPWhere,Tryz.mkWhere]
theorem Tryz.valueOfWhere (e:Addr)(w:World):(ReflectliteValue.unpack (.iface 162 (.pointer (some e)))).run Tryz.prog w
  = .ok (.agg #[.pointer (some ⟨2,162,none⟩),.pointer (some ⟨w.heap.size,0,none⟩),.int .u64 150]) (w.alloc (.cells #[.pointer (some e)] 162)):=by kernel_rfl
theorem Tryz.partsAWhere (a:Addr)(w:World):(ReflectliteValue.parts (.agg #[.pointer (some ⟨2,162,none⟩),.pointer (some a),.int .u64 406])).run Tryz.prog w=.ok (some (162,a,406)) w:=by kernel_rfl
theorem Tryz.partsWhere (a:Addr)(w:World):(ReflectliteValue.parts (.agg #[.pointer (some ⟨2,162,none⟩),.pointer (some a),.int .u64 150])).run Tryz.prog w=.ok (some (162,a,150)) w:=by kernel_rfl
theorem Tryz.directWhere (w:World):(Rtype.directlyAssignable 162 162).run Tryz.prog w=.ok true w:=by kernel_rfl
theorem Tryz.setWhere (ta b e:Addr)(old:Value)(W:World)(hb:W.cell? b=some (.pointer (some e)))(ht:W.cell? ta=some old)(hf:W.frozen? ta=false) :
  (ReflectliteValue.set #[.agg #[.pointer (some ⟨2,162,none⟩),.pointer (some ta),.int .u64 406],.agg #[.pointer (some ⟨2,162,none⟩),.pointer (some b),.int .u64 150]]).run Tryz.prog W
   = .ok (.tuple #[]) (W.setCell ta (.pointer (some e))):=by
 rw[rls]
 simp only[Sem.run_bind,Tryz.partsAWhere,Tryz.partsWhere,Result.andThen]
 simp[ReflectliteValue.flagAddr,loadVar,isAgg,underlying,Tryz.underlying162,hb,Result.andThen,Tryz.directWhere,storeVar,Value.cells,storeCells,Addr.add]
 rw[run_store Tryz.prog W ta _ _ (by rfl)]
 simp[ht,hf]
theorem Tryz.typeOfCode (v:Value)(w:World):(ReflectliteType.typeOf #[.iface 103 v]).run Tryz.prog w=.ok (.iface 261 (.agg #[.pointer (some ⟨2,103,none⟩)])) w:=by kernel_rfl
theorem Tryz.assignableCodeCode (w:World):(ReflectliteType.relation "AssignableTo" ReflectliteType.assignableTo #[.agg #[.pointer (some ⟨2,103,none⟩)],.iface 261 (.agg #[.pointer (some ⟨2,103,none⟩)])]).run Tryz.prog w = .ok (.bool true) w:=by kernel_rfl
theorem Tryz.assignableCodeWhere (w:World):(ReflectliteType.relation "AssignableTo" ReflectliteType.assignableTo #[.agg #[.pointer (some ⟨2,103,none⟩)],.iface 261 (.agg #[.pointer (some ⟨2,162,none⟩)])]).run Tryz.prog w = .ok (.bool false) w:=by kernel_rfl
theorem Tryz.typeOfWhere (v:Value)(w:World):(ReflectliteType.typeOf #[.iface 162 v]).run Tryz.prog w=.ok (.iface 261 (.agg #[.pointer (some ⟨2,162,none⟩)])) w:=by kernel_rfl
theorem Tryz.assignableWhereCode (w:World):(ReflectliteType.relation "AssignableTo" ReflectliteType.assignableTo #[.agg #[.pointer (some ⟨2,162,none⟩)],.iface 261 (.agg #[.pointer (some ⟨2,103,none⟩)])]).run Tryz.prog w = .ok (.bool false) w:=by kernel_rfl
theorem Tryz.assignableWhereWhere (w:World):(ReflectliteType.relation "AssignableTo" ReflectliteType.assignableTo #[.agg #[.pointer (some ⟨2,162,none⟩)],.iface 261 (.agg #[.pointer (some ⟨2,162,none⟩)])]).run Tryz.prog w = .ok (.bool true) w:=by kernel_rfl
theorem Tryz.typeOfField (v:Value)(w:World):(ReflectliteType.typeOf #[.iface 139 v]).run Tryz.prog w=.ok (.iface 261 (.agg #[.pointer (some ⟨2,139,none⟩)])) w:=by kernel_rfl
theorem Tryz.assignableFieldCode (w:World):(ReflectliteType.relation "AssignableTo" ReflectliteType.assignableTo #[.agg #[.pointer (some ⟨2,139,none⟩)],.iface 261 (.agg #[.pointer (some ⟨2,103,none⟩)])]).run Tryz.prog w = .ok (.bool false) w:=by kernel_rfl
theorem Tryz.assignableFieldWhere (w:World):(ReflectliteType.relation "AssignableTo" ReflectliteType.assignableTo #[.agg #[.pointer (some ⟨2,139,none⟩)],.iface 261 (.agg #[.pointer (some ⟨2,162,none⟩)])]).run Tryz.prog w = .ok (.bool false) w:=by kernel_rfl
theorem Tryz.isAsCode (v:Value)(w:World):(Instr.typeAssert (.iface 103 v) 35 265 true).run Tryz.prog w=.ok (.tuple #[.nilIface,.bool false]) w:=run_typeAssert_lacksB Tryz.underlying265 (by kernel_rfl) (by kernel_rfl) v 35 w
theorem Tryz.isUnCode (v:Value)(w:World):(Instr.typeAssert (.iface 103 v) 35 268 true).run Tryz.prog w=.ok (.tuple #[.nilIface,.bool false]) w:=run_typeAssert_lacksB Tryz.underlying268 (by kernel_rfl) (by kernel_rfl) v 35 w
theorem Tryz.isUnlCode (v:Value)(w:World):(Instr.typeAssert (.iface 103 v) 35 269 true).run Tryz.prog w=.ok (.tuple #[.nilIface,.bool false]) w:=run_typeAssert_lacksB Tryz.underlying269 (by kernel_rfl) (by kernel_rfl) v 35 w
theorem Tryz.isAsWhere (v:Value)(w:World):(Instr.typeAssert (.iface 162 v) 35 265 true).run Tryz.prog w=.ok (.tuple #[.nilIface,.bool false]) w:=run_typeAssert_lacksB Tryz.underlying265 (by kernel_rfl) (by kernel_rfl) v 35 w
theorem Tryz.isUnWhere (v:Value)(w:World):(Instr.typeAssert (.iface 162 v) 35 268 true).run Tryz.prog w=.ok (.tuple #[.iface 162 v,.bool true]) w:=by kernel_rfl
theorem Tryz.unwrapWhere (v:Value)(w:World):(Go.method 431 162 v "Unwrap").run Tryz.prog w = .ok (207,v) w:=by kernel_rfl
theorem Tryz.isAsField (v:Value)(w:World):(Instr.typeAssert (.iface 139 v) 35 265 true).run Tryz.prog w=.ok (.tuple #[.nilIface,.bool false]) w:=run_typeAssert_lacksB Tryz.underlying265 (by kernel_rfl) (by kernel_rfl) v 35 w
theorem Tryz.isUnField (v:Value)(w:World):(Instr.typeAssert (.iface 139 v) 35 268 true).run Tryz.prog w=.ok (.tuple #[.iface 139 v,.bool true]) w:=by kernel_rfl
theorem Tryz.unwrapField (v:Value)(w:World):(Go.method 431 139 v "Unwrap").run Tryz.prog w = .ok (205,v) w:=by kernel_rfl
end Go.Proofs.YtmlghmjjlpioeaaGreatDoor
