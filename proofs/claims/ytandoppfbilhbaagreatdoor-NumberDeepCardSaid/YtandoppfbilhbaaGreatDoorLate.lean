/-
 What the other texts leave out here.
-/
import Derived.Test.YtandoppfbilhbaaGreatDoorErrFacts
import Derived.Test.YtandoppfbilhbaaGreatDoorErrAs
import Derived.Test.YtandoppfbilhbaaGreatDoorErrNew
import Derived.Test.YtandoppfbilhbaaGreatDoorVal
import Derived.Test.YtandoppfbilhbaaGreatDoorRefMsg
import Derived.Test.YtandoppfbilhbaaGreatDoorFld
import Derived.Test.YtandoppfbilhbaaGreatDoorExBack
namespace Go.Proofs.YtandoppfbilhbaaGreatDoor
open Go.RowKit Go.Extern.Stop Go.Stop Go.Extern
theorem Tryz.valueOfPWhere (t : Addr) (w : World) : (ReflectliteValue.unpack (.iface 133 (.pointer (some t)))).run Tryz.prog w
  = .ok (.agg #[.pointer (some ⟨2, 133, none⟩), .pointer (some ⟨w.heap.size, 0, none⟩), .int .u64 150]) (w.alloc (.cells #[.pointer (some t)] 133)) := by kernel_rfl
theorem Tryz.typePWhere (a : Addr) (w : World) : (ReflectliteValue.methodAny (ReflectliteValue.valueError "reflectlite.Value.Type" 0) (fun t _ _ _ => ReflectliteType.toType t) #[.agg #[.pointer (some ⟨2, 133, none⟩), .pointer (some a), .int .u64 150]]).run Tryz.prog w
  = .ok (.iface 192 (.agg #[.pointer (some ⟨2, 133, none⟩)])) w := by kernel_rfl
theorem Tryz.kindPWhere (w : World) : ((ReflectliteType.abiMethod fun t => (fun a : Nat => Value.int IntKind.u8 (a : Int)) <$> Rtype.kind t) #[.pointer (some ⟨2, 133, none⟩)]).run Tryz.prog w = .ok (.int .u8 22) w := by kernel_rfl
theorem Tryz.kindWhere (w : World) : ((ReflectliteType.abiMethod fun t => (fun a : Nat => Value.int IntKind.u8 (a : Int)) <$> Rtype.kind t) #[.pointer (some ⟨2, 132, none⟩)]).run Tryz.prog w = .ok (.int .u8 22) w := by kernel_rfl
theorem Tryz.partsPWhere (a : Addr) (w : World) : (ReflectliteValue.parts (.agg #[.pointer (some ⟨2, 133, none⟩), .pointer (some a), .int .u64 150])).run Tryz.prog w = .ok (some (133, a, 150)) w := by kernel_rfl
theorem Tryz.isNilPWhere (a p : Addr) (W : World) (ha : W.cell? a = some (.pointer (some p))) :
  (ReflectliteValue.method (ReflectliteValue.valueError "reflectlite.Value.IsNil" 0) ReflectliteValue.isNil #[.agg #[.pointer (some ⟨2, 133, none⟩), .pointer (some a), .int .u64 150]]).run Tryz.prog W = .ok (.bool false) W := by
 rw [rlm]
 simp only [Sem.run_bind, Tryz.partsPWhere, Result.andThen]
 simp [ReflectliteValue.isNil, loadVar, isAgg, underlying, Tryz.underlying133, ha, Result.andThen]
theorem Tryz.elemPWhere (w : World) : (ReflectliteType.method ReflectliteType.elem #[.agg #[.pointer (some ⟨2, 133, none⟩)]]).run Tryz.prog w = .ok (.iface 192 (.agg #[.pointer (some ⟨2, 132, none⟩)])) w := by kernel_rfl
theorem Tryz.implementsWhere (w : World) : (ReflectliteType.relation "Implements" ReflectliteType.implements_ #[.agg #[.pointer (some ⟨2, 132, none⟩)], .iface 192 (.agg #[.pointer (some ⟨2, 28, none⟩)])]).run Tryz.prog w = .ok (.bool true) w := by kernel_rfl
theorem Tryz.elemOfPWhere (w : World) : (Rtype.elem? 133).run Tryz.prog w = .ok (some 132) w := by kernel_rfl
theorem Tryz.mkWhere (p : Addr) (w : World) : (ReflectliteValue.mk 132 p ReflectliteValue.flagAddr).run Tryz.prog w = .ok (.agg #[.pointer (some ⟨2, 132, none⟩), .pointer (some p), .int .u64 406]) w := by kernel_rfl
theorem Tryz.elemVPWhere (a p : Addr) (W : World) (ha : W.cell? a = some (.pointer (some p))) :
  (ReflectliteValue.method (ReflectliteValue.valueError "reflectlite.Value.Elem" 0) ReflectliteValue.elem #[.agg #[.pointer (some ⟨2, 133, none⟩), .pointer (some a), .int .u64 150]]).run Tryz.prog W
   = .ok (.agg #[.pointer (some ⟨2, 132, none⟩), .pointer (some p), .int .u64 406]) W := by
 rw [rlm]
 simp only [Sem.run_bind, Tryz.partsPWhere, Result.andThen]
 simp [ReflectliteValue.elem, loadVar, isAgg, underlying, Tryz.underlying133, ha, Result.andThen, Tryz.elemOfPWhere, Tryz.mkWhere]
theorem Tryz.valueOfWhere (e : Addr) (w : World) : (ReflectliteValue.unpack (.iface 132 (.pointer (some e)))).run Tryz.prog w
  = .ok (.agg #[.pointer (some ⟨2, 132, none⟩), .pointer (some ⟨w.heap.size, 0, none⟩), .int .u64 150]) (w.alloc (.cells #[.pointer (some e)] 132)) := by kernel_rfl
theorem Tryz.partsAWhere (a : Addr) (w : World) : (ReflectliteValue.parts (.agg #[.pointer (some ⟨2, 132, none⟩), .pointer (some a), .int .u64 406])).run Tryz.prog w = .ok (some (132, a, 406)) w := by kernel_rfl
theorem Tryz.partsWhere (a : Addr) (w : World) : (ReflectliteValue.parts (.agg #[.pointer (some ⟨2, 132, none⟩), .pointer (some a), .int .u64 150])).run Tryz.prog w = .ok (some (132, a, 150)) w := by kernel_rfl
theorem Tryz.directWhere (w : World) : (Rtype.directlyAssignable 132 132).run Tryz.prog w = .ok true w := by kernel_rfl
theorem Tryz.setWhere (ta b : Addr) (e : Addr) (old : Value) (W : World) (hb : W.cell? b = some (.pointer (some e))) (ht : W.cell? ta = some old) (hf : W.frozen? ta = false) :
  (ReflectliteValue.set #[.agg #[.pointer (some ⟨2, 132, none⟩), .pointer (some ta), .int .u64 406], .agg #[.pointer (some ⟨2, 132, none⟩), .pointer (some b), .int .u64 150]]).run Tryz.prog W
   = .ok (.tuple #[]) (W.setCell ta (.pointer (some e))) := by
 rw [rls]
 simp only [Sem.run_bind, Tryz.partsAWhere, Tryz.partsWhere, Result.andThen]
 simp [ReflectliteValue.flagAddr, loadVar, isAgg, underlying, Tryz.underlying132, hb, Result.andThen, Tryz.directWhere, storeVar, Value.cells, storeCells, Addr.add]
 rw [run_store Tryz.prog W ta _ _ (by rfl)]
 simp [ht, hf]
theorem Tryz.assignableCodeWhere (w : World) : (ReflectliteType.relation "AssignableTo" ReflectliteType.assignableTo #[.agg #[.pointer (some ⟨2, 42, none⟩)], .iface 192 (.agg #[.pointer (some ⟨2, 132, none⟩)])]).run Tryz.prog w = .ok (.bool false) w := by kernel_rfl
theorem Tryz.assignableWhereWhere (w : World) : (ReflectliteType.relation "AssignableTo" ReflectliteType.assignableTo #[.agg #[.pointer (some ⟨2, 132, none⟩)], .iface 192 (.agg #[.pointer (some ⟨2, 132, none⟩)])]).run Tryz.prog w = .ok (.bool true) w := by kernel_rfl
theorem Tryz.assignableFieldWhere (w : World) : (ReflectliteType.relation "AssignableTo" ReflectliteType.assignableTo #[.agg #[.pointer (some ⟨2, 123, none⟩)], .iface 192 (.agg #[.pointer (some ⟨2, 132, none⟩)])]).run Tryz.prog w = .ok (.bool false) w := by kernel_rfl
theorem oneUpd_box {w : World} {t : Nat} {T : TypeId} {old : Value} (ht : w.heap[t]? = some (.cells #[old] T (0, 0))) (o : Obj) : OneUpd w (w.alloc o) t T old :=
 ⟨rfl, rfl, rfl, by simp, fun k hk _ => Below.heap_alloc _ _ _ hk, (Below.heap_alloc _ _ _ (Array.getElem?_eq_some_iff.1 ht).1).trans ht⟩
def firstOf (b : Bool) : List (Bool × Int) → Option (Int × List (Bool × Int))
 | [] => none
 | (c, n) :: ws => if c = b then some (n, ws) else firstOf b ws
def AsWhere (ws : List (Bool × Int)) (r : Value) (t : Nat) (old : Value) (w0 w : World) (e : Ending) (w' : World) : Prop :=
 match firstOf true ws with
 | none => e = .returned (.bool false) ∧ OneUpd w w' t 132 old
 | some (n, rest) => ∃ a x, e = .returned (.bool true) ∧ OneUpd w w' t 132 (.pointer (some ⟨a, 0, none⟩)) ∧ a < w0.heap.size ∧ w0.heap[a]? = some (.cells #[.int .i64 n, x] 135 (0, 0)) ∧ isErr w0 rest x r
set_option maxRecDepth 1000000 in
set_option maxHeartbeats 8000000 in
theorem as_where (ws : List (Bool × Int)) (v r : Value) (tg : Value) (p t : Nat) (w0 w : World) (he : isErr w0 ws v r) (hb0 : Below w0.heap.size w0 w) (hroot : isRoot r) (old : Value)
  (ht : w.heap[t]? = some (.cells #[old] 132 (0, 0))) (hp : w.heap[p]? = some (.cells #[.pointer (some ⟨t, 0, none⟩)] 133 (0, 0))) :
  Calls Tryz.prog 106 #[v, tg, .agg #[.pointer (some ⟨2, 133, none⟩), .pointer (some ⟨p, 0, none⟩), .int .u64 150], .iface 192 (.agg #[.pointer (some ⟨2, 132, none⟩)])] w
   (AsWhere ws r t old w0 w) := by
 go_enter Tryz.func106, Tryz.ntmps106
 have h25 := @run_callFunc_extern Tryz.prog 137 _ ReflectliteType.typeOf Tryz.func137 (by kernel_rfl) (by kernel_rfl) (by kernel_rfl) (by kernel_rfl)
 have h63 := @run_callFunc_extern Tryz.prog 208 _ (ReflectliteType.relation "AssignableTo" ReflectliteType.assignableTo) Tryz.func208 (by kernel_rfl) (by kernel_rfl) (by kernel_rfl) (by kernel_rfl)
 have mA := Tryz.methodAssignableTo
 have kktCode := Tryz.typeOfCode
 have kkaCode := Tryz.assignableCodeWhere
 have kkiCode := Tryz.isAsCode
 have kkuCode := Tryz.isUnCode
 have kklCode := Tryz.isUnlCode
 have kktWhere := Tryz.typeOfWhere
 have kkaWhere := Tryz.assignableWhereWhere
 have kkiWhere := Tryz.isAsWhere
 have kkuWhere := Tryz.isUnWhere
 have kkmWhere := Tryz.unwrapWhere
 have kktField := Tryz.typeOfField
 have kkaField := Tryz.assignableFieldWhere
 have kkiField := Tryz.isAsField
 have kkuField := Tryz.isUnField
 have kkmField := Tryz.unwrapField
 have HT := Lib.hid ht
 have HP := Lib.hid hp
 have HROOT := Lib.hid hroot
 have HB := Lib.hid hb0
 clear ht hp hroot hb0
 go_wp2
 go_loopg [0] ws.length (fun k v wr => ∃ ws', ws'.length ≤ k ∧ isErr w0 ws' v r ∧ (∀ e w', AsWhere ws' r t old w0 w e w' → AsWhere ws r t old w0 w e w') ∧ wr = w.alloc (.cells #[.pointer (some ⟨2, 133, none⟩), .pointer (some ⟨p, 0, none⟩), .int .u64 150] 149))
 case atStart => exact ⟨ws, Nat.le_refl _, he, fun _ _ h => h, rfl⟩
 case round =>
  clear he
  obtain ⟨ws', hk, hr, hpost, rfl⟩ := hrel
  have HK := Lib.hid hpost
  clear hpost
  match ws', hk, hr, HK with
  | [], hk, hr, HK =>
   rcases HROOT.out with ⟨c, hc⟩
   ·obtain rfl : u0 = r := hr
    rw [codeV] at hc
    subst hc
    go_wp2
    go_ret
    exact HK.out _ _ ⟨rfl, oneUpd_box HT.out _⟩
  | (true, n) :: ws', hk, hr, HK =>
   obtain ⟨a, x, hv, ha, hh, hr'⟩ := hr
   obtain ⟨T, y, rfl⟩ := isErr_iface hr' HROOT.out
   rw [show wrapT true = 132 from rfl] at hv
   subst hv
   have HH := Lib.hid hh
   have HR := Lib.hid hr'
   clear hh hr'
   have hlt : t < w.heap.size := (Array.getElem?_eq_some_iff.1 HT.out).1
   have hpl : p < w.heap.size := (Array.getElem?_eq_some_iff.1 HP.out).1
   have h34 := @run_callFunc_extern Tryz.prog 138 _ (ReflectliteValue.method (ReflectliteValue.valueError "reflectlite.Value.Elem" 0) ReflectliteValue.elem) Tryz.func138 (by kernel_rfl) (by kernel_rfl) (by kernel_rfl) (by kernel_rfl)
   have h35 := @run_callFunc_extern Tryz.prog 139 _ ReflectliteValue.set Tryz.func139 (by kernel_rfl) (by kernel_rfl) (by kernel_rfl) (by kernel_rfl)
   have h27 := @run_callFunc_extern Tryz.prog 103 _ (fun args => ReflectliteValue.unpack (args.getD 0 (.tuple #[]))) Tryz.func103 (by kernel_rfl) (by kernel_rfl) (by kernel_rfl) (by kernel_rfl)
   have h40 := Tryz.valueOfWhere
   have h41 := Tryz.elemVPWhere ⟨p, 0, none⟩ ⟨t, 0, none⟩ (w.alloc (.cells #[.pointer (some ⟨2, 133, none⟩), .pointer (some ⟨p, 0, none⟩), .int .u64 150] 149)) (by rw [World.cell?_alloc_lt _ _ ⟨p, 0, none⟩ hpl, cell_of_row w p 0 _ _ _ HP.out]; rfl)
   have h42 := Tryz.setWhere ⟨t, 0, none⟩ ⟨w.heap.size + 1, 0, none⟩ ⟨a, 0, none⟩ old ((w.alloc (.cells #[.pointer (some ⟨2, 133, none⟩), .pointer (some ⟨p, 0, none⟩), .int .u64 150] 149)).alloc (.cells #[.pointer (some ⟨a, 0, none⟩)] 132))
    (by rw [World.cell?_alloc_at _ _ _ _ (by simp)]; rfl)
    (by rw [World.cell?_alloc_lt _ _ ⟨t, 0, none⟩ (by simp; omega), World.cell?_alloc_lt _ _ ⟨t, 0, none⟩ hlt, cell_of_row w t 0 _ _ _ HT.out]; rfl)
    (by rw [World.frozen?_alloc_old _ _ ⟨t, 0, none⟩ (by simp; omega), World.frozen?_alloc_old _ _ ⟨t, 0, none⟩ (Nat.ne_of_lt hlt)]; exact frozen_of_row w t 0 _ _ HT.out)
   go_wp2
   go_ret
   exact HK.out _ _ ⟨a, _, rfl, oneUpd_set HT.out _ _ _, ha, HH.out, HR.out⟩
  | (false, n) :: ws', hk, hr, HK =>
   obtain ⟨a, x, hv, ha, hh, hr'⟩ := hr
   obtain ⟨T, y, rfl⟩ := isErr_iface hr' HROOT.out
   rw [show wrapT false = 123 from rfl] at hv
   subst hv
   have hh2 : (w.alloc (.cells #[.pointer (some ⟨2, 133, none⟩), .pointer (some ⟨p, 0, none⟩), .int .u64 150] 149)).heap[a]? = some (.cells #[.int .i64 n, .iface T y] 125 (0, 0)) := (Below.heap_alloc _ _ _ (Nat.lt_of_lt_of_le ha HB.out.size)).trans ((HB.out.block a ha).trans hh)
   have HH := Lib.hid hh2
   have HR := Lib.hid hr'
   clear hh2 hh hr'
   go_wp2_with (go_at_call 200; refine (unwrap_field a n _ _ HH.out).mono ?_; rintro e w' ⟨rfl, rfl⟩)
   go_roundg (gk - 1)
   case measure => simp at hk; omega
   case rel => exact ⟨ws', by simp at hk; omega, HR.out, fun e w' h => HK.out e w' h, rfl⟩
set_option maxRecDepth 1000000 in
set_option maxHeartbeats 4000000 in
theorem errAs_where (ws : List (Bool × Int)) (v r : Value) (t : Nat) (w0 w : World) (he : isErr w0 ws v r) (hb0 : Below w0.heap.size w0 w) (hroot : isRoot r) (old : Value) (ht : w.heap[t]? = some (.cells #[old] 132 (0, 0)))
  (hg : w.cell? ⟨0, 0, none⟩ = some (.iface 192 (.agg #[.pointer (some ⟨2, 28, none⟩)]))) :
  Calls Tryz.prog 67 #[v, .iface 133 (.pointer (some ⟨t, 0, none⟩))] w (AsWhere ws r t old w0 w) := by
 obtain ⟨T, x, rfl⟩ := isErr_iface he hroot
 have h6 := @run_callFunc_extern Tryz.prog 103 _ (fun args => ReflectliteValue.unpack (args.getD 0 (.tuple #[]))) Tryz.func103 (by kernel_rfl) (by kernel_rfl) (by kernel_rfl) (by kernel_rfl)
 have h7 := @run_callFunc_extern Tryz.prog 104 _ (ReflectliteValue.methodAny (ReflectliteValue.valueError "reflectlite.Value.Type" 0) (fun t _ _ _ => ReflectliteType.toType t)) Tryz.func104 (by kernel_rfl) (by kernel_rfl) (by kernel_rfl) (by kernel_rfl)
 have h8 := @run_callFunc_extern Tryz.prog 105 _ (ReflectliteValue.method (ReflectliteValue.valueError "reflectlite.Value.IsNil" 0) ReflectliteValue.isNil) Tryz.func105 (by kernel_rfl) (by kernel_rfl) (by kernel_rfl) (by kernel_rfl)
 have h27 := @run_callFunc_extern Tryz.prog 195 _ (ReflectliteType.abiMethod fun t => do pure (.int .u8 (← Rtype.kind t))) Tryz.func195 (by kernel_rfl) (by kernel_rfl) (by kernel_rfl) (by kernel_rfl)
 have h37 := @run_callFunc_extern Tryz.prog 210 _ (ReflectliteType.method ReflectliteType.elem) Tryz.func210 (by kernel_rfl) (by kernel_rfl) (by kernel_rfl) (by kernel_rfl)
 have h38 := @run_callFunc_extern Tryz.prog 211 _ (ReflectliteType.relation "Implements" ReflectliteType.implements_) Tryz.func211 (by kernel_rfl) (by kernel_rfl) (by kernel_rfl) (by kernel_rfl)
 have kk1 := Tryz.valueOfPWhere
 have kk2 := Tryz.typePWhere
 have kk3 := Tryz.methodKind
 have kk4 := Tryz.methodElem
 have kk5 := Tryz.methodImplements
 have kk6 := Tryz.kindPWhere
 have kk7 := Tryz.kindWhere
 have kk8 := Tryz.elemPWhere
 have kk9 := Tryz.implementsWhere
 have hlt : 0 < w.heap.size := by
  rcases Nat.eq_zero_or_pos w.heap.size with h0 | h
  ·simp [World.cell?, h0] at hg
  ·exact h
 have h10 := Tryz.isNilPWhere ⟨w.heap.size, 0, none⟩ ⟨t, 0, none⟩ ((w.alloc (.cells #[.pointer (some ⟨t, 0, none⟩)] 133)).alloc (.cells #[.pointer (some ⟨2, 133, none⟩), .pointer (some ⟨w.heap.size, 0, none⟩), .int .u64 150] 149)) (by simp)
 have h11 : ((w.alloc (.cells #[.pointer (some ⟨t, 0, none⟩)] 133)).alloc (.cells #[.pointer (some ⟨2, 133, none⟩), .pointer (some ⟨w.heap.size, 0, none⟩), .int .u64 150] 149)).cell? ⟨0, 0, none⟩ = some (.iface 192 (.agg #[.pointer (some ⟨2, 28, none⟩)])) := by
  rw [World.cell?_alloc_lt _ _ ⟨0, 0, none⟩ (by simp), World.cell?_alloc_lt _ _ ⟨0, 0, none⟩ hlt]; exact hg
 have htl : t < w.heap.size := (Array.getElem?_eq_some_iff.1 ht).1
 have HT : Hid (((w.alloc (.cells #[.pointer (some ⟨t, 0, none⟩)] 133)).alloc (.cells #[.pointer (some ⟨2, 133, none⟩), .pointer (some ⟨w.heap.size, 0, none⟩), .int .u64 150] 149)).heap[t]? = some (.cells #[old] 132 (0, 0))) :=
  Lib.hid (by rw [Below.heap_alloc _ _ _ (by simp; omega), Below.heap_alloc _ _ _ htl]; exact ht)
 have HP : Hid (((w.alloc (.cells #[.pointer (some ⟨t, 0, none⟩)] 133)).alloc (.cells #[.pointer (some ⟨2, 133, none⟩), .pointer (some ⟨w.heap.size, 0, none⟩), .int .u64 150] 149)).heap[w.heap.size]? = some (.cells #[.pointer (some ⟨t, 0, none⟩)] 133 (0, 0))) :=
  Lib.hid (by rw [Below.heap_alloc _ _ _ (by simp)]; exact heap_alloc_new w _)
 have HE := Lib.hid he
 have HB := Lib.hid ((hb0.alloc hb0.size (.cells #[.pointer (some ⟨t, 0, none⟩)] 133)).alloc (by have := hb0.size; simp; omega) (.cells #[.pointer (some ⟨2, 133, none⟩), .pointer (some ⟨w.heap.size, 0, none⟩), .int .u64 150] 149))
 have HROOT := Lib.hid hroot
 clear ht hg hroot he hb0
 go_enter Tryz.func67, Tryz.ntmps67
 go_wp2_with fail
 go_at_call 106
 refine (as_where ws _ r _ w.heap.size t w0 _ HE.out HB.out HROOT.out old HT.out HP.out).mono ?_
 intro e w' hpost
 have HPOST := Lib.hid hpost
 clear hpost
 have hp := HPOST.out
 unfold AsWhere at hp
 cases hf : firstOf true ws with
 | none =>
  rw [hf] at hp
  obtain ⟨rfl, hu⟩ := hp
  have HF := Lib.hid hf
  have HU := Lib.hid hu
  clear hf hu
  go_wp2
  go_ret
  unfold AsWhere
  rw [HF.out]
  exact ⟨rfl, oneUpd_alloc (oneUpd_alloc HU.out)⟩
 | some y =>
  obtain ⟨n, rest⟩ := y
  rw [hf] at hp
  obtain ⟨a, x, rfl, hu, ha, hh, hr⟩ := hp
  have HF := Lib.hid hf
  have HU := Lib.hid hu
  have HX := Lib.hid (And.intro ha (And.intro hh hr))
  clear hf hu ha hh hr
  go_wp2
  go_ret
  unfold AsWhere
  rw [HF.out]
  exact ⟨a, x, rfl, oneUpd_alloc (oneUpd_alloc HU.out), HX.out⟩
def placeN (ws : List (Bool × Int)) : Int := match firstOf true ws with | some (n, _) => n | none => 0
def placeB (ws : List (Bool × Int)) : Bool := (firstOf true ws).isSome
set_option maxRecDepth 1000000 in
set_option maxHeartbeats 4000000 in
theorem place_any (ws : List (Bool × Int)) (v r : Value) (w : World) (he : isErr w ws v r) (hroot : isRoot r) (hg : Glob w) :
  Calls Tryz.prog 48 #[v] w fun e w' => e = .returned (.tuple #[.int .i64 (placeN ws), .bool (placeB ws)]) ∧ Below w.heap.size w w' := by
 obtain ⟨T, x, rfl⟩ := isErr_iface he hroot
 have HE := Lib.hid he
 have HB0 := Lib.hid ((Below.refl _ w).alloc (Nat.le_refl _) (.cells #[.pointer none] 132))
 have HG := Lib.hid (hg.alloc (.cells #[.pointer none] 132))
 have HR := Lib.hid hroot
 clear he hg hroot
 go_enter Tryz.func48, Tryz.ntmps48
 go_wp2_with fail
 go_at_call 67
 refine (errAs_where ws _ r w.heap.size w _ HE.out HB0.out HR.out (.pointer none) (heap_alloc_new w _) HG.out).mono ?_
 intro e w' hp
 unfold AsWhere at hp
 cases hf : firstOf true ws with
 | none =>
  rw [hf] at hp
  obtain ⟨rfl, hu⟩ := hp
  have HB := Lib.hid (oneUpd_below hu)
  have h1 := Lib.hid (show placeN ws = 0 by unfold placeN; rw [hf])
  have h2 := Lib.hid (show placeB ws = false by unfold placeB; rw [hf]; rfl)
  clear hf hu
  go_wp2
  go_ret2
  exact ⟨by rw [h1.out, h2.out]; rfl, HB.out⟩
 | some y =>
  obtain ⟨n, rest⟩ := y
  rw [hf] at hp
  obtain ⟨a, y, rfl, hu, ha, hh, hr⟩ := hp
  have hc : w'.cell? ⟨w.heap.size, 0, none⟩ = some (.pointer (some ⟨a, 0, none⟩)) := by rw [cell_of_row w' _ 0 _ _ _ hu.cell]; rfl
  have hne : a ≠ w.heap.size := Nat.ne_of_lt ha
  have hc2 : w'.cell? ⟨a, 0, none⟩ = some (.int .i64 n) := by
   rw [cell_of_row w' a 0 _ _ _ ((hu.block a (by simp; omega) hne).trans ((Below.heap_alloc _ _ _ ha).trans hh))]; rfl
  have HB := Lib.hid (oneUpd_below hu)
  have h1 := Lib.hid (show placeN ws = n by unfold placeN; rw [hf])
  have h2 := Lib.hid (show placeB ws = true by unfold placeB; rw [hf]; rfl)
  clear hf hu ha hh hr
  go_wp2
  go_ret2
  exact ⟨by rw [h1.out, h2.out]; rfl, HB.out⟩
theorem vmfold_code {σ : Type} {tk : Rec → Bool} {step : σ → Rec → Except Nat σ} (hs : ∀ st r c, step st r = .error c → VCode c) : ∀ (rs : List Rec) (st : σ) (c : Nat), mfold tk step st rs = .error c → VCode c
 | [], st, c, h => by cases h
 | r :: rs, st, c, h => by
  rw [mfold] at h
  split at h
  ·cases hr : step st r with
   | error c' =>
    rw [hr] at h
    simp only [Except.error.injEq] at h
    subst h
    exact hs _ _ _ hr
   | ok st' =>
    rw [hr] at h
    exact vmfold_code hs rs st' c h
  ·exact vmfold_code hs rs st c h
theorem mread_code {σ : Type} {tk : Rec → Bool} {step : σ → Rec → Except Nat σ} {st : σ} {l : List UInt8} {d : Int} {c : Nat} (hs : ∀ st r c, step st r = .error c → VCode c) (h : mread tk step st l d = .error c) : VCode c := by
 unfold mread at h
 split at h
 ·simp only [Except.error.injEq] at h
  exact .inl (.inr (.inr (.inr h.symm)))
 ·cases hw : wall l d with
  | error c' =>
   rw [hw] at h
   simp only [Except.error.injEq] at h
   subst h
   exact .inl (wal_code _ hw)
  | ok rs =>
   rw [hw] at h
   dsimp only at h
   cases hm : mfold tk step st rs with
   | error c' =>
    rw [hm] at h
    simp only [Except.error.injEq] at h
    subst h
    exact vmfold_code hs rs _ _ hm
   | ok x => rw [hm] at h; cases h
theorem ostep_code (o : One) (r : Rec) (c : Nat) (h : ostep o r = .error c) : VCode c := by
 unfold ostep at h
 split at h
 ·simp only [Except.error.injEq] at h
  exact .inr h.symm
 ·cases h
theorem kstep_code (st : List UInt8 × List (List UInt8)) (r : Rec) (c : Nat) (h : kstep st r = .error c) : VCode c := by
 unfold kstep at h
 split at h
 ·split at h
  ·cases h
  ·simp only [Except.error.injEq] at h
   exact .inr h.symm
 ·cases h
theorem lread_code {α : Type} {rd : List UInt8 → Int → Except Nat α} {l : List UInt8} {d : Int} {c : Nat} (hr : ∀ l d c, rd l d = .error c → VCode c) (h : lread rd l d = .error c) : VCode c := by
 refine mread_code (fun st r c hs => ?_) h
 unfold lstep at hs
 cases hx : rd r.s (d - 1) with
 | error c' =>
  rw [hx] at hs
  simp only [Except.error.injEq] at hs
  subst hs
  exact hr _ _ _ hx
 | ok x => rw [hx] at hs; cases hs
theorem stands_code {vr : List UInt8 → Int → Except Nat Val} {kr : List UInt8 → Int → Except Nat KV} {o : One} {d : Int} {u : List UInt8} {c : Nat} (hv : ∀ l d c, vr l d = .error c → VCode c) (hk : ∀ l d c, kr l d = .error c → VCode c) (h : stands vr kr o d u = .error c) : VCode c := by
 unfold stands at h
 split at h
 ·cases h
 ·split at h
  ·cases h
  ·split at h
   ·cases h
   ·split at h
    ·cases hl : lread vr o.ps.flatten d with
     | error c' =>
      rw [hl] at h
      simp only [Except.error.injEq] at h
      subst h
      exact lread_code hv hl
     | ok x => rw [hl] at h; cases h
    ·split at h
     ·cases hl : lread kr o.ps.flatten d with
      | error c' =>
       rw [hl] at h
       simp only [Except.error.injEq] at h
       subst h
       exact lread_code hk hl
      | ok x => rw [hl] at h; cases h
     ·cases h
theorem both_code : ∀ (f : Nat), (∀ l d c, vread f l d = .error c → VCode c) ∧ (∀ l d c, kread f l d = .error c → VCode c)
 | 0 => ⟨fun l d c h => by rw [vread] at h; simp only [Except.error.injEq] at h; exact .inl (.inl h.symm), fun l d c h => by rw [kread] at h; simp only [Except.error.injEq] at h; exact .inl (.inl h.symm)⟩
 | f + 1 => by
  obtain ⟨ihv, ihk⟩ := both_code f
  refine ⟨fun l d c h => ?_, fun l d c h => ?_⟩
  ·rw [vread] at h
   cases hm : mread vtk ostep one0 l d with
   | error c' =>
    rw [hm] at h
    simp only [Except.error.injEq] at h
    subst h
    exact mread_code ostep_code hm
   | ok x =>
    rw [hm] at h
    exact stands_code ihv ihk h
  ·rw [kread] at h
   cases hm : mread ktk kstep ([], []) l d with
   | error c' =>
    rw [hm] at h
    simp only [Except.error.injEq] at h
    subst h
    exact mread_code kstep_code hm
   | ok x =>
    obtain ⟨st, u⟩ := x
    rw [hm] at h
    dsimp only at h
    split at h
    ·cases h
    ·cases hv : vread f st.2.flatten (d - 1) with
     | error c' =>
      rw [hv] at h
      simp only [Except.error.injEq] at h
      subst h
      exact ihv _ _ _ hv
     | ok v => rw [hv] at h; cases h
set_option maxRecDepth 100000 in
set_option maxHeartbeats 2000000 in
theorem wrong8_any (q n c : Nat) (ws : List (Bool × Int)) (v : Value) (w : World) (hE : isErr w ((true, (q : Int)) :: ws) v (codeV c)) (hg : Glob w) (hq : q ≤ n) (hc : CodeOk c ∨ c = 5) :
  Calls Tryz.prog 17 #[v, .int .i64 (n : Int)] w fun e w' => e = .returned (.bool true) ∧ Below w.heap.size w w' := by
 obtain ⟨T, y, rfl⟩ := isErr_iface hE (root_code _)
 have HE := Lib.hid hE
 have HG := Lib.hid hg
 have h5 : c = 1 ∨ c = 3 ∨ c = 4 ∨ c = 5 ∨ c = 6 := by
  rcases hc with (h | h | h | h) | h <;> omega
 clear hE hg hc
 rcases h5 with rfl | rfl | rfl | rfl | rfl
 all_goals go_enter Tryz.func17, Tryz.ntmps17
 all_goals go_wp2_with fail
 all_goals refine (place_any _ _ _ w HE.out (root_code _) HG.out).mono ?_
 all_goals rintro e w1 ⟨rfl, hb⟩
 all_goals rw [show placeN ((true, (q : Int)) :: ws) = (q : Int) from rfl, show placeB ((true, (q : Int)) :: ws) = true from rfl]
 all_goals have HE1 := Lib.hid (isErr_below hb HE.out)
 all_goals have HG1 := Lib.hid (HG.out.below hb)
 all_goals have HB := Lib.hid hb
 all_goals clear hb
 all_goals go_wp2_with fail
 all_goals refine (code_any _ _ _ w1 HE1.out (root_code _) HG1.out).mono ?_
 all_goals rintro e w2 ⟨rfl, hb⟩
 all_goals have HB2 := Lib.hid (below_step HB.out hb)
 all_goals clear hb
 ·rw [show codeOf (codeV ((1 : Nat) : Int)) = 1 from rfl]
  go_wp2_with fail
  go_ret
  exact ⟨rfl, HB2.out⟩
 ·rw [show codeOf (codeV ((3 : Nat) : Int)) = 3 from rfl]
  go_wp2_with fail
  go_ret
  exact ⟨rfl, HB2.out⟩
 ·rw [show codeOf (codeV ((4 : Nat) : Int)) = 4 from rfl]
  go_wp2_with fail
  go_ret
  exact ⟨rfl, HB2.out⟩
 ·rw [show codeOf (codeV ((5 : Nat) : Int)) = 5 from rfl]
  go_wp2_with fail
  go_ret
  exact ⟨rfl, HB2.out⟩
 ·rw [show codeOf (codeV ((6 : Nat) : Int)) = 6 from rfl]
  go_wp2_with fail
  go_ret
  exact ⟨rfl, HB2.out⟩
theorem kvF_code (num : Nat) : (listF num kvS).Code := fun d (s : List KV) r c h => by
 have h : listStep kvS d s r = .error c := h
 unfold listStep at h
 cases hk : kvS.rd (d - 1) r.s with
 | error c' => rw [hk] at h; obtain rfl := Except.error.inj h; exact (both_code _).2 _ _ _ (show kread 1000001 r.s (d - 1) = _ from hk)
 | ok x => rw [hk] at h; cases h
theorem numF_code (num : Nat) : (numF num).Code := fun d s r c h => by
 have h : (Except.ok r.n : Except Nat Nat) = .error c := h
 cases h
theorem bytesF_code (num : Nat) : (bytesF num).Code := fun d s r c h => by
 have h : (Except.ok r.s : Except Nat (List UInt8)) = .error c := h
 cases h
theorem kindF_code (a b : Nat) : (kindF a b).Code := fun d s r c h => by
 have h : (Except.ok ((if r.num = b then (2 : Int) else 1), r.n) : Except Nat (Int × Nat)) = .error c := h
 cases h
theorem ex_codeF : exF.Code := ((numF_code _).and (((((kindF_code _ _).wrap (((bytesF_code _).and (bytesF_code _))) _ _)).and (kvF_code _))))
theorem ex_code {l : List UInt8} {d : Int} {c : Nat} (h : exrd l d = .error c) : VCode c := mread_code (σ := Nat × ((Int × Nat) × List UInt8 × List UInt8) × List KV) (fun st r c hs => ex_codeF d st r c hs) h
end Go.Proofs.YtandoppfbilhbaaGreatDoor
