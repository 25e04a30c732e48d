/-
  errors.Is over a chain of wraps.
-/
import Derived.Test.YtlbfeknmbgjknaaDoorLaw1
import Derived.Lib.IfaceEq
namespace Go.Proofs.YtlbfeknmbgjknaaDoor
open Go.RowKit Go.Extern.Stop Go.Stop Go.Extern

theorem Tryd.methodComparable (h : Value) (w : World) : (Go.method 231 88 (.agg #[h]) "Comparable").run Tryd.prog w = .ok (64, .agg #[h]) w := by kernel_rfl
theorem Tryd.comparableCode (w : World) : (ReflectliteType.method (fun t => do Rtype.noPackHeld "Comparable" t; (fun i : TypeInfo => Value.bool i.comparable) <$> typeInfo t) #[.agg #[.pointer (some ⟨1, 22, none⟩)]]).run Tryd.prog w = .ok (.bool true) w := by kernel_rfl
theorem Tryd.comparableOther (w : World) : (ReflectliteType.method (fun t => do Rtype.noPackHeld "Comparable" t; (fun i : TypeInfo => Value.bool i.comparable) <$> typeInfo t) #[.agg #[.pointer (some ⟨1, 80, none⟩)]]).run Tryd.prog w = .ok (.bool true) w := by kernel_rfl

/-- what errors.is answers for a target that is a code -/
def isIt (r : Value) (d : Int) : Bool := match r with
  | .iface 22 (.int .i64 c) => c == d
  | _ => false

set_option maxRecDepth 1000000 in
set_option maxHeartbeats 4000000 in
theorem is_code (ws : List (Bool × Int)) (v r : Value) (d : Int) (w : World) (he : isErr w ws v r) (hroot : isRoot r) :
    Calls Tryd.prog 26 #[v, .iface 22 (.int .i64 d), .bool true] w fun e w' => e = .returned (.bool (isIt r d)) ∧ w = w' := by
  have kkt1 := fun (v : Value) (w : World) => run_eql_iface_types (P := Tryd.prog) (ti := 26) 36 22 v (.int .i64 d) Tryd.underlying26 (by decide) w
  have kkt2 := fun (v : Value) (w : World) => run_eql_iface_types (P := Tryd.prog) (ti := 26) 37 22 v (.int .i64 d) Tryd.underlying26 (by decide) w
  have kkt3 := fun (v : Value) (w : World) => run_eql_iface_types (P := Tryd.prog) (ti := 26) 80 22 v (.int .i64 d) Tryd.underlying26 (by decide) w
  have kkt4 := fun (c : Int) (w : World) => Go.Lib.run_eql_iface_int (P := Tryd.prog) w (t := 26) (tx := 22) (k := .i64) c d Tryd.underlying26 (by kernel_rfl) Tryd.underlying22
  have kki1 := Tryd.isIsCode
  have kki2 := Tryd.isIsWhere
  have kki3 := Tryd.isIsField
  have kki4 := Tryd.isIsOther
  have kku1 := Tryd.isUnCode
  have kku2 := Tryd.isUnWhere
  have kku3 := Tryd.isUnField
  have kku4 := Tryd.isUnOther
  have kkl1 := Tryd.isUnlCode
  have kkl2 := Tryd.isUnlOther
  have kkm1 := Tryd.unwrapWhere
  have kkm2 := Tryd.unwrapField
  have HE := Lib.hid he
  have HROOT := Lib.hid hroot
  clear he hroot
  go_enter Tryd.func26, Tryd.ntmps26
  go_wp2
  go_loopg [0] ws.length (fun k v wr => ∃ ws', ws'.length ≤ k ∧ isErr w ws' v r ∧ wr = w)
  case atStart => exact ⟨ws, Nat.le_refl _, HE.out, rfl⟩
  case round =>
    obtain ⟨ws', hk, hr, rfl⟩ := hrel
    match ws', hk, hr with
    | [], hk, hr =>
      obtain rfl : u0 = r := hr
      rcases HROOT.out with ⟨c, hc⟩ | ⟨x, hx⟩
      · rw [codeV] at hc
        subst hc
        by_cases hcd : c = d
        · have hcd' : (c == d) = true := by simpa using hcd
          have HF := Lib.hid (show isIt (.iface 22 (.int .i64 c)) d = true from hcd')
          clear hcd
          go_wp2
          go_ret
          exact ⟨by rw [HF.out]; rfl, rfl⟩
        · have hcd' : (c == d) = false := by simpa using hcd
          have HF := Lib.hid (show isIt (.iface 22 (.int .i64 c)) d = false from hcd')
          clear hcd
          go_wp2
          go_ret
          exact ⟨by rw [HF.out]; rfl, rfl⟩
      · subst hx
        go_wp2
        go_ret
        exact ⟨rfl, rfl⟩
    | (true, n) :: ws', hk, hr =>
      obtain ⟨a, x, hv, ha, hh, hr'⟩ := hr
      obtain ⟨T, y, rfl⟩ := isErr_iface hr' HROOT.out
      rw [show wrapT true = 36 from rfl] at hv
      subst hv
      have HH := Lib.hid (show wr.heap[a]? = some (.cells #[.int .i64 n, .iface T y] 42 (0, 0)) from hh)
      have HR := Lib.hid hr'
      clear hh hr'
      go_wp2_with (go_at_call 55; refine (unwrap_where a n _ _ HH.out).mono ?_; rintro e w' ⟨rfl, rfl⟩)
      go_roundg (gk - 1)
      case measure => simp at hk; omega
      case rel => exact ⟨ws', by simp at hk; omega, HR.out, rfl⟩
    | (false, n) :: ws', hk, hr =>
      obtain ⟨a, x, hv, ha, hh, hr'⟩ := hr
      obtain ⟨T, y, rfl⟩ := isErr_iface hr' HROOT.out
      rw [show wrapT false = 37 from rfl] at hv
      subst hv
      have HH := Lib.hid (show wr.heap[a]? = some (.cells #[.int .i64 n, .iface T y] 44 (0, 0)) from hh)
      have HR := Lib.hid hr'
      clear hh hr'
      go_wp2_with (go_at_call 57; refine (unwrap_field a n _ _ HH.out).mono ?_; rintro e w' ⟨rfl, rfl⟩)
      go_roundg (gk - 1)
      case measure => simp at hk; omega
      case rel => exact ⟨ws', by simp at hk; omega, HR.out, rfl⟩

set_option maxRecDepth 1000000 in
set_option maxHeartbeats 4000000 in
/-- the target is the root itself, a pointer -/
theorem is_other (ws : List (Bool × Int)) (v : Value) (p : Addr) (w : World) (he : isErr w ws v (.iface 80 (.pointer (some p)))) :
    Calls Tryd.prog 26 #[v, .iface 80 (.pointer (some p)), .bool true] w fun e w' => e = .returned (.bool true) ∧ w = w' := by
  have hroot : isRoot (.iface 80 (.pointer (some p))) := .inr ⟨_, rfl⟩
  have kkt1 := fun (v : Value) (w : World) => run_eql_iface_types (P := Tryd.prog) (ti := 26) 36 80 v (.pointer (some p)) Tryd.underlying26 (by decide) w
  have kkt2 := fun (v : Value) (w : World) => run_eql_iface_types (P := Tryd.prog) (ti := 26) 37 80 v (.pointer (some p)) Tryd.underlying26 (by decide) w
  have kkt3 : ∀ w : World, (binOp .eql 26 (.iface 80 (.pointer (some p))) (.iface 80 (.pointer (some p)))).run Tryd.prog w = .ok (.bool true) w := fun w => by
    have h1 : (Tryd.prog.info? 80).map (·.comparable) = some true := by kernel_rfl
    have h2 : (Tryd.prog.info? 82).isSome = true := by kernel_rfl
    cases hi : Tryd.prog.info? 80 with
    | none => rw [hi] at h1; simp at h1
    | some i =>
      rw [hi] at h1
      cases hj : Tryd.prog.info? 82 with
      | none => rw [hj] at h2; simp at h2
      | some j => exact run_eql_iface_ptr_same (i := i) (j := j) w p Tryd.underlying26 Tryd.underlying80 hi (by simpa using h1) hj
  have kki2 := Tryd.isIsWhere
  have kki3 := Tryd.isIsField
  have kku2 := Tryd.isUnWhere
  have kku3 := Tryd.isUnField
  have kkm1 := Tryd.unwrapWhere
  have kkm2 := Tryd.unwrapField
  have HE := Lib.hid he
  have HROOT := Lib.hid hroot
  clear he hroot
  go_enter Tryd.func26, Tryd.ntmps26
  go_wp2
  go_loopg [0] ws.length (fun k v wr => ∃ ws', ws'.length ≤ k ∧ isErr w ws' v (.iface 80 (.pointer (some p))) ∧ wr = w)
  case atStart => exact ⟨ws, Nat.le_refl _, HE.out, rfl⟩
  case round =>
    obtain ⟨ws', hk, hr, rfl⟩ := hrel
    match ws', hk, hr with
    | [], hk, hr =>
      obtain rfl : u0 = _ := hr
      go_wp2
      go_ret
      exact ⟨rfl, rfl⟩
    | (true, n) :: ws', hk, hr =>
      obtain ⟨a, x, hv, ha, hh, hr'⟩ := hr
      obtain ⟨T, y, rfl⟩ := isErr_iface hr' HROOT.out
      rw [show wrapT true = 36 from rfl] at hv
      subst hv
      have HH := Lib.hid (show wr.heap[a]? = some (.cells #[.int .i64 n, .iface T y] 42 (0, 0)) from hh)
      have HR := Lib.hid hr'
      clear hh hr'
      go_wp2_with (go_at_call 55; refine (unwrap_where a n _ _ HH.out).mono ?_; rintro e w' ⟨rfl, rfl⟩)
      go_roundg (gk - 1)
      case measure => simp at hk; omega
      case rel => exact ⟨ws', by simp at hk; omega, HR.out, rfl⟩
    | (false, n) :: ws', hk, hr =>
      obtain ⟨a, x, hv, ha, hh, hr'⟩ := hr
      obtain ⟨T, y, rfl⟩ := isErr_iface hr' HROOT.out
      rw [show wrapT false = 37 from rfl] at hv
      subst hv
      have HH := Lib.hid (show wr.heap[a]? = some (.cells #[.int .i64 n, .iface T y] 44 (0, 0)) from hh)
      have HR := Lib.hid hr'
      clear hh hr'
      go_wp2_with (go_at_call 57; refine (unwrap_field a n _ _ HH.out).mono ?_; rintro e w' ⟨rfl, rfl⟩)
      go_roundg (gk - 1)
      case measure => simp at hk; omega
      case rel => exact ⟨ws', by simp at hk; omega, HR.out, rfl⟩

/-! ### errors.Is -/
theorem errIs_code (ws : List (Bool × Int)) (v r : Value) (d : Int) (w : World) (he : isErr w ws v r) (hroot : isRoot r) :
    Calls Tryd.prog 14 #[v, .iface 22 (.int .i64 d)] w fun e w' => e = .returned (.bool (isIt r d)) ∧ w = w' := by
  obtain ⟨T, x, rfl⟩ := isErr_iface he hroot
  have h25 := @run_callFunc_extern Tryd.prog 25 _ ReflectliteType.typeOf Tryd.func25 (by kernel_rfl) (by kernel_rfl) (by kernel_rfl) (by kernel_rfl)
  have h64 := @run_callFunc_extern Tryd.prog 64 _ (ReflectliteType.method fun t => do Rtype.noPackHeld "Comparable" t; pure (.bool (← typeInfo t).comparable)) Tryd.func64 (by kernel_rfl) (by kernel_rfl) (by kernel_rfl) (by kernel_rfl)
  have kkt := Tryd.typeOfCode
  have kka := Tryd.methodComparable
  have kkb := Tryd.comparableCode
  have HE := Lib.hid he
  have HROOT := Lib.hid hroot
  clear he hroot
  go_enter Tryd.func14, Tryd.ntmps14
  go_wp2_with (go_at_call 26; refine (is_code ws _ r d w HE.out HROOT.out).mono ?_; rintro e w' ⟨rfl, rfl⟩)
  go_ret
  exact ⟨rfl, rfl⟩
theorem errIs_other (ws : List (Bool × Int)) (v : Value) (p : Addr) (w : World) (he : isErr w ws v (.iface 80 (.pointer (some p)))) :
    Calls Tryd.prog 14 #[v, .iface 80 (.pointer (some p))] w fun e w' => e = .returned (.bool true) ∧ w = w' := by
  obtain ⟨T, x, rfl⟩ := isErr_iface he (.inr ⟨_, rfl⟩)
  have h25 := @run_callFunc_extern Tryd.prog 25 _ ReflectliteType.typeOf Tryd.func25 (by kernel_rfl) (by kernel_rfl) (by kernel_rfl) (by kernel_rfl)
  have h64 := @run_callFunc_extern Tryd.prog 64 _ (ReflectliteType.method fun t => do Rtype.noPackHeld "Comparable" t; pure (.bool (← typeInfo t).comparable)) Tryd.func64 (by kernel_rfl) (by kernel_rfl) (by kernel_rfl) (by kernel_rfl)
  have kkt := Tryd.typeOfOther
  have kka := Tryd.methodComparable
  have kkb := Tryd.comparableOther
  have HE := Lib.hid he
  clear he
  go_enter Tryd.func14, Tryd.ntmps14
  go_wp2_with (go_at_call 26; refine (is_other ws _ p w HE.out).mono ?_; rintro e w' ⟨rfl, rfl⟩)
  go_ret
  exact ⟨rfl, rfl⟩
end Go.Proofs.YtlbfeknmbgjknaaDoor
