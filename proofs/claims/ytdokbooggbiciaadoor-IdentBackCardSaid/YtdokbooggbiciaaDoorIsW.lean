/-
  errors.Is over a chain of wraps.
-/
import Derived.Test.YtdokbooggbiciaaDoorErrAs
import Derived.Test.YtdokbooggbiciaaDoorCodeIs
import Derived.Deep.LoopGhost
import Derived.Lib.IfaceEq
namespace Go.Proofs.YtdokbooggbiciaaDoor
open Go.RowKit Go.Extern.Stop Go.Stop Go.Extern

theorem Tryd.methodComparable (h : Value) (w : World) : (Go.method 229 83 (.agg #[h]) "Comparable").run Tryd.prog w = .ok (64, .agg #[h]) w := by kernel_rfl
theorem Tryd.comparableCode (w : World) : (ReflectliteType.method (fun t => do Rtype.noPackHeld "Comparable" t; (fun i : TypeInfo => Value.bool i.comparable) <$> typeInfo t) #[.agg #[.pointer (some ⟨1, 36, none⟩)]]).run Tryd.prog w = .ok (.bool true) w := by kernel_rfl

/-- what errors.is answers for a target that is a code -/
def isIt (r : Value) (d : Int) : Bool := match r with
  | .iface 36 (.int .i64 c) => c == d
  | _ => false

set_option maxRecDepth 1000000 in
set_option maxHeartbeats 4000000 in
theorem is_code (ws : List (Bool × Int)) (v r : Value) (d : Int) (w : World) (he : isErr w ws v r) (hroot : isRoot r) :
    Calls Tryd.prog 27 #[v, .iface 36 (.int .i64 d), .bool true] w fun e w' => e = .returned (.bool (isIt r d)) ∧ w = w' := by
  have kkt1 := fun (v : Value) (w : World) => run_eql_iface_types (P := Tryd.prog) (ti := 26) 98 36 v (.int .i64 d) Tryd.underlying26 (by decide) w
  have kkt4 := fun (c : Int) (w : World) => Go.Lib.run_eql_iface_int (P := Tryd.prog) w (t := 26) (tx := 36) (k := .i64) c d Tryd.underlying26 (by kernel_rfl) Tryd.underlying36
  have kki1 := Tryd.isIsCode
  have kki2 := Tryd.isIsWhere
  have kku1 := Tryd.isUnCode
  have kku2 := Tryd.isUnWhere
  have kkl1 := Tryd.isUnlCode
  have kkm1 := Tryd.unwrapWhere
  have HE := Lib.hid he
  have HROOT := Lib.hid hroot
  clear he hroot
  go_enter Tryd.func27, Tryd.ntmps27
  go_wp2
  go_loopg [0] ws.length (fun k v wr => ∃ ws', ws'.length ≤ k ∧ isErr w ws' v r ∧ wr = w)
  case atStart => exact ⟨ws, Nat.le_refl _, HE.out, rfl⟩
  case round =>
    obtain ⟨ws', hk, hr, rfl⟩ := hrel
    match ws', hk, hr with
    | [], hk, hr =>
      obtain rfl : u0 = r := hr
      obtain ⟨c, hc⟩ := HROOT.out
      · rw [codeV] at hc
        subst hc
        by_cases hcd : c = d
        · have hcd' : (c == d) = true := by simpa using hcd
          have HF := Lib.hid (show isIt (.iface 36 (.int .i64 c)) d = true from hcd')
          clear hcd
          go_wp2
          go_ret
          exact ⟨by rw [HF.out]; rfl, rfl⟩
        · have hcd' : (c == d) = false := by simpa using hcd
          have HF := Lib.hid (show isIt (.iface 36 (.int .i64 c)) d = false from hcd')
          clear hcd
          go_wp2
          go_ret
          exact ⟨by rw [HF.out]; rfl, rfl⟩
    | (true, n) :: ws', hk, hr =>
      obtain ⟨_, a, x, hv, ha, hh, hr'⟩ := hr
      obtain ⟨T, y, rfl⟩ := isErr_iface hr' HROOT.out
      rw [show wrapT true = 98 from rfl] at hv
      subst hv
      have HH := Lib.hid (show wr.heap[a]? = some (.cells #[.int .i64 n, .iface T y] 100 (0, 0)) from hh)
      have HR := Lib.hid hr'
      clear hh hr'
      go_wp2_with (go_at_call 74; refine (unwrap_where a n _ _ HH.out).mono ?_; rintro e w' ⟨rfl, rfl⟩)
      go_roundg (gk - 1)
      case measure => simp at hk; omega
      case rel => exact ⟨ws', by simp at hk; omega, HR.out, rfl⟩
    | (false, n) :: ws', hk, hr => exact absurd hr.1 (by decide)

theorem errIs_code (ws : List (Bool × Int)) (v r : Value) (d : Int) (w : World) (he : isErr w ws v r) (hroot : isRoot r) :
    Calls Tryd.prog 16 #[v, .iface 36 (.int .i64 d)] w fun e w' => e = .returned (.bool (isIt r d)) ∧ w = w' := by
  obtain ⟨T, x, rfl⟩ := isErr_iface he hroot
  have h25 := @run_callFunc_extern Tryd.prog 26 _ ReflectliteType.typeOf Tryd.func26 (by kernel_rfl) (by kernel_rfl) (by kernel_rfl) (by kernel_rfl)
  have h64 := @run_callFunc_extern Tryd.prog 64 _ (ReflectliteType.method fun t => do Rtype.noPackHeld "Comparable" t; pure (.bool (← typeInfo t).comparable)) Tryd.func64 (by kernel_rfl) (by kernel_rfl) (by kernel_rfl) (by kernel_rfl)
  have kkt := Tryd.typeOfCode
  have kka := Tryd.methodComparable
  have kkb := Tryd.comparableCode
  have HE := Lib.hid he
  have HROOT := Lib.hid hroot
  clear he hroot
  go_enter Tryd.func16, Tryd.ntmps16
  go_wp2_with (go_at_call 27; refine (is_code ws _ r d w HE.out HROOT.out).mono ?_; rintro e w' ⟨rfl, rfl⟩)
  go_ret
  exact ⟨rfl, rfl⟩
end Go.Proofs.YtdokbooggbiciaaDoor
