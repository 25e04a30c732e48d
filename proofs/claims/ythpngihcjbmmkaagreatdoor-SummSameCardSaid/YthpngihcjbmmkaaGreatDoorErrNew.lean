/-
  blame.Code, blame.Place, blame.Nums, blame.At, blame.In over a chain of wraps.
-/
/-
  The error that one wrap of a code is.
-/
import Derived.Test.YthpngihcjbmmkaaGreatDoorErrAs
import Derived.Test.YthpngihcjbmmkaaGreatDoorKit
import Derived.Test.YthpngihcjbmmkaaGreatDoorUpd
namespace Go.Proofs.YthpngihcjbmmkaaGreatDoor
open Go.RowKit

/-- what errors.errorType holds -/
def Glob (w : World) : Prop := w.cell? ⟨0, 0, none⟩ = some (.iface 234 (.agg #[.pointer (some ⟨2, 33, none⟩)]))
theorem Glob.pos {w : World} (h : Glob w) : 0 < w.heap.size := by
  rcases Nat.eq_zero_or_pos w.heap.size with h0 | h1
  · simp [Glob, World.cell?, h0] at h
  · exact h1
theorem Glob.below {w w' : World} (h : Glob w) (hb : Below w.heap.size w w') : Glob w' := (hb.cell (p := ⟨0, 0, none⟩) h.pos).trans h
theorem Glob.alloc {w : World} (h : Glob w) (o : Obj) : Glob (w.alloc o) := h.below ((Below.refl _ _).alloc (Nat.le_refl _) o)
/-- an error: nil, or a root in wraps -/
def codeOf (r : Value) : Int := match r with
  | .iface 47 (.int .i64 c) => c
  | _ => 14

set_option maxRecDepth 1000000 in
set_option maxHeartbeats 4000000 in
theorem code_any (ws : List (Bool × Int)) (v r : Value) (w : World) (he : isErr w ws v r) (hroot : isRoot r) (hg : Glob w) :
    Calls Tryz.prog 25 #[v] w fun e w' => e = .returned (.int .i64 (codeOf r)) ∧ Below w.heap.size w w' := by
  obtain ⟨T, x, rfl⟩ := isErr_iface he hroot
  have HE := Lib.hid he
  have HB := Lib.hid ((Below.refl _ w).alloc (Nat.le_refl _) (.cells #[.int .i64 0] 47))
  have HG := Lib.hid (hg.alloc (.cells #[.int .i64 0] 47))
  have HR := Lib.hid hroot
  clear he hg hroot
  go_enter Tryz.func25, Tryz.ntmps25
  go_wp2_with fail
  go_at_call 79
  refine (errAs_code ws _ r w.heap.size w _ HE.out HB.out HR.out (.int .i64 0) (heap_alloc_new w _) HG.out).mono ?_
  intro e w' hp
  have HP := Lib.hid hp
  clear hp
  obtain ⟨c, rfl⟩ := HR.out
  · obtain ⟨rfl, hu⟩ := asCode_hit HP.out
    have hc : w'.cell? ⟨w.heap.size, 0, none⟩ = some (.int .i64 c) := by rw [cell_of_row w' _ 0 _ _ _ hu.cell]; rfl
    have HB := Lib.hid (oneUpd_below hu)
    clear hu
    go_wp2
    go_ret
    exact ⟨rfl, HB.out⟩
end Go.Proofs.YthpngihcjbmmkaaGreatDoor
/-
  What code an error has.
-/
/-
  An error that a call has made: a new wrap of a code, at a place.
-/
namespace Go.Proofs.YthpngihcjbmmkaaGreatDoor
open Go.RowKit

theorem root_code (c : Int) : isRoot (codeV c) := 
  ⟨c, rfl⟩
end Go.Proofs.YthpngihcjbmmkaaGreatDoor
namespace Go.Proofs.YthpngihcjbmmkaaGreatDoor
open Go.RowKit

theorem isErr_new {w : World} {a : Nat} {n c : Int} (h : w.heap[a]? = some (.cells #[.int .i64 n, .iface 47 (.int .i64 c)] 163 (0, 0))) : isErr w [(true, n)] (.iface 160 (.pointer (some ⟨a, 0, none⟩))) (codeV c) :=
  ⟨a, codeV c, rfl, row_lt h, h, rfl⟩
/-- the code of an error is c (of none: 0) -/
def CodeIs (w : World) (v : Value) (c : Int) : Prop := (v = .nilIface ∧ c = 0) ∨ ∃ ws, isErr w ws v (codeV c)
theorem CodeIs.below {w w' : World} {v : Value} {c : Int} (h : CodeIs w v c) (hb : Below w.heap.size w w') : CodeIs w' v c := by
  rcases h with h | ⟨ws, h⟩
  · exact .inl h
  · exact .inr ⟨ws, isErr_below hb h⟩
theorem isErr_upd {S : Nat → Prop} {w w' : World} {ws : List (Bool × Int)} {v r : Value} (hU : Upd S w w') (hS : ∀ k, S k → ∀ (b : Bool) (n : Int) (e : Value), w.heap[k]? ≠ some (.cells #[.int .i64 n, e] (wrapS b) (0, 0))) (h : isErr w ws v r) : isErr w' ws v r :=
  isErr_kept (fun k _ ho ⟨b, n, e, he⟩ => (hU.block k (row_lt ho) (fun hk => hS k hk b n e (he ▸ ho))).trans ho) hU.size h
end Go.Proofs.YthpngihcjbmmkaaGreatDoor
namespace Go.Proofs.YthpngihcjbmmkaaGreatDoor
open Go.RowKit

/-- such an error, told by the call's own end -/
theorem ErrNew.isErr {w : World} {n c : Int} {v : Value} {w' : World} (h : ErrNew w n c v w') : isErr w' [(true, n)] v (codeV c) := by
  obtain ⟨⟨a, _, rfl, hh⟩, _⟩ := h
  exact isErr_new hh
end Go.Proofs.YthpngihcjbmmkaaGreatDoor

