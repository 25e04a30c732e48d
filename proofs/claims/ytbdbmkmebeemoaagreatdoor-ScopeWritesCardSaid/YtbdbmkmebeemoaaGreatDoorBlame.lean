/-
  blame.Code, blame.Place, blame.Nums, blame.At, blame.In over a chain of wraps.
-/
import Derived.Test.YtbdbmkmebeemoaaGreatDoorErrAs
namespace Go.Proofs.YtbdbmkmebeemoaaGreatDoor
open Go.RowKit

/-- what errors.errorType holds -/
def Glob (w : World) : Prop := w.cell? ⟨0, 0, none⟩ = some (.iface 177 (.agg #[.pointer (some ⟨2, 28, none⟩)]))
theorem Glob.pos {w : World} (h : Glob w) : 0 < w.heap.size := by
  rcases Nat.eq_zero_or_pos w.heap.size with h0 | h1
  · simp [Glob, World.cell?, h0] at h
  · exact h1
theorem Glob.below {w w' : World} (h : Glob w) (hb : Below w.heap.size w w') : Glob w' := (hb.cell (p := ⟨0, 0, none⟩) h.pos).trans h
theorem Glob.alloc {w : World} (h : Glob w) (o : Obj) : Glob (w.alloc o) := h.below ((Below.refl _ _).alloc (Nat.le_refl _) o)
/-- an error: nil, or a root in wraps -/
def codeOf (r : Value) : Int := match r with
  | .iface 42 (.int .i64 c) => c
  | _ => 14

set_option maxRecDepth 1000000 in
set_option maxHeartbeats 4000000 in
theorem code_any (ws : List (Bool × Int)) (v r : Value) (w : World) (he : isErr w ws v r) (hroot : isRoot r) (hg : Glob w) :
    Calls Tryz.prog 20 #[v] w fun e w' => e = .returned (.int .i64 (codeOf r)) ∧ Below w.heap.size w w' := by
  obtain ⟨T, x, rfl⟩ := isErr_iface he hroot
  have HE := Lib.hid he
  have HB := Lib.hid ((Below.refl _ w).alloc (Nat.le_refl _) (.cells #[.int .i64 0] 42))
  have HG := Lib.hid (hg.alloc (.cells #[.int .i64 0] 42))
  have HR := Lib.hid hroot
  clear he hg hroot
  go_enter Tryz.func20, Tryz.ntmps20
  go_wp2_with fail
  go_at_call 57
  refine (errAs_code ws _ r w.heap.size w _ HE.out HB.out HR.out (.int .i64 0) (heap_alloc_new w _) HG.out).mono ?_
  intro e w' hp
  have HP := Lib.hid hp
  clear hp
  obtain ⟨c, rfl⟩ := HR.out
  · obtain ⟨rfl, hu⟩ := asCode_hit HP.out
    have hc : w'.cell? ⟨w.heap.size, 0, none⟩ = some (.int .i64 c) := by rw [cell_of_row w' _ 0 _ _ _ hu.cell]; rfl
    have HB := Lib.hid (oneUpd_below hu)
    clear hu
    go_wp2
    go_ret
    exact ⟨rfl, HB.out⟩
end Go.Proofs.YtbdbmkmebeemoaaGreatDoor

