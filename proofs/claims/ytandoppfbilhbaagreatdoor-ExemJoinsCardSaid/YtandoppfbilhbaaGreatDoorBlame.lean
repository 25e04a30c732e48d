/-
  blame.Code, blame.Place, blame.Nums, blame.At, blame.In over a chain of wraps.
-/
import Derived.Test.YtandoppfbilhbaaGreatDoorErrAs
namespace Go.Proofs.YtandoppfbilhbaaGreatDoor
open Go.RowKit

/-- what errors.errorType holds -/
def Glob (w : World) : Prop := w.cell? ⟨0, 0, none⟩ = some (.iface 192 (.agg #[.pointer (some ⟨2, 28, none⟩)]))
theorem Glob.pos {w : World} (h : Glob w) : 0 < w.heap.size := by
  rcases Nat.eq_zero_or_pos w.heap.size with h0 | h1
  · simp [Glob, World.cell?, h0] at h
  · exact h1
theorem Glob.below {w w' : World} (h : Glob w) (hb : Below w.heap.size w w') : Glob w' := (hb.cell (p := ⟨0, 0, none⟩) h.pos).trans h
theorem Glob.alloc {w : World} (h : Glob w) (o : Obj) : Glob (w.alloc o) := h.below ((Below.refl _ _).alloc (Nat.le_refl _) o)
/-- an error: nil, or a root in wraps -/
def codeOf (r : Value) : Int := match r with
  | .iface 42 (.int .i64 c) => c
  | _ => 14

/-- the outermost place -/
def placeN (ws : List (Bool × Int)) : Int := match firstOf true ws with | some (n, _) => n | none => 0
def placeB (ws : List (Bool × Int)) : Bool := (firstOf true ws).isSome
theorem below_alloc (w : World) (o : Obj) : Below w.heap.size w (w.alloc o) := (Below.refl _ _).alloc (Nat.le_refl _) o
theorem below_trans {a b c : World} (h1 : Below a.heap.size a b) (h2 : Below b.heap.size b c) : Below a.heap.size a c := h1.trans (h2.mono h1.size)
theorem ownsRow_oneUpd {w w1 : World} {base : Nat} {e T : TypeId} {size : Nat} {v u : Value} {n t : Nat} {xs : List Value} (h : w.ownsRow base e size v n xs) (hu : OneUpd w w1 t T u) (ht : t < base) : w1.ownsRow base e size v n xs := by
  refine ⟨h.1, ?_⟩
  rcases h.2 with hn | ⟨g, cap, cur, rfl, hb, hgg, rest⟩
  · exact .inl hn
  · exact .inr ⟨g, cap, cur, rfl, hb, (hu.block g (Array.getElem?_eq_some_iff.1 hgg).1 (by omega)).trans hgg, rest⟩
theorem below_oneUpd {w0 w w1 : World} {B t : Nat} {T : TypeId} {u : Value} (h : Below B w0 w) (hu : OneUpd w w1 t T u) (ht : B ≤ t) (hs : t < w.heap.size) : Below B w0 w1 :=
  h.trans ⟨hu.os, hu.tape, hu.output, hu.size, fun k hk => hu.block k (by omega) (by omega)⟩
theorem errAs_nil (t : Value) (w : World) : Calls Tryz.prog 67 #[.nilIface, t] w fun e w' => e = .returned (.bool false) ∧ w = w' := by
  go_enter Tryz.func67, Tryz.ntmps67
  go_wp2
  go_ret
  exact ⟨rfl, rfl⟩
theorem code_nil (w : World) : Calls Tryz.prog 25 #[.nilIface] w fun e w' => e = .returned (.int .i64 0) ∧ w = w' := by
  go_enter Tryz.func25, Tryz.ntmps25
  go_wp2
  go_ret
  exact ⟨rfl, rfl⟩
set_option maxRecDepth 1000000 in
set_option maxHeartbeats 4000000 in
theorem code_any (ws : List (Bool × Int)) (v r : Value) (w : World) (he : isErr w ws v r) (hroot : isRoot r) (hg : Glob w) :
    Calls Tryz.prog 25 #[v] w fun e w' => e = .returned (.int .i64 (codeOf r)) ∧ Below w.heap.size w w' := by
  obtain ⟨T, x, rfl⟩ := isErr_iface he hroot
  have HE := Lib.hid he
  have HB := Lib.hid ((Below.refl _ w).alloc (Nat.le_refl _) (.cells #[.int .i64 0] 42))
  have HG := Lib.hid (hg.alloc (.cells #[.int .i64 0] 42))
  have HR := Lib.hid hroot
  clear he hg hroot
  go_enter Tryz.func25, Tryz.ntmps25
  go_wp2_with fail
  go_at_call 67
  refine (errAs_code ws _ r w.heap.size w _ HE.out HB.out HR.out (.int .i64 0) (heap_alloc_new w _) HG.out).mono ?_
  intro e w' hp
  have HP := Lib.hid hp
  clear hp
  obtain ⟨c, rfl⟩ := HR.out
  · obtain ⟨rfl, hu⟩ := asCode_hit HP.out
    have hc : w'.cell? ⟨w.heap.size, 0, none⟩ = some (.int .i64 c) := by rw [cell_of_row w' _ 0 _ _ _ hu.cell]; rfl
    have HB := Lib.hid (oneUpd_below hu)
    clear hu
    go_wp2
    go_ret
    exact ⟨rfl, HB.out⟩
set_option maxRecDepth 1000000 in
set_option maxHeartbeats 4000000 in
theorem place_any (ws : List (Bool × Int)) (v r : Value) (w : World) (he : isErr w ws v r) (hroot : isRoot r) (hg : Glob w) :
    Calls Tryz.prog 48 #[v] w fun e w' => e = .returned (.tuple #[.int .i64 (placeN ws), .bool (placeB ws)]) ∧ Below w.heap.size w w' := by
  obtain ⟨T, x, rfl⟩ := isErr_iface he hroot
  have HE := Lib.hid he
  have HB0 := Lib.hid ((Below.refl _ w).alloc (Nat.le_refl _) (.cells #[.pointer none] 132))
  have HG := Lib.hid (hg.alloc (.cells #[.pointer none] 132))
  have HR := Lib.hid hroot
  clear he hg hroot
  go_enter Tryz.func48, Tryz.ntmps48
  go_wp2_with fail
  go_at_call 67
  refine (errAs_where ws _ r w.heap.size w _ HE.out HB0.out HR.out (.pointer none) (heap_alloc_new w _) HG.out).mono ?_
  intro e w' hp
  unfold AsWhere at hp
  cases hf : firstOf true ws with
  | none =>
    rw [hf] at hp
    obtain ⟨rfl, hu⟩ := hp
    have HB := Lib.hid (oneUpd_below hu)
    have h1 := Lib.hid (show placeN ws = 0 by unfold placeN; rw [hf])
    have h2 := Lib.hid (show placeB ws = false by unfold placeB; rw [hf]; rfl)
    clear hf hu
    go_wp2
    go_ret2
    exact ⟨by rw [h1.out, h2.out]; rfl, HB.out⟩
  | some y =>
    obtain ⟨n, rest⟩ := y
    rw [hf] at hp
    obtain ⟨a, y, rfl, hu, ha, hh, hr⟩ := hp
    have hc : w'.cell? ⟨w.heap.size, 0, none⟩ = some (.pointer (some ⟨a, 0, none⟩)) := by rw [cell_of_row w' _ 0 _ _ _ hu.cell]; rfl
    have hne : a ≠ w.heap.size := Nat.ne_of_lt ha
    have hc2 : w'.cell? ⟨a, 0, none⟩ = some (.int .i64 n) := by
      rw [cell_of_row w' a 0 _ _ _ ((hu.block a (by simp; omega) hne).trans ((Below.heap_alloc _ _ _ ha).trans hh))]; rfl
    have HB := Lib.hid (oneUpd_below hu)
    have h1 := Lib.hid (show placeN ws = n by unfold placeN; rw [hf])
    have h2 := Lib.hid (show placeB ws = true by unfold placeB; rw [hf]; rfl)
    clear hf hu ha hh hr
    go_wp2
    go_ret2
    exact ⟨by rw [h1.out, h2.out]; rfl, HB.out⟩

theorem place_nil (w : World) : Calls Tryz.prog 48 #[.nilIface] w fun e w' => e = .returned (.tuple #[.int .i64 0, .bool false]) ∧ Below w.heap.size w w' := by
  go_enter Tryz.func48, Tryz.ntmps48
  go_wp2_with (go_at_call 67; refine (errAs_nil _ _).mono ?_; rintro e w' ⟨rfl, rfl⟩)
  go_ret2
  exact ⟨rfl, (Below.refl _ _).alloc (Nat.le_refl _) _⟩


end Go.Proofs.YtandoppfbilhbaaGreatDoor
