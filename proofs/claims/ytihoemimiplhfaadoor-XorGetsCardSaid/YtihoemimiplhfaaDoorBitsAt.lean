/-
  (*bits.Reader).At.
-/
import Derived.Test.YtihoemimiplhfaaDoorBitsGet
namespace Go.Proofs.YtihoemimiplhfaaDoor
open Go.RowKit
theorem rat_any (p : Nat) (s : ByteArray) (i : Nat) (w : World) (h : RAt w p s i) : Calls Tryd.prog 75 #[.pointer (some ⟨p, 0, none⟩)] w fun e w' => e = .returned (.int .i64 i) ∧ w = w' := by
  have hc1 := row_cell h (j := 1) rfl
  clear h
  go_enter Tryd.func75, Tryd.ntmps75
  go_wp2_with fail
  go_ret
  exact ⟨rfl, rfl⟩
theorem below_alloc0 (w : World) (o : Obj) : Below w.heap.size w (w.alloc o) := (Below.refl _ _).alloc (Nat.le_refl _) o
theorem below_trans0 {a b c : World} (h1 : Below a.heap.size a b) (h2 : Below b.heap.size b c) : Below a.heap.size a c := h1.trans (h2.mono h1.size)
theorem errNew_at2 {w w1 : World} {n c : Int} {a : Nat} (h : Below w.heap.size w w1) (ha : a = w1.heap.size) : ErrNew w n c (.iface 103 (.pointer (some ⟨a, 0, none⟩))) (w1.alloc (.cells #[.int .i64 n, .iface 29 (.int .i64 c)] 105)) := by
  subst ha; exact errNew_at h
def BEnd (s : ByteArray) (i : Nat) (w : World) (e : Ending) (w' : World) : Prop :=
  if 8 ≤ 8 * s.size - i then ∃ v, e = .returned v ∧ ErrNew w i 2 v w'
  else if getB s.data.toList i (8 * s.size - i) ≠ 0 then ∃ v, e = .returned v ∧ ErrNew w i 3 v w'
  else e = .returned .nilIface ∧ Below w.heap.size w w'
set_option maxRecDepth 1000000 in
set_option maxHeartbeats 4000000 in
theorem bend_any (p : Nat) (s : ByteArray) (i : Nat) (w : World) (h : RAt w p s i) (hs : s.size ≤ 1000000000) (hi : i ≤ 8 * s.size) :
    Calls Tryd.prog 42 #[.pointer (some ⟨p, 0, none⟩)] w (BEnd s i w) := by
  have hc0 : w.cell? ⟨p, 0, none⟩ = some (.string s) := row_cell h (j := 0) rfl
  have hc1 : w.cell? ⟨p, 1, none⟩ = some (.int .i64 (i : Int)) := row_cell h (j := 1) rfl
  have hp := row_lt h
  have H := Lib.hid h
  clear h
  go_enter Tryd.func42, Tryd.ntmps42
  go_wp2_with fail
  have hr : RAt (w.alloc (.cells #[.string s, .int .i64 (i : Int)] 120)) w.heap.size s i := heap_alloc_new w _
  have HR := Lib.hid hr
  have HB := Lib.hid (below_alloc0 w (.cells #[.string s, .int .i64 (i : Int)] 120))
  clear hr
  refine (left_any _ s i _ HR.out hs hi).mono ?_; rintro e w' ⟨rfl, nq, rfl⟩
  have HR2 : Hid (RAt ((w.alloc (.cells #[.string s, .int .i64 (i : Int)] 120)).drewN nq) w.heap.size s i) := Lib.hid (by unfold RAt; rw [(drewN_heap _ nq).1]; exact HR.out)
  have HB2 := Lib.hid (below_trans0 HB.out (below_drewN _ nq))
  by_cases hl : 8 ≤ 8 * s.size - i
  · have hl' : decide (8 ≤ 8 * (s.size : Int) - (i : Int)) = true := by simp; omega
    have HL := Lib.hid hl
    clear hl
    go_wp2_with fail
    refine (at_any _ _ _ _).mono ?_; rintro e w' ⟨rfl, rfl⟩
    go_wp2_with fail
    go_ret
    unfold BEnd
    rw [if_pos HL.out]
    exact ⟨_, rfl, errNew_at2 HB2.out (by rw [(drewN_heap _ nq).1]; simp)⟩
  · have hl' : decide (8 ≤ 8 * (s.size : Int) - (i : Int)) = false := by simp; omega
    have hc : 8 * s.size - i ≤ 7 := by omega
    have HL := Lib.hid hc
    have hcast : (8 * (s.size : Int) - (i : Int)) = ((8 * s.size - i : Nat) : Int) := by omega
    rw [hcast] at hl' ⊢
    have HC := Lib.hid hcast
    clear hl hcast
    go_wp2_with fail
    refine (btake_any _ s i _ _ HR2.out hs (by omega) (by omega)).mono ?_; rintro e w' ⟨rfl, h1, h2⟩
    have HB3 := Lib.hid (HB2.out.trans (h2.below (B := w.heap.size) (by have := HB2.out.size; exact this) (fun k _ hk => by omega)))
    have hq : w.heap.size ≤ w'.heap.size := HB3.out.size
    have hcc : w'.cell? ⟨p, 1, none⟩ = some (.int .i64 (i : Int)) := by rw [HB3.out.cell (p := ⟨p, 1, none⟩) hp]; exact hc1
    clear h1 h2 hc0 hc1
    by_cases hz : getB s.data.toList i (8 * s.size - i) = 0
    · have HZ := Lib.hid hz
      rw [hz]
      clear hz
      go_wp2_with fail
      go_ret
      unfold BEnd
      rw [if_neg (by have := HL.out; omega), if_neg (by rw [HZ.out]; simp)]
      exact ⟨rfl, HB3.out⟩
    · have HZ := Lib.hid hz
      have hzb : (((getB s.data.toList i (8 * s.size - i) : Nat) : Int) == 0) = false := by simp; omega
      have hzn : (((getB s.data.toList i (8 * s.size - i) : Nat) : Int) != 0) = true := by simp; omega
      clear hz
      go_wp2_with fail
      refine (at_any _ _ _ _).mono ?_; rintro e w2 ⟨rfl, rfl⟩
      go_wp2_with fail
      go_ret
      unfold BEnd
      rw [if_neg (by have := HL.out; omega), if_pos HZ.out]
      exact ⟨_, rfl, errNew_at HB3.out⟩
end Go.Proofs.YtihoemimiplhfaaDoor
