/-
  hyglaw10.first.
-/
import Derived.Test.YtbdbmkmebeemoaaScBack
namespace Go.Proofs.Ytbdbmkmebeemoaa
open Go.RowKit

theorem Fx.cel {A : World → Prop} {w : World} {α : Type} {C : Cel α} {P : Nat → Prop} {x : α} {c : List Value} (h : Fx A w) (hb : C.R w P x c) : Fx (fun w => C.R w P x c ∧ A w) w := h.add (B := fun w => C.R w P x c) hb fun _ _ h1 h2 => C.upd (Upd.of_new (S := fun _ => False) h2) (fun _ _ h => h) (fun _ h => h) h1
theorem row3 {w : World} {g : Nat} {c0 c1 c2 : Value} {T : TypeId} {fr : Nat × Nat} (h : w.heap[g]? = some (.cells #[c0, c1, c2] T fr)) : w.cell? ⟨g, 0, none⟩ = some c0 ∧ w.cell? ⟨g, 1, none⟩ = some c1 ∧ w.cell? ⟨g, 2, none⟩ = some c2 := ⟨row_cell h (j := 0) rfl, row_cell h (j := 1) rfl, row_cell h (j := 2) rfl⟩
theorem row5 {w : World} {g : Nat} {c0 c1 c2 c3 c4 : Value} {T : TypeId} {fr : Nat × Nat} (h : w.heap[g]? = some (.cells #[c0, c1, c2, c3, c4] T fr)) : w.cell? ⟨g, 0, none⟩ = some c0 ∧ w.cell? ⟨g, 1, none⟩ = some c1 ∧ w.cell? ⟨g, 2, none⟩ = some c2 ∧ w.cell? ⟨g, 3, none⟩ = some c3 ∧ w.cell? ⟨g, 4, none⟩ = some c4 := ⟨row_cell h (j := 0) rfl, row_cell h (j := 1) rfl, row_cell h (j := 2) rfl, row_cell h (j := 3) rfl, row_cell h (j := 4) rfl⟩
theorem first_rd : scrd [10, 1, 97] 0 = .ok (([97], [], [], 0), []) := by
  have h := sc_back (a := [97]) (b := []) (l := []) (n := 0) (u := []) (d := 0) ⟨by rw [ksfit]; trivial, by show 0 < _; omega, by rw [ksw]; decide⟩ (by kernel_rfl)
  rwa [show sc_out (([97], [], [], 0), []) = [10, 1, 97] by kernel_rfl] at h
theorem first_mar (w : World) : Calls Try.prog 17 #[.agg #[.string ⟨#[97]⟩, .string ⟨#[]⟩, .slice none 0 0, .int .u32 0, .string ⟨#[]⟩], .int .i64 0] w fun e w' => e = .returned (.tuple #[.string ⟨#[10, 1, 97]⟩, .nilIface]) ∧ Below w.heap.size w w' := by
  refine (sc_marshal (([97], [], [], 0), []) [.string ⟨#[97]⟩, .string ⟨#[]⟩, .slice none 0 0, .int .u32 0, .string ⟨#[]⟩] (fun _ => False) 0 w ⟨by rw [ksfit]; trivial, by show 0 < _; omega, by rw [ksw]; decide⟩ ⟨none, 0, rfl, by rw [KRels]; trivial⟩ (by omega)).mono ?_
  rintro e w' ⟨hb, h⟩
  rw [show sc_may 0 (([97], [], [], 0), []) = true by kernel_rfl, if_pos rfl, show sc_out (([97], [], [], 0), []) = [10, 1, 97] by kernel_rfl] at h
  exact ⟨h, hb⟩
theorem first_marR (w : World) : Calls Try.prog 23 #[.agg #[.slice none 0 0, .int .u32 1, .string ⟨#[]⟩], .int .i64 0] w fun e w' => e = .returned (.tuple #[.string ⟨#[16, 1]⟩, .nilIface]) ∧ Below w.heap.size w w' := by
  refine (rs_marshal (([], 1), []) [.slice none 0 0, .int .u32 1, .string ⟨#[]⟩] (fun _ => False) 0 w ⟨by rw [ksfit]; trivial, by show 1 < _; omega, by rw [ksw]; decide⟩ ⟨none, 0, rfl, by rw [KRels]; trivial⟩ (by omega)).mono ?_
  rintro e w' ⟨hb, h⟩
  rw [show rs_may 0 (([], 1), []) = true by kernel_rfl, if_pos rfl, show rs_out (([], 1), []) = [16, 1] by kernel_rfl] at h
  exact ⟨h, hb⟩
set_option maxRecDepth 1000000 in
set_option maxHeartbeats 8000000 in
theorem first10 (w : World) : Calls Try.prog 13 #[] w fun e w' => e = .returned (.bool true) ∧ Below w.heap.size w w' := by
  have HUN := Lib.hid (fun w' => unsc_any (Lib.hid ukey_any) ⟨#[10, 1, 97]⟩ 0 w' (by decide) (by omega))
  rw [show (⟨#[10, 1, 97]⟩ : ByteArray).data.toList = [10, 1, 97] from rfl, first_rd] at HUN
  go_enter Try.func13, Try.ntmps13
  go_wp2_with fail
  refine (first_mar w).mono ?_; rintro e w1 ⟨rfl, hb1⟩
  have HB1 := Lib.hid hb1
  clear hb1
  go_wp2_with fail
  refine (HUN.out w1).mono ?_; rintro e w2 ⟨hb2, cs, rfl, lo, lc, rfl, _⟩
  have HB2 := Lib.hid (below_step HB1.out hb2)
  clear hb2
  dsimp only [strV]
  go_wp2_with fail
  obtain ⟨bl, hbl⟩ : ∃ b, w2.heap.size = b := ⟨_, rfl⟩
  obtain ⟨W3, hW⟩ : ∃ W, w2.alloc (.cells #[.string ⟨#[97]⟩, .string ⟨#[]⟩, .slice lo 0 lc, .int .u32 0, .string ⟨#[]⟩] 25) = W := ⟨_, rfl⟩
  have hb3 : Below w2.heap.size w2 W3 := by rw [← hW]; exact below_new _ _
  have hr : W3.heap[bl]? = some (.cells #[.string ⟨#[97]⟩, .string ⟨#[]⟩, .slice lo 0 lc, .int .u32 0, .string ⟨#[]⟩] 25 (0, 0)) := by rw [← hW, ← hbl]; exact new_row _ _ _
  have HB3 := Lib.hid (below_step HB2.out hb3)
  rw [hW, hbl]
  clear hW hbl hb3
  refine (first_marR W3).mono ?_; rintro e w4 ⟨rfl, hb4⟩
  have HB4 := Lib.hid (below_step HB3.out hb4)
  have hx0 : w4.cell? ⟨bl, 0, none⟩ = some (.string ⟨#[97]⟩) := row_cell ((hb4.block _ (row_lt hr)).trans hr) (j := 0) rfl
  clear hb4 hr
  go_wp2_with fail
  go_ret
  exact ⟨rfl, HB4.out⟩
end Go.Proofs.Ytbdbmkmebeemoaa
