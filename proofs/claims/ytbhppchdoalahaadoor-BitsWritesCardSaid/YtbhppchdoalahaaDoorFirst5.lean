/-
  hyglaw5.first: what the chapter's examples fix.
-/
import Derived.Test.YtbhppchdoalahaaDoorBitsGet
import Derived.Test.YtbhppchdoalahaaDoorBitsNum
namespace Go.Proofs.YtbhppchdoalahaaDoor
open Go.RowKit

theorem wat_new (w : World) : WAt (w.alloc (.cells #[.slice none 0 0, .int .i64 0] 71)) w.heap.size (.slice none 0 0) 0 0 [] :=
  ⟨heap_alloc_new w _, World.ownsRow_nil _ _ _ _, wb_nil, by decide⟩
set_option maxRecDepth 100000 in
set_option maxHeartbeats 1000000 in
theorem first5 (w : World) : Calls Tryd.prog 40 #[] w fun e w' => e = .returned (.bool true) ∧ Below w.heap.size w w' := by
  have HW := Lib.hid (wat_new w)
  go_enter Tryd.func40, Tryd.ntmps40
  go_wp2_with fail
  refine (bput_ok _ _ 0 0 5 3 [] _ HW.out (by decide) (Lib.hid (by decide)) (by decide)).mono ?_; rintro e w1 ⟨v1, l1, rfl, h1, h2, _⟩
  have HB1 := Lib.hid (((Below.refl w.heap.size w).alloc (Nat.le_refl _) _).trans (h2.below (B := w.heap.size) (by simp) (fun k _ hk => by
    rcases hk with rfl | hk
    · exact Nat.le_refl _
    · simp [Value.ownBlock] at hk)))
  have hl1 : l1 = [160] := by
    have h3 := wb_packB h1.2.2.1 h1.2.2.2
    rw [h3]; decide
  subst hl1
  have H1 := Lib.hid h1
  clear h1 h2
  go_wp2_with fail
  refine (newr_any _ w1).mono ?_; rintro e w2 ⟨rfl, hw2⟩
  have HR : Hid (RAt w2 w1.heap.size ⟨#[160]⟩ 0) := Lib.hid (by rw [hw2]; exact rat_new _ _)
  have HB2 : Hid (Below w1.heap.size w1 w2) := Lib.hid (by rw [hw2]; exact (Below.refl _ _).alloc (Nat.le_refl _) _)
  clear hw2
  go_wp2_with fail
  refine (bget_any _ _ _ 3 w2 HR.out (by decide) (by decide)).mono ?_; intro e w3 hp
  rw [BGet, if_neg (by decide), if_neg (by decide)] at hp
  obtain ⟨rfl, _, h4⟩ := hp
  rw [show getB (⟨#[160]⟩ : ByteArray).data.toList 0 (3 : Int).toNat = 5 by decide]
  have HB3 : Hid (Below w1.heap.size w1 w3) := Lib.hid (HB2.out.trans (h4.below (B := w1.heap.size) HB2.out.size (fun k _ hk => by omega)))
  clear h4
  have HW3 : Hid (WAt w3 w.heap.size v1 (0 + 3) (0 * 2 ^ 3 + 5) [160]) := Lib.hid (by
    obtain ⟨q1, q2, q3⟩ := H1.out
    have hU : Upd (fun _ => False) w1 w3 := Upd.of_new HB3.out
    exact ⟨(hU.block _ (row_lt q1) (fun h => h)).trans q1, hU.own q2 (fun _ _ h => h), q3⟩)
  go_wp2_with fail
  refine (bstr_any _ _ _ _ _ w3 HW3.out).mono ?_; rintro e w4 ⟨rfl, rfl⟩
  go_wp2_with fail
  refine (blen_any _ _ _ _ _ w3 HW3.out).mono ?_; rintro e w4 ⟨rfl, rfl⟩
  go_wp2_with fail
  refine (leads_any 1 w3 (Lib.hid (by decide))).mono ?_; rintro e w4 ⟨rfl, rfl⟩
  rw [show 64 - blen 1 = 63 by decide]
  go_wp2_with fail
  refine (trail_zero w3).mono ?_; rintro e w4 ⟨rfl, rfl⟩
  go_wp2
  go_ret
  exact ⟨rfl, HB1.out.trans (HB3.out.mono HB1.out.size)⟩
end Go.Proofs.YtbhppchdoalahaaDoor
