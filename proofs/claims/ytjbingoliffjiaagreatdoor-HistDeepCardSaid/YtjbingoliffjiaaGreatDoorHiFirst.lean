/-
  hyglaw13.first.
-/
import Derived.Test.YtjbingoliffjiaaGreatDoorHiMar
set_option maxRecDepth 1000000
set_option maxHeartbeats 16000000
namespace Go.Proofs.YtjbingoliffjiaaGreatDoor
open Go.RowKit
theorem first_hi1 (w : World) : Calls Tryz.prog 28 #[.agg #[.slice none 0 0, .int .u64 0, .int .u64 0, .int .u64 0, .bool true, .int .u64 0, .bool false, .int .u64 0, .bool false, .int .u64 0, .slice none 0 0, .slice none 0 0, .slice none 0 0, .int .u32 0, .string ⟨#[]⟩], .int .i64 0] w fun e w' => e = .returned (.tuple #[.string ⟨#[41, 0, 0, 0, 0, 0, 0, 0, 0]⟩, .nilIface]) ∧ Below w.heap.size w w' := by
 refine (hi_marshal_if ((0, (0, (0, ((true, 0), ([], ([], ([], ([], (0, ((false, 0), (false, 0))))))))))), []) (Lib.hid fun h => absurd rfl h) (Lib.hid fun h => absurd rfl h) [.slice none 0 0, .int .u64 0, .int .u64 0, .int .u64 0, .bool true, .int .u64 0, .bool false, .int .u64 0, .bool false, .int .u64 0, .slice none 0 0, .slice none 0 0, .slice none 0 0, .int .u32 0, .string ⟨#[]⟩] (fun _ => False) 0 w ⟨by omega, by omega, by omega, by omega, fun x hx => (by cases hx), fun x hx => (by cases hx), fun x hx => (by cases hx), by rw [ksfit]; trivial, by omega, by omega, by omega, by simp [lwt, lsum, ksw]⟩ ⟨none, 0, none, 0, none, 0, none, 0, rfl, by rw [KRels]; trivial, CRels.nil _ _ _ _, CRels.nil _ _ _ _, CRels.nil _ _ _ _⟩ (by omega)).mono ?_
 rintro e w' ⟨hb, h⟩
 rw [show hi_may 0 ((0, (0, (0, ((true, 0), ([], ([], ([], ([], (0, ((false, 0), (false, 0))))))))))), []) = true by kernel_rfl, if_pos rfl, show hi_out ((0, (0, (0, ((true, 0), ([], ([], ([], ([], (0, ((false, 0), (false, 0))))))))))), []) = [41, 0, 0, 0, 0, 0, 0, 0, 0] by kernel_rfl] at h
 exact ⟨h, hb⟩
theorem first_hirec {r : Rec} (hr : ∀ rs, wall (⟨#[49, 7, 0, 0, 0, 0, 0, 0, 0]⟩ : ByteArray).data.toList 0 = .ok rs → r ∈ rs) : r.num = 6 := by
 have h := hr [⟨6, 1, 7, [], [49, 7, 0, 0, 0, 0, 0, 0, 0]⟩] (by kernel_rfl)
 rw [List.mem_singleton.1 h]
theorem first_hird : hird [49, 7, 0, 0, 0, 0, 0, 0, 0] 0 = .ok ((0, (0, (0, ((false, 0), ([7], ([], ([], ([], (0, ((false, 0), (false, 0))))))))))), []) := by kernel_rfl
theorem first13 (w : World) : Calls Tryz.prog 22 #[] w fun e w' => e = .returned (.bool true) ∧ Below w.heap.size w w' := by
 have HUN := Lib.hid (fun w' => unhi_if ⟨#[49, 7, 0, 0, 0, 0, 0, 0, 0]⟩ 0 (Lib.hid fun r hr h3 => absurd ((first_hirec hr).symm.trans h3) (by decide)) (Lib.hid fun r hr h3 => absurd ((first_hirec hr).symm.trans h3) (by decide)) w' (by decide) (by omega))
 rw [show (⟨#[49, 7, 0, 0, 0, 0, 0, 0, 0]⟩ : ByteArray).data.toList = [49, 7, 0, 0, 0, 0, 0, 0, 0] from rfl, first_hird] at HUN
 go_enter Tryz.func22, Tryz.ntmps22
 go_wp2_with fail
 refine (first_hi1 w).mono ?_; rintro e w1 ⟨rfl, hb1⟩
 have HB1 := Lib.hid hb1
 clear hb1
 go_wp2_with fail
 refine (HUN.out w1).mono ?_; rintro e w2 ⟨hb2, cs, rfl, lo, lc, nco, ncc, nbo, nbc, eo, ec, rfl, _, hrn, _, _⟩
 have HB2 := Lib.hid (below_step HB1.out hb2)
 obtain ⟨g, off, c7, rfl, _, hg, hc7, hr7⟩ := hrn 0 (by decide)
 have hr7 : c7 = [.int .u64 ((7 : Nat) : Int)] := hr7
 subst hr7
 have hc8 : w2.cell? ⟨g, off, none⟩ = some (.int .u64 7) := by
  have := hc7 0 (by simp)
  simpa using this
 clear hb2 hrn hc7
 dsimp only [strV, List.length_nil, List.length_cons]
 go_upto_region 3 with fail
 obtain ⟨bl, hbl⟩ : ∃ b, w2.heap.size = b := ⟨_, rfl⟩
 obtain ⟨W3, hW⟩ : ∃ W, w2.alloc (.cells #[.slice lo 0 lc, .int .u64 0, .int .u64 0, .int .u64 0, .bool false, .int .u64 0, .bool false, .int .u64 0, .bool false, .int .u64 0, .slice (some ⟨g, off, none⟩) 1 ncc, .slice nbo 0 nbc, .slice eo 0 ec, .int .u32 0, .string ⟨#[]⟩] 50) = W := ⟨_, rfl⟩
 have hb3 : Below w2.heap.size w2 W3 := by rw [← hW]; exact below_new _ _
 have hr : W3.heap[bl]? = some (.cells #[.slice lo 0 lc, .int .u64 0, .int .u64 0, .int .u64 0, .bool false, .int .u64 0, .bool false, .int .u64 0, .bool false, .int .u64 0, .slice (some ⟨g, off, none⟩) 1 ncc, .slice nbo 0 nbc, .slice eo 0 ec, .int .u32 0, .string ⟨#[]⟩] 50 (0, 0)) := by rw [← hW, ← hbl]; exact new_row _ _ _
 have HB3 := Lib.hid (below_step HB2.out hb3)
 have hx10 : W3.cell? ⟨bl, 10, none⟩ = some (.slice (some ⟨g, off, none⟩) 1 ncc) := row_cell hr (j := 10) rfl
 have hx7 : W3.cell? ⟨g, off, none⟩ = some (.int .u64 7) := (hb3.cell (p := ⟨g, off, none⟩) hg).trans hc8
 rw [hW, hbl]
 clear hW hbl hb3 hr hc8
 go_wp2_with fail
 go_ret
 exact ⟨rfl, HB3.out⟩
end Go.Proofs.YtjbingoliffjiaaGreatDoor
