/-
  hyglaw8.FewValue, FewKeys.
-/
import Derived.Test.YteknippgiljgeaaGreatDoorValRoom
namespace Go.Proofs.YteknippgiljgeaaGreatDoor
open Go.RowKit

def FewPost (n : Nat) (w : World) (e : Ending) (w' : World) : Prop := Below w.heap.size w w' ∧ ∃ b : Bool, e = .returned (.bool b) ∧ (b = true → n ≤ 8000)
set_option maxRecDepth 100000 in
set_option maxHeartbeats 2000000 in
theorem fewv_any (x : Val) (ca : List Value) (P : Nat → Prop) (w : World) (hl : vlim x) (hf : vfit x) (h : VRel w P x ca) : Calls Tryz.prog 18 #[.agg ca.toArray] w (FewPost (vw x) w) := by
  have HR := Lib.hid (fun w' (hb : Below w.heap.size w w') => roomv_any x ca P w' 60 8000 hl hf (h.below hb) (by omega) (by omega))
  obtain ⟨k1, S1, b1, n1, l1, ln1, lc1, m1, mn1, mc1, I1, U1, rfl⟩ := h.form
  have HB0 : Hid (Below w.heap.size w (w.alloc (.cells #[.int .i64 k1, .string S1, .bool b1, .int .u64 n1, .slice l1 ln1 lc1, .slice m1 mn1 mc1, .string I1, .string U1] 27))) := Lib.hid (below_new _ _)
  clear hl hf h
  go_enter Tryz.func18, Tryz.ntmps18
  go_wp2_with fail
  refine (HR.out _ HB0.out).mono ?_; intro e w2 hpost
  obtain ⟨hb2, r, rfl, HO⟩ := hpost
  have HB2 := Lib.hid (below_step HB0.out hb2)
  clear hb2
  obtain ⟨bb, hbb⟩ : ∃ bb, decide (r ≥ 0) = bb := ⟨_, rfl⟩
  have HBB := Lib.hid hbb
  go_wp2_with fail
  go_ret
  exact ⟨HB2.out, bb, rfl, fun h => by have h2 := HBB.out; rw [h, decide_eq_true_iff] at h2; have h3 := HO.out; unfold RoomOk at h3; omega⟩
set_option maxRecDepth 100000 in
set_option maxHeartbeats 2000000 in
theorem fewk_any (l : List KV) (lo : Option Addr) (lc : Nat) (P : Nat → Prop) (w : World) (hl0 : l.length ≤ 9223372036854775807) (hl : kslim l) (hf : ksfit l) (h : KRels w P l lo 0) : Calls Tryz.prog 19 #[.slice lo l.length lc] w (FewPost (ksw l) w) := by
  have HR := Lib.hid (roomks_any l lo lc P w 60 8000 hl0 hl hf h (by omega) (by omega))
  clear hl hf h hl0
  go_enter Tryz.func19, Tryz.ntmps19
  go_wp2_with fail
  refine HR.out.mono ?_; intro e w2 hpost
  obtain ⟨hb2, r, rfl, HO⟩ := hpost
  have HB2 := Lib.hid hb2
  clear hb2
  obtain ⟨bb, hbb⟩ : ∃ bb, decide (r ≥ 0) = bb := ⟨_, rfl⟩
  have HBB := Lib.hid hbb
  go_wp2_with fail
  go_ret
  exact ⟨HB2.out, bb, rfl, fun h => by have h2 := HBB.out; rw [h, decide_eq_true_iff] at h2; have h3 := HO.out; unfold RoomOk at h3; omega⟩
end Go.Proofs.YteknippgiljgeaaGreatDoor
