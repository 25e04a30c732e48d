/-
  Groups within groups: as deep as told, one deeper, without an end, with another one's end.
-/
import Derived.Test.YtficgfemmijaaaaGreatDoorMsgMath
import Derived.Test.YtficgfemmijaaaaGreatDoorKit
import Derived.Test.YtficgfemmijaaaaGreatDoorWireMath
import Derived.Test.YtficgfemmijaaaaGreatDoorWireR5
import Derived.Test.YtficgfemmijaaaaGreatDoorErrNew
import Derived.Test.YtficgfemmijaaaaGreatDoorMsgRead
import Derived.Test.YtficgfemmijaaaaGreatDoorGet
import Derived.Test.YtficgfemmijaaaaGreatDoorMsgWrite
import Derived.Test.YtficgfemmijaaaaGreatDoorOrd
import Derived.Test.YtficgfemmijaaaaGreatDoorFx
import Derived.Test.YtficgfemmijaaaaGreatDoorFld
namespace Go.Proofs.YtficgfemmijaaaaGreatDoor
def gnest : Nat → List UInt8
 | 0 => []
 | n + 1 => vput (8 * 90 + 3) ++ gnest n ++ vput (8 * 90 + 4)
theorem gnest_len : ∀ (n : Nat), (gnest n).length = 4 * n
 | 0 => rfl
 | n + 1 => by
  have h1 : (vput (8 * 90 + 3)).length = 2 := by decide +kernel
  have h2 : (vput (8 * 90 + 4)).length = 2 := by decide +kernel
  rw [gnest, List.length_append, List.length_append, gnest_len n, h1, h2]
  omega
theorem drop_front (a b : List UInt8) : (a ++ b).drop a.length = b := by simp
theorem gnest_group : ∀ (n : Nat) (l : List UInt8) (st : List Nat) {d : Int}, st ≠ [] → ((st.length + n : Nat) : Int) ≤ d → wgroup (gnest n ++ l) st d = wadd (gnest n).length (wgroup l st d)
 | 0, l, st, d, h0, h => by rw [gnest, List.nil_append, List.length_nil, wadd_zero]
 | n + 1, l, st, d, h0, h => by
  have e : gnest (n + 1) ++ l = vput (8 * 90 + 3) ++ (gnest n ++ (vput (8 * 90 + 4) ++ l)) := by rw [gnest]; simp
  rw [e, wgroup_begin h0 (by omega) (whd_vput (num := 90) (ty := 3) _ (by omega) (by omega) (by omega)), drop_front, gnest_group n _ (90 :: st) (by simp) (by rw [List.length_cons]; omega),
   wgroup_end (by rw [List.length_cons]; omega) (whd_vput (num := 90) (ty := 4) _ (by omega) (by omega) (by omega)), drop_front, wadd_add, wadd_add]
  congr 1
  rw [gnest]
  simp
  omega
theorem gnest_deep : ∀ (n : Nat) (l : List UInt8) (st : List Nat) {d : Int}, st ≠ [] → d < ((st.length + n : Nat) : Int) → wgroup (gnest n ++ l) st d = .error 6
 | 0, l, st, d, h0, h => wgroup_deep h0 (by simpa using h)
 | n + 1, l, st, d, h0, h => by
  by_cases h1 : d < (st.length : Int)
  ·exact wgroup_deep h0 h1
  ·have e : gnest (n + 1) ++ l = vput (8 * 90 + 3) ++ (gnest n ++ (vput (8 * 90 + 4) ++ l)) := by rw [gnest]; simp
   rw [e, wgroup_begin h0 (by omega) (whd_vput (num := 90) (ty := 3) _ (by omega) (by omega) (by omega)), drop_front, gnest_deep n _ (90 :: st) (by simp) (by rw [List.length_cons]; omega)]
   rfl
theorem gnest_nx (n : Nat) {d : Int} (h : ((n + 1 : Nat) : Int) ≤ d) : wnx (gnest (n + 1)) d = .ok (⟨90, 3, 0, [], gnest (n + 1)⟩, (gnest (n + 1)).length) := by
 have e : gnest (n + 1) = vput (8 * 90 + 3) ++ (gnest n ++ vput (8 * 90 + 4)) := by rw [gnest]; simp
 have h1 := whd_vput (num := 90) (ty := 3) (gnest n ++ vput (8 * 90 + 4)) (by omega) (by omega) (by omega)
 have h2 : wgroup (gnest n ++ vput (8 * 90 + 4)) [90] d = .ok ((gnest n).length + (vput (8 * 90 + 4)).length) := by
  have h3 := whd_vput (num := 90) (ty := 4) [] (by omega) (by omega) (by omega)
  rw [List.append_nil] at h3
  rw [gnest_group n _ [90] (by simp) (by simp; omega), wgroup_end (by simp; omega) h3, wgroup_nil]
  rfl
 unfold wnx
 rw [e, h1]
 dsimp only
 rw [if_neg (by omega), if_pos rfl, drop_front, h2]
 dsimp only
 have e2 : (vput (8 * 90 + 3) ++ (gnest n ++ vput (8 * 90 + 4))).length = (vput (8 * 90 + 3)).length + ((gnest n).length + (vput (8 * 90 + 4)).length) := by simp
 rw [← e2, List.take_length]
theorem gnest_wall (n : Nat) {d : Int} (h : ((n + 1 : Nat) : Int) ≤ d) : wall (gnest (n + 1)) d = .ok [⟨90, 3, 0, [], gnest (n + 1)⟩] := by
 rw [wall_cons (gnest_nx n h), List.drop_length, wall_nil]
theorem gnest_read {σ : Type} {tk : Rec → Bool} {step : σ → Rec → Except Nat σ} (st : σ) (htk : ∀ r : Rec, r.num = 90 → tk r = false) (n : Nat) {d : Int} (h : (n : Int) ≤ d) : mread tk step st (gnest n) d = .ok (st, gnest n) := by
 unfold mread
 rw [if_neg (by omega)]
 match n, h with
 | 0, _ => rw [gnest, wall_nil]; rfl
 | n + 1, h =>
  rw [gnest_wall n h]
  have h1 := htk ⟨90, 3, 0, [], gnest (n + 1)⟩ rfl
  simp [mfold, munk, mrest, h1]
theorem wall_group_no {num c : Nat} {t : List UInt8} {d : Int} (h1 : 1 ≤ num) (h2 : num ≤ 536870911) (h : wgroup t [num] d = .error c) : wall (vput (8 * num + 3) ++ t) d = .error c := by
 refine wall_no (by simp [vput_ne]) ?_
 unfold wnx
 rw [whd_vput (num := num) (ty := 3) _ h1 h2 (by omega)]
 dsimp only
 rw [if_neg (by omega), if_pos rfl, drop_front, h]
theorem gnest_too (n : Nat) (t : List UInt8) {d : Int} (h : d ≤ (n : Int)) : wall (vput (8 * 91 + 3) ++ (gnest n ++ t)) d = .error 6 :=
 wall_group_no (by omega) (by omega) (gnest_deep n _ [91] (by simp) (by simp; omega))
theorem gnest_open (d : Int) : ∃ c, wall (vput (8 * 90 + 3)) d = .error c := by
 by_cases h : d < 1
 ·have := wall_group_no (num := 90) (t := []) (by omega) (by omega) (wgroup_deep (l := []) (st := [90]) (by simp) (by simpa using h))
  rw [List.append_nil] at this
  exact ⟨_, this⟩
 ·have h1 : whd [] = .error 1 := by rfl
  have := wall_group_no (num := 90) (t := []) (d := d) (by omega) (by omega) (wgroup_no (by simp) (by simp; omega) h1)
  rw [List.append_nil] at this
  exact ⟨_, this⟩
theorem gnest_other (d : Int) : ∃ c, wall (vput (8 * 90 + 3) ++ vput (8 * 92 + 4)) d = .error c := by
 by_cases h : d < 1
 ·exact ⟨_, wall_group_no (num := 90) (by omega) (by omega) (wgroup_deep (st := [90]) (by simp) (by simpa using h))⟩
 ·have h3 := whd_vput (num := 92) (ty := 4) [] (by omega) (by omega) (by omega)
  rw [List.append_nil] at h3
  exact ⟨_, wall_group_no (num := 90) (by omega) (by omega) (wgroup_other (by simp; omega) h3 (by omega))⟩
theorem mread_then_err {σ : Type} {tk : Rec → Bool} {step : σ → Rec → Except Nat σ} {st : σ} {l t : List UInt8} {d : Int} {c : Nat} {x : σ × List UInt8} (h : mread tk step st l d = .ok x) (ht : wall t d = .error c) : mread tk step st (l ++ t) d = .error c := by
 unfold mread at h ⊢
 split at h
 ·cases h
 ·rename_i h0
  rw [if_neg h0]
  cases hw : wall l d with
  | error c' => rw [hw] at h; cases h
  | ok rs => rw [wall_append _ t (Nat.le_refl _) hw, ht]
open Go.RowKit
theorem deep_tag (num kind : Nat) (w : World) {T : ByteArray} (h1 : 1 ≤ num) (h2 : num ≤ 536870911) (h3 : kind ≤ 5) (hT : (⟨(vput (8 * num + kind)).toArray⟩ : ByteArray) = T) :
  Calls Tryz.prog 18 #[.int .i64 (num : Int), .int .i64 (kind : Int)] w fun e w' => e = .returned (.string T) ∧ Below w.heap.size w w' := by
 have := tag_any (num : Int) (kind : Int) w (by omega) (by omega) (by omega) (by omega)
 rw [wtag_ok h1 h2 h3, hT] at this
 exact this
theorem mread_nest {σ : Type} {tk : Rec → Bool} {step : σ → Rec → Except Nat σ} {st x : σ} {s u : List UInt8} {d : Int} (htk : ∀ r : Rec, r.num = 90 → tk r = false) (n : Nat) (hn : (n : Int) ≤ d) (h : mread tk step st s d = .ok (x, u)) : mread tk step st (s ++ gnest n) d = .ok (x, u ++ gnest n) := by
 obtain ⟨hd, rs, hw, hf, rfl⟩ := mread_open h
 match n, hn with
 | 0, _ => rw [gnest, List.append_nil, List.append_nil]; exact h
 | n + 1, hn =>
  unfold mread
  rw [if_neg (by omega), wall_append _ _ (Nat.le_refl _) hw, gnest_wall n hn]
  dsimp only
  rw [mfold_append, hf]
  have hk := htk ⟨90, 3, 0, [], gnest (n + 1)⟩ rfl
  simp [mfold, hk, munk, mrest]
theorem mread_nest_no {σ : Type} {tk : Rec → Bool} {step : σ → Rec → Except Nat σ} {st : σ} {l t : List UInt8} {d : Int} {c : Nat} {x : σ × List UInt8} (h : mread tk step st l d = .ok x) (ht : wall t d = .error c) : mread tk step st (l ++ t) d = .error c := mread_then_err h ht
structure DT where
 (TB TE TC TD TF : ByteArray)
theorem deep_tags : ∃ T : DT, (∀ w, Calls Tryz.prog 18 #[.int .i64 90, .int .i64 3] w fun e w' => e = .returned (.string T.TB) ∧ Below w.heap.size w w') ∧ (∀ w, Calls Tryz.prog 18 #[.int .i64 90, .int .i64 4] w fun e w' => e = .returned (.string T.TE) ∧ Below w.heap.size w w') ∧ (∀ w, Calls Tryz.prog 18 #[.int .i64 91, .int .i64 3] w fun e w' => e = .returned (.string T.TC) ∧ Below w.heap.size w w') ∧ (∀ w, Calls Tryz.prog 18 #[.int .i64 91, .int .i64 4] w fun e w' => e = .returned (.string T.TD) ∧ Below w.heap.size w w') ∧ (∀ w, Calls Tryz.prog 18 #[.int .i64 92, .int .i64 4] w fun e w' => e = .returned (.string T.TF) ∧ Below w.heap.size w w') ∧
  (T.TB.size = 2 ∧ T.TE.size = 2 ∧ T.TC.size = 2 ∧ T.TD.size = 2 ∧ T.TF.size = 2) ∧ T.TB.data.toList = vput (8 * 90 + 3) ∧ T.TE.data.toList = vput (8 * 90 + 4) ∧ T.TC.data.toList = vput (8 * 91 + 3) ∧ T.TD.data.toList = vput (8 * 91 + 4) ∧ T.TF.data.toList = vput (8 * 92 + 4) :=
 ⟨⟨⟨(vput (8 * 90 + 3)).toArray⟩, ⟨(vput (8 * 90 + 4)).toArray⟩, ⟨(vput (8 * 91 + 3)).toArray⟩, ⟨(vput (8 * 91 + 4)).toArray⟩, ⟨(vput (8 * 92 + 4)).toArray⟩⟩,
  fun w => deep_tag 90 3 w (by omega) (by omega) (by omega) rfl, fun w => deep_tag 90 4 w (by omega) (by omega) (by omega) rfl, fun w => deep_tag 91 3 w (by omega) (by omega) (by omega) rfl, fun w => deep_tag 91 4 w (by omega) (by omega) (by omega) rfl, fun w => deep_tag 92 4 w (by omega) (by omega) (by omega) rfl,
  ⟨by decide +kernel, by decide +kernel, by decide +kernel, by decide +kernel, by decide +kernel⟩, rfl, rfl, rfl, rfl, rfl⟩
end Go.Proofs.YtficgfemmijaaaaGreatDoor
