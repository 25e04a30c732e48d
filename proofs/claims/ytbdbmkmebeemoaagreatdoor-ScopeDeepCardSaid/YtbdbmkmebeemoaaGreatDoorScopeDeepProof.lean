/-
  hyglaw10.ScopeDeep: for every input the law returns true, and the input stays as it was.
-/
import Derived.Test.YtbdbmkmebeemoaaGreatDoorValTwice
import Derived.Test.YtbdbmkmebeemoaaGreatDoorWireP
import Derived.Test.YtbdbmkmebeemoaaGreatDoorMsgMath
import Derived.Test.YtbdbmkmebeemoaaGreatDoorScBack
import Derived.Test.YtbdbmkmebeemoaaGreatDoorDoor
import Derived.Test.YtbdbmkmebeemoaaGreatDoorRefMsg
import Derived.Test.YtbdbmkmebeemoaaGreatDoorRow
namespace Go.Proofs.YtbdbmkmebeemoaaGreatDoor
open Go.RowKit

theorem othr_wall (r : Rec) (d : Int) (hr : ∀ d, IsRec d r) : wall r.raw d = .ok [r] := by
  have h1 := recs_wall [r] d (fun x hx => by rw [List.mem_singleton] at hx; subst hx; exact hr d)
  rwa [show [r].flatMap Rec.raw = r.raw by simp] at h1
theorem mread_open {σ : Type} {tk : Rec → Bool} {step : σ → Rec → Except Nat σ} {st x : σ} {s u : List UInt8} {d : Int} (h : mread tk step st s d = .ok (x, u)) : 0 ≤ d ∧ ∃ rs, wall s d = .ok rs ∧ mfold tk step st rs = .ok x ∧ u = munk tk rs := by
  unfold mread at h
  split at h
  · cases h
  · cases hw : wall s d with
    | error c => rw [hw] at h; cases h
    | ok rs =>
      rw [hw] at h
      dsimp only at h
      cases hf : mfold tk step st rs with
      | error c => rw [hf] at h; cases h
      | ok y =>
        rw [hf] at h
        simp only [Except.ok.injEq, Prod.mk.injEq] at h
        exact ⟨by omega, rs, rfl, by rw [← h.1]; exact hf, h.2.symm⟩
theorem mread_behind {σ : Type} {tk : Rec → Bool} {step : σ → Rec → Except Nat σ} {st x : σ} {s u : List UInt8} {d : Int} (r : Rec) (hr : ∀ d, IsRec d r) (hk : tk r = false) (h : mread tk step st s d = .ok (x, u)) : mread tk step st (s ++ r.raw) d = .ok (x, u ++ r.raw) := by
  obtain ⟨hd, rs, hw, hf, rfl⟩ := mread_open h
  unfold mread
  rw [if_neg (by omega), wall_append _ r.raw (Nat.le_refl _) hw, othr_wall r d hr]
  dsimp only
  rw [mfold_append, hf]
  simp [mfold, hk, munk, mrest]
theorem mread_before {σ : Type} {tk : Rec → Bool} {step : σ → Rec → Except Nat σ} {st x : σ} {s u : List UInt8} {d : Int} (r : Rec) (hr : ∀ d, IsRec d r) (hk : tk r = false) (h : mread tk step st s d = .ok (x, u)) : mread tk step st (r.raw ++ s) d = .ok (x, r.raw ++ u) := by
  obtain ⟨hd, rs, hw, hf, rfl⟩ := mread_open h
  unfold mread
  rw [if_neg (by omega), wall_append _ s (Nat.le_refl _) (othr_wall r d hr), hw]
  simp [mfold, hk, hf, munk, mrest]
theorem mread_before_no {σ : Type} {tk : Rec → Bool} {step : σ → Rec → Except Nat σ} {st : σ} {s : List UInt8} {d : Int} {c : Nat} (r : Rec) (hr : ∀ d, IsRec d r) (hk : tk r = false) (h : mread tk step st s d = .error c) : ∃ c', mread tk step st (r.raw ++ s) d = .error c' := by
  cases hb : mread tk step st (r.raw ++ s) d with
  | error c' => exact ⟨c', rfl⟩
  | ok xu =>
    exfalso
    obtain ⟨x, u⟩ := xu
    obtain ⟨hd, rs, hw, hf, _⟩ := mread_open hb
    rw [wall_append _ s (Nat.le_refl _) (othr_wall r d hr)] at hw
    unfold mread at h
    rw [if_neg (by omega)] at h
    cases hs : wall s d with
    | error c => rw [hs] at hw; cases hw
    | ok ks =>
      rw [hs] at hw h
      simp only [Except.ok.injEq] at hw
      subst hw
      have hf2 : mfold tk step st ks = .ok x := by
        rw [show [r] ++ ks = r :: ks from rfl, mfold, if_neg (by rw [hk]; simp)] at hf
        exact hf
      dsimp only at h
      rw [hf2] at h
      cases h
theorem mread_unk {σ : Type} {tk : Rec → Bool} {step : σ → Rec → Except Nat σ} {st st' : σ} {l u : List UInt8} {d : Int} (h : mread tk step st l d = .ok (st', u)) : u.length ≤ l.length := by
  obtain ⟨_, rs, _, h2, _, h4, _⟩ := mread_inv h
  have := tlen_munk tk rs
  rw [h4, ← h2] at this
  omega
/-- four bytes of a number that no table knows -/
theorem othr_txt {num : Nat} (s : List UInt8) (hs : s.length = 4) (h1 : 1 ≤ num) (h2 : num ≤ 536870911) : Txt (vput (8 * num + 5) ++ s) ⟨num, 5, wlit s, [], vput (8 * num + 5) ++ s⟩ := by
  refine ⟨rfl, by show 5 ≠ 3; omega, by show 5 ≠ 4; omega, (vput (8 * num + 5)).length, s.length, by simp, (vput_length _).1, fun u => ⟨?_, ?_⟩⟩
  · rw [List.append_assoc]; exact whd_vput _ h1 h2 (by omega)
  · rw [List.append_assoc, List.drop_left]
    unfold wbd
    rw [if_neg (show ¬ (5 = 1) by decide), if_pos rfl, if_neg (by simp; omega), List.take_append_of_le_length (by omega), List.take_of_length_le (by omega), hs]
theorem othr_rec {num kind : Nat} (h1 : 1 ≤ num) (h2 : num ≤ 536870911) (h3 : kind ≤ 5) (t : List UInt8) : wrec num kind t = vput (8 * num + kind) ++ t := by
  unfold wrec
  rw [wtag_ok h1 h2 h3, if_neg (vput_ne _)]
theorem oth_four (k : Nat) (h1 : 1 ≤ k) (h2 : k ≤ 536870911) : ∃ (r : Rec) (_ : True) (_ : r.ty = 5) (T U : ByteArray), (⟨(wtag (k : Int) 5).toArray⟩ : ByteArray) = T ∧ T ++ ⟨#[97, 98, 99, 100]⟩ = U ∧ U.data.toList = r.raw ∧ T.size ≤ 10 ∧ U.size ≤ 14 ∧ ∀ d, IsRec d r := by
  have HT4 := othr_txt (num := k) [97, 98, 99, 100] rfl h1 h2
  have hl : (⟨(wtag (k : Int) 5).toArray⟩ : ByteArray).data.toList = vput (8 * k + 5) := by simp [show wtag (k : Int) 5 = _ from wtag_ok (kind := 5) h1 h2 (by omega)]
  have hs : (⟨(wtag (k : Int) 5).toArray⟩ : ByteArray).size ≤ 10 := by
    have : (⟨(wtag (k : Int) 5).toArray⟩ : ByteArray).size = (⟨(wtag (k : Int) 5).toArray⟩ : ByteArray).data.toList.length := by simp [ByteArray.size]
    rw [this, hl]; exact (vput_length (8 * k + 5)).2
  refine ⟨_, trivial, rfl, _, _, rfl, rfl, ?_, hs, ?_, fun d => txt_isrec HT4 d⟩
  · rw [ByteArray.data_append, Array.toList_append, hl]
  · rw [ByteArray.size_append, show (⟨#[97, 98, 99, 100]⟩ : ByteArray).size = 4 from rfl]; omega
theorem oth_one (v : Nat) (hv : v < 2 ^ 64) : ∃ (r : Rec) (_ : r.num = 536870911) (L : ByteArray), (⟨(wrec 536870911 1 (eight 8 v)).toArray⟩ : ByteArray) = L ∧ L.data.toList = r.raw ∧ L.size ≤ 18 ∧ ∀ d, IsRec d r := by
  have HT1 := txt_fixed (num := 536870911) (n := v) (by omega) (by omega) hv
  have hl : (⟨(wrec 536870911 1 (eight 8 v)).toArray⟩ : ByteArray).data.toList = vput (8 * 536870911 + 1) ++ eight 8 v := by simp [show wrec 536870911 1 (eight 8 v) = _ from othr_rec (num := 536870911) (kind := 1) (by omega) (by omega) (by omega) _]
  refine ⟨_, rfl, _, rfl, hl, ?_, fun d => txt_isrec HT1 d⟩
  have : (⟨(wrec 536870911 1 (eight 8 v)).toArray⟩ : ByteArray).size = (⟨(wrec 536870911 1 (eight 8 v)).toArray⟩ : ByteArray).data.toList.length := by simp [ByteArray.size]
  rw [this, hl, List.length_append]
  have := (vput_length (8 * 536870911 + 1)).2
  have := eight_len 8 v
  omega
end Go.Proofs.YtbdbmkmebeemoaaGreatDoor
namespace Go.Proofs.YtbdbmkmebeemoaaGreatDoor

/-- n groups of number 90, one within the other -/
def gnest : Nat → List UInt8
  | 0 => []
  | n + 1 => vput (8 * 90 + 3) ++ gnest n ++ vput (8 * 90 + 4)
theorem gnest_len : ∀ (n : Nat), (gnest n).length = 4 * n
  | 0 => rfl
  | n + 1 => by
    have h1 : (vput (8 * 90 + 3)).length = 2 := by decide +kernel
    have h2 : (vput (8 * 90 + 4)).length = 2 := by decide +kernel
    rw [gnest, List.length_append, List.length_append, gnest_len n, h1, h2]
    omega
theorem drop_front (a b : List UInt8) : (a ++ b).drop a.length = b := by simp
theorem gnest_group : ∀ (n : Nat) (l : List UInt8) (st : List Nat) {d : Int}, st ≠ [] → ((st.length + n : Nat) : Int) ≤ d → wgroup (gnest n ++ l) st d = wadd (gnest n).length (wgroup l st d)
  | 0, l, st, d, h0, h => by rw [gnest, List.nil_append, List.length_nil, wadd_zero]
  | n + 1, l, st, d, h0, h => by
    have e : gnest (n + 1) ++ l = vput (8 * 90 + 3) ++ (gnest n ++ (vput (8 * 90 + 4) ++ l)) := by rw [gnest]; simp
    rw [e, wgroup_begin h0 (by omega) (whd_vput (num := 90) (ty := 3) _ (by omega) (by omega) (by omega)), drop_front, gnest_group n _ (90 :: st) (by simp) (by rw [List.length_cons]; omega),
      wgroup_end (by rw [List.length_cons]; omega) (whd_vput (num := 90) (ty := 4) _ (by omega) (by omega) (by omega)), drop_front, wadd_add, wadd_add]
    congr 1
    rw [gnest]
    simp
    omega
theorem gnest_deep : ∀ (n : Nat) (l : List UInt8) (st : List Nat) {d : Int}, st ≠ [] → d < ((st.length + n : Nat) : Int) → wgroup (gnest n ++ l) st d = .error 6
  | 0, l, st, d, h0, h => wgroup_deep h0 (by simpa using h)
  | n + 1, l, st, d, h0, h => by
    by_cases h1 : d < (st.length : Int)
    · exact wgroup_deep h0 h1
    · have e : gnest (n + 1) ++ l = vput (8 * 90 + 3) ++ (gnest n ++ (vput (8 * 90 + 4) ++ l)) := by rw [gnest]; simp
      rw [e, wgroup_begin h0 (by omega) (whd_vput (num := 90) (ty := 3) _ (by omega) (by omega) (by omega)), drop_front, gnest_deep n _ (90 :: st) (by simp) (by rw [List.length_cons]; omega)]
      rfl
theorem gnest_nx (n : Nat) {d : Int} (h : ((n + 1 : Nat) : Int) ≤ d) : wnx (gnest (n + 1)) d = .ok (⟨90, 3, 0, [], gnest (n + 1)⟩, (gnest (n + 1)).length) := by
  have e : gnest (n + 1) = vput (8 * 90 + 3) ++ (gnest n ++ vput (8 * 90 + 4)) := by rw [gnest]; simp
  have h1 := whd_vput (num := 90) (ty := 3) (gnest n ++ vput (8 * 90 + 4)) (by omega) (by omega) (by omega)
  have h2 : wgroup (gnest n ++ vput (8 * 90 + 4)) [90] d = .ok ((gnest n).length + (vput (8 * 90 + 4)).length) := by
    have h3 := whd_vput (num := 90) (ty := 4) [] (by omega) (by omega) (by omega)
    rw [List.append_nil] at h3
    rw [gnest_group n _ [90] (by simp) (by simp; omega), wgroup_end (by simp; omega) h3, wgroup_nil]
    rfl
  unfold wnx
  rw [e, h1]
  dsimp only
  rw [if_neg (by omega), if_pos rfl, drop_front, h2]
  dsimp only
  have e2 : (vput (8 * 90 + 3) ++ (gnest n ++ vput (8 * 90 + 4))).length = (vput (8 * 90 + 3)).length + ((gnest n).length + (vput (8 * 90 + 4)).length) := by simp
  rw [← e2, List.take_length]
theorem gnest_wall (n : Nat) {d : Int} (h : ((n + 1 : Nat) : Int) ≤ d) : wall (gnest (n + 1)) d = .ok [⟨90, 3, 0, [], gnest (n + 1)⟩] := by
  rw [wall_cons (gnest_nx n h), List.drop_length, wall_nil]
/-- as deep as told: unknown -/
theorem gnest_read {σ : Type} {tk : Rec → Bool} {step : σ → Rec → Except Nat σ} (st : σ) (htk : ∀ r : Rec, r.num = 90 → tk r = false) (n : Nat) {d : Int} (h : (n : Int) ≤ d) : mread tk step st (gnest n) d = .ok (st, gnest n) := by
  unfold mread
  rw [if_neg (by omega)]
  match n, h with
  | 0, _ => rw [gnest, wall_nil]; rfl
  | n + 1, h =>
    rw [gnest_wall n h]
    have h1 := htk ⟨90, 3, 0, [], gnest (n + 1)⟩ rfl
    simp [mfold, munk, mrest, h1]
theorem wall_group_no {num c : Nat} {t : List UInt8} {d : Int} (h1 : 1 ≤ num) (h2 : num ≤ 536870911) (h : wgroup t [num] d = .error c) : wall (vput (8 * num + 3) ++ t) d = .error c := by
  refine wall_no (by simp [vput_ne]) ?_
  unfold wnx
  rw [whd_vput (num := num) (ty := 3) _ h1 h2 (by omega)]
  dsimp only
  rw [if_neg (by omega), if_pos rfl, drop_front, h]
/-- one deeper -/
theorem gnest_too (n : Nat) (t : List UInt8) {d : Int} (h : d ≤ (n : Int)) : wall (vput (8 * 91 + 3) ++ (gnest n ++ t)) d = .error 6 :=
  wall_group_no (by omega) (by omega) (gnest_deep n _ [91] (by simp) (by simp; omega))
/-- without an end -/
theorem gnest_open (d : Int) : ∃ c, wall (vput (8 * 90 + 3)) d = .error c := by
  by_cases h : d < 1
  · have := wall_group_no (num := 90) (t := []) (by omega) (by omega) (wgroup_deep (l := []) (st := [90]) (by simp) (by simpa using h))
    rw [List.append_nil] at this
    exact ⟨_, this⟩
  · have h1 : whd [] = .error 1 := by rfl
    have := wall_group_no (num := 90) (t := []) (d := d) (by omega) (by omega) (wgroup_no (by simp) (by simp; omega) h1)
    rw [List.append_nil] at this
    exact ⟨_, this⟩
/-- with the end of another -/
theorem gnest_other (d : Int) : ∃ c, wall (vput (8 * 90 + 3) ++ vput (8 * 92 + 4)) d = .error c := by
  by_cases h : d < 1
  · exact ⟨_, wall_group_no (num := 90) (by omega) (by omega) (wgroup_deep (st := [90]) (by simp) (by simpa using h))⟩
  · have h3 := whd_vput (num := 92) (ty := 4) [] (by omega) (by omega) (by omega)
    rw [List.append_nil] at h3
    exact ⟨_, wall_group_no (num := 90) (by omega) (by omega) (wgroup_other (by simp; omega) h3 (by omega))⟩
theorem mread_then_err {σ : Type} {tk : Rec → Bool} {step : σ → Rec → Except Nat σ} {st : σ} {l t : List UInt8} {d : Int} {c : Nat} {x : σ × List UInt8} (h : mread tk step st l d = .ok x) (ht : wall t d = .error c) : mread tk step st (l ++ t) d = .error c := by
  unfold mread at h ⊢
  split at h
  · cases h
  · rename_i h0
    rw [if_neg h0]
    cases hw : wall l d with
    | error c' => rw [hw] at h; cases h
    | ok rs => rw [wall_append _ t (Nat.le_refl _) hw, ht]
end Go.Proofs.YtbdbmkmebeemoaaGreatDoor
namespace Go.Proofs.YtbdbmkmebeemoaaGreatDoor
open Go.RowKit

theorem deep_tag (num kind : Nat) (w : World) {T : ByteArray} (h1 : 1 ≤ num) (h2 : num ≤ 536870911) (h3 : kind ≤ 5) (hT : (⟨(vput (8 * num + kind)).toArray⟩ : ByteArray) = T) :
    Calls Tryz.prog 30 #[.int .i64 (num : Int), .int .i64 (kind : Int)] w fun e w' => e = .returned (.string T) ∧ Below w.heap.size w w' := by
  have := tag_any (num : Int) (kind : Int) w (by omega) (by omega) (by omega) (by omega)
  rw [wtag_ok h1 h2 h3, hT] at this
  exact this
/-- the groups behind a message -/
theorem mread_nest {σ : Type} {tk : Rec → Bool} {step : σ → Rec → Except Nat σ} {st x : σ} {s u : List UInt8} {d : Int} (htk : ∀ r : Rec, r.num = 90 → tk r = false) (n : Nat) (hn : (n : Int) ≤ d) (h : mread tk step st s d = .ok (x, u)) : mread tk step st (s ++ gnest n) d = .ok (x, u ++ gnest n) := by
  obtain ⟨hd, rs, hw, hf, rfl⟩ := mread_open h
  match n, hn with
  | 0, _ => rw [gnest, List.append_nil, List.append_nil]; exact h
  | n + 1, hn =>
    unfold mread
    rw [if_neg (by omega), wall_append _ _ (Nat.le_refl _) hw, gnest_wall n hn]
    dsimp only
    rw [mfold_append, hf]
    have hk := htk ⟨90, 3, 0, [], gnest (n + 1)⟩ rfl
    simp [mfold, hk, munk, mrest]
theorem mread_nest_no {σ : Type} {tk : Rec → Bool} {step : σ → Rec → Except Nat σ} {st : σ} {l t : List UInt8} {d : Int} {c : Nat} {x : σ × List UInt8} (h : mread tk step st l d = .ok x) (ht : wall t d = .error c) : mread tk step st (l ++ t) d = .error c := mread_then_err h ht
/-- the five tags, and what they are read as -/
structure DT where
  (TB TE TC TD TF : ByteArray)
theorem deep_tags : ∃ T : DT, (∀ w, Calls Tryz.prog 30 #[.int .i64 90, .int .i64 3] w fun e w' => e = .returned (.string T.TB) ∧ Below w.heap.size w w') ∧ (∀ w, Calls Tryz.prog 30 #[.int .i64 90, .int .i64 4] w fun e w' => e = .returned (.string T.TE) ∧ Below w.heap.size w w') ∧ (∀ w, Calls Tryz.prog 30 #[.int .i64 91, .int .i64 3] w fun e w' => e = .returned (.string T.TC) ∧ Below w.heap.size w w') ∧ (∀ w, Calls Tryz.prog 30 #[.int .i64 91, .int .i64 4] w fun e w' => e = .returned (.string T.TD) ∧ Below w.heap.size w w') ∧ (∀ w, Calls Tryz.prog 30 #[.int .i64 92, .int .i64 4] w fun e w' => e = .returned (.string T.TF) ∧ Below w.heap.size w w') ∧
    (T.TB.size = 2 ∧ T.TE.size = 2 ∧ T.TC.size = 2 ∧ T.TD.size = 2 ∧ T.TF.size = 2) ∧ T.TB.data.toList = vput (8 * 90 + 3) ∧ T.TE.data.toList = vput (8 * 90 + 4) ∧ T.TC.data.toList = vput (8 * 91 + 3) ∧ T.TD.data.toList = vput (8 * 91 + 4) ∧ T.TF.data.toList = vput (8 * 92 + 4) :=
  ⟨⟨⟨(vput (8 * 90 + 3)).toArray⟩, ⟨(vput (8 * 90 + 4)).toArray⟩, ⟨(vput (8 * 91 + 3)).toArray⟩, ⟨(vput (8 * 91 + 4)).toArray⟩, ⟨(vput (8 * 92 + 4)).toArray⟩⟩,
    fun w => deep_tag 90 3 w (by omega) (by omega) (by omega) rfl, fun w => deep_tag 90 4 w (by omega) (by omega) (by omega) rfl, fun w => deep_tag 91 3 w (by omega) (by omega) (by omega) rfl, fun w => deep_tag 91 4 w (by omega) (by omega) (by omega) rfl, fun w => deep_tag 92 4 w (by omega) (by omega) (by omega) rfl,
    ⟨by decide +kernel, by decide +kernel, by decide +kernel, by decide +kernel, by decide +kernel⟩, rfl, rfl, rfl, rfl, rfl⟩
theorem rs_tk90 (r : Rec) (h : r.num = 90) : rsF.tk r = false := by
  simp [rsF, Fld.and, listF, listTk, var32F, h]
theorem sc_tk90 (r : Rec) (h : r.num = 90) : scF.tk r = false := by
  simp [scF, Fld.and, listF, listTk, var32F, textF, h]
set_option maxRecDepth 1000000 in
set_option maxHeartbeats 16000000 in
theorem scdeep_long1 (s : ByteArray) (w : World) (d : Int) (h1 : 6000 < s.size) :
 Calls Tryz.prog 7 #[.string s, .int .i64 d] w fun e w' => e = .returned (.bool true) ∧ Below w.heap.size w w' := by
 have q0 : decide ((6000 : Int) < (s.size : Int)) = true := decide_eq_true (by omega)
 clear h1
 have H1 := Lib.hid (Fx.nil w)
 have hb : Below w.heap.size w w := Below.refl _ _
 have H2 := Lib.hid (H1.out.base (hb))
 clear H1
 clear hb
 go_enter Tryz.func7, Tryz.ntmps7
 go_wp2_with fail
 refine (first10 w).mono ?_; rintro e w1 ⟨rfl, hb⟩
 have H3 := Lib.hid (H2.out.below hb)
 clear hb H2
 go_wp2_with fail
 refine (first10 w1).mono ?_; rintro e w2 ⟨rfl, hb⟩
 have H4 := Lib.hid (H3.out.below hb)
 clear hb H3
 go_wp2_with fail
 go_ret
 exact ⟨rfl, H4.out.is.1⟩
set_option maxRecDepth 1000000 in
set_option maxHeartbeats 16000000 in
theorem scdeep_long2 (s : ByteArray) (w : World) (d : Int) (h1 : ¬ 6000 < s.size) (h2 : d < 0) :
 Calls Tryz.prog 7 #[.string s, .int .i64 d] w fun e w' => e = .returned (.bool true) ∧ Below w.heap.size w w' := by
 have q0 : decide ((6000 : Int) < (s.size : Int)) = false := decide_eq_false (by omega)
 have q1 : decide (d < 0) = true := decide_eq_true h2
 clear h1 h2
 have H1 := Lib.hid (Fx.nil w)
 have hb : Below w.heap.size w w := Below.refl _ _
 have H2 := Lib.hid (H1.out.base (hb))
 clear H1
 clear hb
 go_enter Tryz.func7, Tryz.ntmps7
 go_wp2_with fail
 refine (first10 w).mono ?_; rintro e w1 ⟨rfl, hb⟩
 have H3 := Lib.hid (H2.out.below hb)
 clear hb H2
 go_wp2_with fail
 refine (first10 w1).mono ?_; rintro e w2 ⟨rfl, hb⟩
 have H4 := Lib.hid (H3.out.below hb)
 clear hb H3
 go_wp2_with fail
 go_ret
 exact ⟨rfl, H4.out.is.1⟩
set_option maxRecDepth 1000000 in
set_option maxHeartbeats 16000000 in
theorem scdeep_long3 (s : ByteArray) (w : World) (d : Int) (h1 : ¬ 6000 < s.size) (h2 : ¬ d < 0) (h3 : 100 < d) :
 Calls Tryz.prog 7 #[.string s, .int .i64 d] w fun e w' => e = .returned (.bool true) ∧ Below w.heap.size w w' := by
 have q0 : decide ((6000 : Int) < (s.size : Int)) = false := decide_eq_false (by omega)
 have q1 : decide (d < 0) = false := decide_eq_false h2
 have q2 : decide ((100 : Int) < d) = true := decide_eq_true h3
 clear h1 h2 h3
 have H1 := Lib.hid (Fx.nil w)
 have hb : Below w.heap.size w w := Below.refl _ _
 have H2 := Lib.hid (H1.out.base (hb))
 clear H1
 clear hb
 go_enter Tryz.func7, Tryz.ntmps7
 go_wp2_with fail
 refine (first10 w).mono ?_; rintro e w1 ⟨rfl, hb⟩
 have H3 := Lib.hid (H2.out.below hb)
 clear hb H2
 go_wp2_with fail
 refine (first10 w1).mono ?_; rintro e w2 ⟨rfl, hb⟩
 have H4 := Lib.hid (H3.out.below hb)
 clear hb H3
 go_wp2_with fail
 go_ret
 exact ⟨rfl, H4.out.is.1⟩
set_option maxRecDepth 1000000 in
set_option maxHeartbeats 16000000 in
theorem scdeep_A (s : ByteArray) (w : World) (n : Nat) (hs : s.size ≤ 6000) (hn : n ≤ 100) {c : Nat} (hx : scrd s.data.toList (n : Int) = .error c) :
 Calls Tryz.prog 7 #[.string s, .int .i64 (n : Int)] w fun e w' => e = .returned (.bool true) ∧ Below w.heap.size w w' := by
 have d0 : decide ((6000 : Int) < (s.size : Int)) = false := decide_eq_false (by omega)
 have d1 : decide ((n : Int) < 0) = false := decide_eq_false (by omega)
 have d2 : decide ((100 : Int) < (n : Int)) = false := decide_eq_false (by omega)
 have HS1 := Lib.hid (fun w' => unsc_any (Lib.hid ukey_any) s (n : Int) w' (by omega) (by omega))
 rw [hx] at HS1
 clear hs hn hx
 have hb : Below w.heap.size w w := Below.refl _ _
 have H1 := Lib.hid (Fx.nil w)
 have H2 := Lib.hid (H1.out.base (hb))
 clear H1
 clear hb
 go_enter Tryz.func7, Tryz.ntmps7
 go_wp2_with fail
 refine (first10 w).mono ?_; rintro e w1 ⟨rfl, hb⟩
 have H3 := Lib.hid (H2.out.below hb)
 clear hb H2
 go_wp2_with fail
 refine (HS1.out w1).mono ?_; rintro e w2 ⟨hb, v1, q1, rfl, _, hew⟩
 obtain ⟨T1, y1, rfl⟩ := hew.iface
 clear hew HS1
 unfold sczero
 have H4 := Lib.hid (H3.out.below hb)
 clear hb H3
 go_wp2_with fail
 obtain ⟨blr1, hbl⟩ : ∃ b, w2.heap.size = b := ⟨_, rfl⟩
 obtain ⟨W3, hW⟩ : ∃ W, w2.alloc (.cells #[.string ⟨#[]⟩, .string ⟨#[]⟩, .slice none 0 0, .int .u32 0, .string ⟨#[]⟩] 26) = W := ⟨_, rfl⟩
 have hb : Below w2.heap.size w2 W3 := by rw [← hW]; exact below_new _ _
 have hr : W3.heap[blr1]? = some (.cells #[.string ⟨#[]⟩, .string ⟨#[]⟩, .slice none 0 0, .int .u32 0, .string ⟨#[]⟩] 26 (0, 0)) := by rw [← hW, ← hbl]; exact new_row _ _ _
 rw [hW, hbl]
 clear hW hbl
 have H5 := Lib.hid (H4.out.below hb)
 clear hb H4
 have H6 := Lib.hid (H5.out.row (hr))
 clear H5
 clear hr
 refine (first10 W3).mono ?_; rintro e w4 ⟨rfl, hb⟩
 have H7 := Lib.hid (H6.out.below hb)
 clear hb H6
 go_wp2_with fail
 go_ret
 exact ⟨rfl, H7.out.is.2.1⟩
set_option maxRecDepth 1000000 in
set_option maxHeartbeats 16000000 in
theorem scdeep_C (s : ByteArray) (w : World) (n : Nat) (hs : s.size ≤ 6000) (hn : n ≤ 100) (hg : Glob w) {x : (List UInt8 × List UInt8 × List KV × Nat) × List UInt8} (hx : scrd s.data.toList (n : Int) = .ok x) :
 Calls Tryz.prog 7 #[.string s, .int .i64 (n : Int)] w fun e w' => e = .returned (.bool true) ∧ Below w.heap.size w w' := by
 have d0 : decide ((6000 : Int) < (s.size : Int)) = false := decide_eq_false (by omega)
 have d1 : decide ((n : Int) < 0) = false := decide_eq_false (by omega)
 have d2 : decide ((100 : Int) < (n : Int)) = false := decide_eq_false (by omega)
 have HS1 := Lib.hid (fun w' => unsc_any (Lib.hid ukey_any) s (n : Int) w' (by omega) (by omega))
 rw [hx] at HS1
 obtain ⟨⟨TB, TE, TC, TD, TF⟩, HTB, HTE, HTC, HTD, HTF, hz, lB, lE, lC, lD, lF⟩ := deep_tags
 dsimp only at HTB HTE HTC HTD HTF hz lB lE lC lD lF
 have HTB := Lib.hid HTB
 have HTE := Lib.hid HTE
 have HTC := Lib.hid HTC
 have HTD := Lib.hid HTD
 have HTF := Lib.hid HTF
 have HZ := Lib.hid hz
 have lB := Lib.hid lB
 have lE := Lib.hid lE
 have lC := Lib.hid lC
 have lD := Lib.hid lD
 have lF := Lib.hid lF
 have HSS := Lib.hid hs
 have HNN := Lib.hid hn
 have HG := Lib.hid hg
 obtain ⟨⟨a, b, l, n0⟩, u⟩ := x
 obtain ⟨S, hS⟩ : ∃ S : ByteArray, (⟨u.toArray⟩ : ByteArray) = S := ⟨_, rfl⟩
 have HSD : Hid (S.data.toList = u) := Lib.hid (by rw [← hS])
 have hSz : S.size ≤ 6000 := by
  have h1 : S.size = u.length := by rw [← HSD.out]; simp
  have h2 := mread_unk (σ := List UInt8 × List UInt8 × List KV × Nat) hx
  have h3 : s.data.toList.length = s.size := by simp
  omega
 have HSN := Lib.hid hS
 have HX := Lib.hid hx
 obtain ⟨AX, ha⟩ : ∃ X : ByteArray, (⟨a.toArray⟩ : ByteArray) = X := ⟨_, rfl⟩
 have HAN := Lib.hid ha
 clear ha
 obtain ⟨BX, hb⟩ : ∃ X : ByteArray, (⟨b.toArray⟩ : ByteArray) = X := ⟨_, rfl⟩
 have HBN := Lib.hid hb
 clear hb
 clear hg hx hS hz
 have hb : Below w.heap.size w w := Below.refl _ _
 have H1 := Lib.hid (Fx.nil w)
 have H2 := Lib.hid (H1.out.base (hb))
 clear H1
 clear hb
 go_enter Tryz.func7, Tryz.ntmps7
 go_wp2_with fail
 refine (first10 w).mono ?_; rintro e w1 ⟨rfl, hb⟩
 have H3 := Lib.hid (H2.out.below hb)
 clear hb H2
 go_wp2_with fail
 refine (HS1.out w1).mono ?_; rintro e w2 ⟨hb, cs, rfl, lo1, lc1, rfl, _⟩
 clear HS1
 dsimp only [strV]
 rw [HSN.out, HAN.out, HBN.out]
 have H4 := Lib.hid (H3.out.below hb)
 clear hb H3
 go_wp2_with fail
 obtain ⟨blr1, hbl⟩ : ∃ b, w2.heap.size = b := ⟨_, rfl⟩
 obtain ⟨W3, hW⟩ : ∃ W, w2.alloc (.cells #[.string AX, .string BX, .slice lo1 l.length lc1, .int .u32 (n0 : Int), .string S] 26) = W := ⟨_, rfl⟩
 have hb : Below w2.heap.size w2 W3 := by rw [← hW]; exact below_new _ _
 have hr : W3.heap[blr1]? = some (.cells #[.string AX, .string BX, .slice lo1 l.length lc1, .int .u32 (n0 : Int), .string S] 26 (0, 0)) := by rw [← hW, ← hbl]; exact new_row _ _ _
 rw [hW, hbl]
 clear hW hbl
 have H5 := Lib.hid (H4.out.below hb)
 clear hb H4
 have H6 := Lib.hid (H5.out.row (hr))
 clear H5
 clear hr
 go_loopg [7, 8] n (fun k sv i wr => ∃ (j : Nat) (U : ByteArray), j + k = n ∧ i = .int .i64 (j : Int) ∧ sv = .string U ∧ Hid (U.data.toList = gnest j) ∧ Below W3.heap.size W3 wr)
 case atStart => exact ⟨0, ⟨#[]⟩, by omega, rfl, rfl, Lib.hid rfl, Below.refl _ _⟩
 case round =>
  obtain ⟨j, U, hj, rfl, rfl, HU, hb⟩ := hrel
  have HB := Lib.hid hb
  have HJJ := Lib.hid hj
  have hjn : j ≤ 100 := by have := HNN.out; omega
  have hUz : U.size = 4 * j := by
   have h1 : U.size = (gnest j).length := by rw [← HU.out]; simp
   rw [h1, gnest_len]
  have hUs : U.size ≤ 400 := by omega
  clear hj hb hUz
  by_cases hlt : j < n
  · have q1 : ¬ 9223372036854775807 < TB.size + U.size := by have := HZ.out; omega
    have q2 : ¬ 9223372036854775807 < (TB ++ U).size + TE.size := by rw [ByteArray.size_append]; have := HZ.out; omega
    go_wp2_with fail
    refine (HTB.out wr).mono ?_; rintro e w4 ⟨rfl, hb4⟩
    have HB4 := Lib.hid (below_step HB.out hb4)
    clear hb4
    go_wp2_with fail
    refine (HTE.out w4).mono ?_; rintro e w5 ⟨rfl, hb5⟩
    have HB5 := Lib.hid (below_step HB4.out hb5)
    clear hb5
    go_wp2_with fail
    have hj := HJJ.out
    go_roundg (gk - 1)
    case measure => omega
    case rel => exact ⟨j + 1, TB ++ U ++ TE, by omega, by simp, rfl, Lib.hid (by rw [gnest]; simp [lB.out, lE.out, HU.out]), HB5.out⟩
  · have hjn2 : j = n := by have := HJJ.out; omega
    rw [hjn2] at HU
    have hb := HB.out
    have H7 := Lib.hid (H6.out.below hb)
    clear hb H6
    have zz := HZ.out
    obtain ⟨X1, hX1⟩ : ∃ X, s ++ U = X := ⟨_, rfl⟩
    obtain ⟨X2, hX2⟩ : ∃ X, s ++ TC ++ U ++ TD = X := ⟨_, rfl⟩
    obtain ⟨X3, hX3⟩ : ∃ X, s ++ TB = X := ⟨_, rfl⟩
    obtain ⟨X4, hX4⟩ : ∃ X, s ++ TB ++ TF = X := ⟨_, rfl⟩
    have z1 : X1.size = s.size + U.size := by rw [← hX1]; exact ByteArray.size_append ..
    have z2 : (s ++ TC).size = s.size + TC.size := ByteArray.size_append ..
    have z3 : (s ++ TC ++ U).size = s.size + TC.size + U.size := by rw [ByteArray.size_append, z2]
    have z4 : X2.size = s.size + TC.size + U.size + TD.size := by rw [← hX2, ByteArray.size_append, z3]
    have z5 : X3.size = s.size + TB.size := by rw [← hX3]; exact ByteArray.size_append ..
    have z6 : X4.size = s.size + TB.size + TF.size := by rw [← hX4, ByteArray.size_append, hX3, z5]
    have e1 : X1.data.toList = s.data.toList ++ gnest n := by rw [← hX1]; simp [HU.out]
    have e2 : X2.data.toList = s.data.toList ++ (vput (8 * 91 + 3) ++ (gnest n ++ vput (8 * 91 + 4))) := by rw [← hX2]; simp [HU.out, lC.out, lD.out]
    have e3 : X3.data.toList = s.data.toList ++ vput (8 * 90 + 3) := by rw [← hX3]; simp [lB.out]
    have e4 : X4.data.toList = s.data.toList ++ (vput (8 * 90 + 3) ++ vput (8 * 92 + 4)) := by rw [← hX4]; simp [lB.out, lF.out]
    obtain ⟨c3, hc3⟩ := gnest_open (n : Int)
    obtain ⟨c4, hc4⟩ := gnest_other (n : Int)
    obtain ⟨SU, hSU⟩ : ∃ X : ByteArray, (⟨(u ++ gnest n).toArray⟩ : ByteArray) = X := ⟨_, rfl⟩
    have hSE : SU = S ++ U := by rw [← hSU]; exact ByteArray.ext (Array.ext' (by simp [HSD.out, HU.out]))
    have hSq : (SU.toList == (S ++ U).toList) = true := by rw [hSE]; simp
    have HS1 := Lib.hid (fun w' => unsc_any (Lib.hid ukey_any) X1 (n : Int) w' (by omega) (by omega))
    have HS2 := Lib.hid (fun w' => unsc_any (Lib.hid ukey_any) X2 (n : Int) w' (by omega) (by omega))
    have HS3 := Lib.hid (fun w' => unsc_any (Lib.hid ukey_any) X3 (n : Int) w' (by omega) (by omega))
    have HS4 := Lib.hid (fun w' => unsc_any (Lib.hid ukey_any) X4 (n : Int) w' (by omega) (by omega))
    rw [e1, show scrd (s.data.toList ++ gnest n) n = .ok ((a, b, l, n0), u ++ gnest n) from mread_nest (σ := List UInt8 × List UInt8 × List KV × Nat) sc_tk90 n (Int.le_refl _) HX.out] at HS1
    rw [e2, show scrd _ n = .error _ from mread_nest_no (σ := List UInt8 × List UInt8 × List KV × Nat) HX.out (gnest_too n _ (Int.le_refl _))] at HS2
    rw [e3, show scrd _ n = .error _ from mread_nest_no (σ := List UInt8 × List UInt8 × List KV × Nat) HX.out hc3] at HS3
    rw [e4, show scrd _ n = .error _ from mread_nest_no (σ := List UInt8 × List UInt8 × List KV × Nat) HX.out hc4] at HS4
    have q1 : ¬ 9223372036854775807 < s.size + U.size := by omega
    have q2 : ¬ 9223372036854775807 < s.size + TC.size := by omega
    have q3 : ¬ 9223372036854775807 < (s ++ TC).size + U.size := by omega
    have q4 : ¬ 9223372036854775807 < (s ++ TC ++ U).size + TD.size := by omega
    have q5 : ¬ 9223372036854775807 < s.size + TB.size := by omega
    have q6 : ¬ 9223372036854775807 < X3.size + TF.size := by omega
    have q7 : ¬ 9223372036854775807 < S.size + U.size := by omega
    have HX1 := Lib.hid hX1
    have HX2 := Lib.hid hX2
    have HX3 := Lib.hid hX3
    have HX4 := Lib.hid hX4
    have HSQN := Lib.hid hSU
    rw [hX3] at hX4
    have HX4B := Lib.hid hX4
    clear e1 e2 e3 e4 z1 z2 z3 z4 z5 z6 zz hc3 hc4 hSU hSE hjn2 hX1 hX2 hX3 hX4
    go_wp2_with fail
    rw [HX1.out]
    refine (HS1.out wr).mono ?_; rintro e w5 ⟨hb, cs, rfl, lo2, lc2, rfl, _⟩
    clear HS1
    dsimp only [strV]
    rw [HSQN.out, HAN.out, HBN.out]
    have H8 := Lib.hid (H7.out.below hb)
    clear hb H7
    go_wp2_with fail
    obtain ⟨blr2, hbl⟩ : ∃ b, w5.heap.size = b := ⟨_, rfl⟩
    obtain ⟨W6, hW⟩ : ∃ W, w5.alloc (.cells #[.string AX, .string BX, .slice lo2 l.length lc2, .int .u32 (n0 : Int), .string SU] 26) = W := ⟨_, rfl⟩
    have hb : Below w5.heap.size w5 W6 := by rw [← hW]; exact below_new _ _
    have hr : W6.heap[blr2]? = some (.cells #[.string AX, .string BX, .slice lo2 l.length lc2, .int .u32 (n0 : Int), .string SU] 26 (0, 0)) := by rw [← hW, ← hbl]; exact new_row _ _ _
    rw [hW, hbl]
    clear hW hbl
    have H9 := Lib.hid (H8.out.below hb)
    clear hb H8
    have H10 := Lib.hid (H9.out.row (hr))
    clear H9
    clear hr
    refine (HTC.out W6).mono ?_; rintro e w7 ⟨rfl, hb⟩
    have H11 := Lib.hid (H10.out.below hb)
    clear hb H10
    go_wp2_with fail
    refine (HTD.out w7).mono ?_; rintro e w8 ⟨rfl, hb⟩
    have H12 := Lib.hid (H11.out.below hb)
    clear hb H11
    go_wp2_with fail
    rw [HX2.out]
    refine (HS2.out w8).mono ?_; rintro e w9 ⟨hb, v3, q3, rfl, _, hew⟩
    obtain ⟨T3, y3, rfl⟩ := hew.iface
    clear HS2
    unfold sczero
    have H13 := Lib.hid (H12.out.below hb)
    clear hb H12
    have H14 := Lib.hid (H13.out.ew (hew))
    clear H13
    clear hew
    go_wp2_with fail
    obtain ⟨Wa, hW⟩ : ∃ W, w9.alloc (.cells #[.string ⟨#[]⟩, .string ⟨#[]⟩, .slice none 0 0, .int .u32 0, .string ⟨#[]⟩] 26) = W := ⟨_, rfl⟩
    have hb : Below w9.heap.size w9 Wa := by rw [← hW]; exact below_new _ _
    rw [hW]
    clear hW
    have H15 := Lib.hid (H14.out.below hb)
    clear hb H14
    refine (HTB.out Wa).mono ?_; rintro e wb ⟨rfl, hb⟩
    have H16 := Lib.hid (H15.out.below hb)
    clear hb H15
    go_wp2_with fail
    rw [HX3.out]
    refine (HS3.out wb).mono ?_; rintro e wc ⟨hb, v4, q4, rfl, _, hew⟩
    obtain ⟨T4, y4, rfl⟩ := hew.iface
    clear HS3
    unfold sczero
    have H17 := Lib.hid (H16.out.below hb)
    clear hb H16
    clear hew
    go_wp2_with fail
    obtain ⟨Wd, hW⟩ : ∃ W, wc.alloc (.cells #[.string ⟨#[]⟩, .string ⟨#[]⟩, .slice none 0 0, .int .u32 0, .string ⟨#[]⟩] 26) = W := ⟨_, rfl⟩
    have hb : Below wc.heap.size wc Wd := by rw [← hW]; exact below_new _ _
    rw [hW]
    clear hW
    have H18 := Lib.hid (H17.out.below hb)
    clear hb H17
    refine (HTB.out Wd).mono ?_; rintro e we ⟨rfl, hb⟩
    have H19 := Lib.hid (H18.out.below hb)
    clear hb H18
    go_wp2_with fail
    try rw [HX3.out]
    refine (HTF.out we).mono ?_; rintro e wf ⟨rfl, hb⟩
    have H20 := Lib.hid (H19.out.below hb)
    clear hb H19
    go_wp2_with fail
    first | rw [HX4B.out] | rw [HX4.out]
    refine (HS4.out wf).mono ?_; rintro e wg ⟨hb, v5, q5, rfl, _, hew⟩
    obtain ⟨T5, y5, rfl⟩ := hew.iface
    clear HS4
    unfold sczero
    have H21 := Lib.hid (H20.out.below hb)
    clear hb H20
    clear hew
    go_wp2_with fail
    obtain ⟨Wh, hW⟩ : ∃ W, wg.alloc (.cells #[.string ⟨#[]⟩, .string ⟨#[]⟩, .slice none 0 0, .int .u32 0, .string ⟨#[]⟩] 26) = W := ⟨_, rfl⟩
    have hb : Below wg.heap.size wg Wh := by rw [← hW]; exact below_new _ _
    rw [hW]
    clear hW
    have H22 := Lib.hid (H21.out.below hb)
    clear hb H21
    refine (first10 Wh).mono ?_; rintro e wi ⟨rfl, hb⟩
    have H23 := Lib.hid (H22.out.below hb)
    clear hb H22
    have ca : wi.cell? ⟨blr1, 4, none⟩ = some (.string S) := row_cell (H23.out.is.2.2.1) (j := 4) rfl
    have cb : wi.cell? ⟨blr2, 4, none⟩ = some (.string SU) := row_cell (H23.out.is.2.1) (j := 4) rfl
    go_wp2_with fail
    obtain ⟨ws, he⟩ := (H23.out.is.1).ec
    refine (code_any ws _ _ wi he (root_code _) (HG.out.below (H23.out.is.2.2.2.1))).mono ?_; rintro e wj ⟨rfl, hb⟩
    rw [show codeOf (codeV ((6 : Nat) : Int)) = 6 from rfl]
    have H24 := Lib.hid (H23.out.below hb)
    clear hb H23
    clear he ca cb
    go_wp2_with fail
    go_ret
    exact ⟨rfl, H24.out.is.2.2.2.1⟩
set_option maxRecDepth 1000000 in
set_option maxHeartbeats 16000000 in
theorem scdeep_any (s : ByteArray) (w : World) (d : Int) (hg : Glob w) :
 Calls Tryz.prog 7 #[.string s, .int .i64 d] w fun e w' => e = .returned (.bool true) ∧ Below w.heap.size w w' := by
 by_cases h1 : 6000 < s.size
 · exact scdeep_long1 s w d h1
 by_cases h2 : d < 0
 · exact scdeep_long2 s w d h1 h2
 by_cases h3 : 100 < d
 · exact scdeep_long3 s w d h1 h2 h3
 obtain ⟨n, rfl⟩ := Int.eq_ofNat_of_zero_le (show 0 ≤ d by omega)
 cases hx : scrd s.data.toList (n : Int) with
 | error c => exact scdeep_A s w n (by omega) (by omega) hx
 | ok x => exact scdeep_C s w n (by omega) (by omega) hg hx
end Go.Proofs.YtbdbmkmebeemoaaGreatDoor
namespace Go.Proofs.YtbdbmkmebeemoaaGreatDoor.scopeDeep
open Go.ChangeShapes Go.WideShapes Go.ChangeAt Go.RowKit
open Go.ChangeMaps (open_string shut_string)

theorem reads (os : Os) {H : Type} (enc : TypeId × Value → H) : ∃ places, DataW.whole enc Tryz.prog ((laidWorld os).forCall (fun _ _ => 0) ⟨#[], #[.string .empty, .int .i64 0], []⟩).memory Tryz.f7.params.toList Rows.scopeDeepSpec.vars false (#[.string .empty, .int .i64 0] : Array Value).toList 8 = some ([.lit (.string []), .lit (.int .i64 0)], [], places) :=
  ⟨[], by kernel_rfl⟩
set_option maxRecDepth 100000 in
theorem lifted (os : Os) (started : os.Started) (H : Type) (enc : TypeId × Value → H) (F : Stop.Interp) :
    ReturnsInHanded {} Tryz.checked os 7 .any ((OpenSpec.ofChange Rows.scopeDeepSpec).preRow enc Tryz.prog Tryz.f7 Rows.scopeDeepRow.domain false Rows.scopeDeepRow.laid) (((OpenSpec.ofChange Rows.scopeDeepSpec).at F).post enc Tryz.prog Tryz.f7 false true false false) := by
  obtain ⟨places, hx⟩ := reads os enc
  refine returnsInHanded_of_row (C := Tryz.checked) (s := OpenSpec.ofChange Rows.scopeDeepSpec) Tryz.own started (by kernel_rfl) Tryz.func7
    (witness_row_at (enc := enc) (C := Tryz.checked) false (laidWorld os) #[.string .empty, .int .i64 0] rfl (by kernel_rfl) (by kernel_rfl) (by kernel_rfl)
      (OpenSpec.preRow_of_cond 8 hx (by kernel_rfl) (fun k hk => by cases hk) (by kernel_rfl) (laidWorld_met os _))) ?_
  intro W base args ds gs before hval0 hW _ _ _ hL _ _
  have hg : Glob W := glob_of_laid hL
  clear hL
  have hval : ∀ (j : Nat) t v, Tryz.f7.params[j]? = some t → args[j]? = some v → Value.okWide Tryz.prog W .any base t v := hval0
  have hW' := hW
  obtain ⟨p, q, hA0, hV, rfl, hfz, hnd⟩ := hW
  have hA : DataW.TrodAll enc Tryz.prog W 0 (fun _ => true) true Tryz.f7.params.toList args.toList ds p := hA0
  rw [Tryz.params7] at hA hval
  obtain ⟨v0, vs0, d0, ds0, p0, q0, hargs, rfl, rfl, h0, r0⟩ := trodAll_cons hA
  obtain ⟨v1, vs1, d1, ds1, p1, q1, rfl, rfl, rfl, h1, r1⟩ := trodAll_cons r0
  obtain ⟨rfl, rfl, rfl⟩ := trodAll_nil r1
  obtain rfl : args = #[v0, v1] := by cases args; simp_all
  have hpl : ∀ x ∈ p0 ++ (p1 ++ []), x.block < W.heap.size := fun x hx => by simpa using hW'.lt x (List.mem_append_left _ hx)
  obtain ⟨a0, rfl, rfl, rfl, z0⟩ := open_string Tryz.underlying9 (hval 0 9 v0 rfl rfl) h0
  obtain ⟨a1, rfl, rfl, rfl, w1⟩ := open_int Tryz.underlying3 (hval 1 3 v1 rfl rfl) h1
  have b1 : -9223372036854775808 ≤ a1 ∧ a1 ≤ 9223372036854775807 := by simp [Lit.wf, IntKind.min, IntKind.max, IntKind.signed, IntKind.bits] at w1; omega
  refine Calls.mono ?_ (fun e W' (h : e = .returned (.bool true) ∧ Below W.heap.size W W') => ⟨_, h.1, law_post (by kernel_rfl) (by kernel_rfl) rfl Tryz.underlying4 rfl hW' (fun ds hd => by match ds, hd with | [_, _], _ => rfl) h.2⟩)
  exact scdeep_any a0 W a1 hg

theorem over : Rows.ScopeDeepSaid :=
  OpenClaim.holds_of_cond 7 Tryz.f7 rfl rfl rfl rfl rfl rfl rfl ⟨rfl, rfl, rfl, rfl, rfl⟩ rfl rfl rfl rfl rfl (by kernel_rfl) Tryz.func7 (by kernel_rfl)
    (of_decide_eq_true (by kernel_rfl)) (by unfold Func.isWrapper; first | (rw [if_pos (by decide +kernel)]; kernel_rfl) | (rw [if_neg (by decide +kernel)]; exact ⟨rfl, rfl⟩))
    (fun os started H enc _ F => by rw [OpenClaim.pre_eq_preRow]; exact lifted os started H enc F)
theorem looks (f : FuncId) (fn : Func) (hf : Tryz.pinned.checked.prog.funcNamed "hygrometer/hyglaw10.ScopeDeep" = some f) (hfn : Tryz.pinned.checked.prog.funcs[f]? = some fn) :
    true = Tryz.pinned.checked.prog.looks [] ∧ ∀ (j : Nat) t, fn.params[j]? = some t → Tryz.pinned.checked.prog.wantsStandIn t = false := by
  obtain rfl : f = 7 := Option.some.inj ((show Tryz.prog.funcNamed "hygrometer/hyglaw10.ScopeDeep" = some 7 by kernel_rfl).symm.trans hf) |>.symm
  obtain rfl : fn = Tryz.f7 := (Option.some.inj (Tryz.func7.symm.trans hfn)).symm
  refine ⟨by kernel_rfl, fun j t ht => ?_⟩
  have hall : Tryz.f7.params.toList.all (fun t => Tryz.prog.wantsStandIn t == false) = true := by kernel_rfl
  have := List.all_eq_true.1 hall t (by simpa using Array.mem_of_getElem? ht)
  exact eq_of_beq this
theorem proved : Rows.ScopeDeepCardSaid :=
  Claim7.holds_tied_plain_at .later [] _ _ _ _ over (fun _ h => by cases h) (by kernel_rfl) (fun _ h => by cases h) scopeDeep_row_tie rfl ⟨rfl, rfl⟩ (by kernel_rfl) rfl looks (by kernel_rfl)
end Go.Proofs.YtbdbmkmebeemoaaGreatDoor.scopeDeep
