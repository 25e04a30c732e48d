/-
  Records that no table takes, before or behind a message.
-/
import Derived.Test.YtbdbmkmebeemoaaValTwice
import Derived.Test.YtbdbmkmebeemoaaWireP
namespace Go.Proofs.Ytbdbmkmebeemoaa
open Go.RowKit

theorem othr_wall (r : Rec) (d : Int) (hr : ∀ d, IsRec d r) : wall r.raw d = .ok [r] := by
  have h1 := recs_wall [r] d (fun x hx => by rw [List.mem_singleton] at hx; subst hx; exact hr d)
  rwa [show [r].flatMap Rec.raw = r.raw by simp] at h1
theorem mread_open {σ : Type} {tk : Rec → Bool} {step : σ → Rec → Except Nat σ} {st x : σ} {s u : List UInt8} {d : Int} (h : mread tk step st s d = .ok (x, u)) : 0 ≤ d ∧ ∃ rs, wall s d = .ok rs ∧ mfold tk step st rs = .ok x ∧ u = munk tk rs := by
  unfold mread at h
  split at h
  · cases h
  · cases hw : wall s d with
    | error c => rw [hw] at h; cases h
    | ok rs =>
      rw [hw] at h
      dsimp only at h
      cases hf : mfold tk step st rs with
      | error c => rw [hf] at h; cases h
      | ok y =>
        rw [hf] at h
        simp only [Except.ok.injEq, Prod.mk.injEq] at h
        exact ⟨by omega, rs, rfl, by rw [← h.1]; exact hf, h.2.symm⟩
theorem mread_behind {σ : Type} {tk : Rec → Bool} {step : σ → Rec → Except Nat σ} {st x : σ} {s u : List UInt8} {d : Int} (r : Rec) (hr : ∀ d, IsRec d r) (hk : tk r = false) (h : mread tk step st s d = .ok (x, u)) : mread tk step st (s ++ r.raw) d = .ok (x, u ++ r.raw) := by
  obtain ⟨hd, rs, hw, hf, rfl⟩ := mread_open h
  unfold mread
  rw [if_neg (by omega), wall_append _ r.raw (Nat.le_refl _) hw, othr_wall r d hr]
  dsimp only
  rw [mfold_append, hf]
  simp [mfold, hk, munk, mrest]
theorem mread_before {σ : Type} {tk : Rec → Bool} {step : σ → Rec → Except Nat σ} {st x : σ} {s u : List UInt8} {d : Int} (r : Rec) (hr : ∀ d, IsRec d r) (hk : tk r = false) (h : mread tk step st s d = .ok (x, u)) : mread tk step st (r.raw ++ s) d = .ok (x, r.raw ++ u) := by
  obtain ⟨hd, rs, hw, hf, rfl⟩ := mread_open h
  unfold mread
  rw [if_neg (by omega), wall_append _ s (Nat.le_refl _) (othr_wall r d hr), hw]
  simp [mfold, hk, hf, munk, mrest]
theorem mread_before_no {σ : Type} {tk : Rec → Bool} {step : σ → Rec → Except Nat σ} {st : σ} {s : List UInt8} {d : Int} {c : Nat} (r : Rec) (hr : ∀ d, IsRec d r) (hk : tk r = false) (h : mread tk step st s d = .error c) : ∃ c', mread tk step st (r.raw ++ s) d = .error c' := by
  cases hb : mread tk step st (r.raw ++ s) d with
  | error c' => exact ⟨c', rfl⟩
  | ok xu =>
    exfalso
    obtain ⟨x, u⟩ := xu
    obtain ⟨hd, rs, hw, hf, _⟩ := mread_open hb
    rw [wall_append _ s (Nat.le_refl _) (othr_wall r d hr)] at hw
    unfold mread at h
    rw [if_neg (by omega)] at h
    cases hs : wall s d with
    | error c => rw [hs] at hw; cases hw
    | ok ks =>
      rw [hs] at hw h
      simp only [Except.ok.injEq] at hw
      subst hw
      have hf2 : mfold tk step st ks = .ok x := by
        rw [show [r] ++ ks = r :: ks from rfl, mfold, if_neg (by rw [hk]; simp)] at hf
        exact hf
      dsimp only at h
      rw [hf2] at h
      cases h
theorem mread_unk {σ : Type} {tk : Rec → Bool} {step : σ → Rec → Except Nat σ} {st st' : σ} {l u : List UInt8} {d : Int} (h : mread tk step st l d = .ok (st', u)) : u.length ≤ l.length := by
  obtain ⟨_, rs, _, h2, _, h4, _⟩ := mread_inv h
  have := tlen_munk tk rs
  rw [h4, ← h2] at this
  omega
/-- four bytes of a number that no table knows -/
theorem othr_txt {num : Nat} (s : List UInt8) (hs : s.length = 4) (h1 : 1 ≤ num) (h2 : num ≤ 536870911) : Txt (vput (8 * num + 5) ++ s) ⟨num, 5, wlit s, [], vput (8 * num + 5) ++ s⟩ := by
  refine ⟨rfl, by show 5 ≠ 3; omega, by show 5 ≠ 4; omega, (vput (8 * num + 5)).length, s.length, by simp, (vput_length _).1, fun u => ⟨?_, ?_⟩⟩
  · rw [List.append_assoc]; exact whd_vput _ h1 h2 (by omega)
  · rw [List.append_assoc, List.drop_left]
    unfold wbd
    rw [if_neg (show ¬ (5 = 1) by decide), if_pos rfl, if_neg (by simp; omega), List.take_append_of_le_length (by omega), List.take_of_length_le (by omega), hs]
theorem othr_rec {num kind : Nat} (h1 : 1 ≤ num) (h2 : num ≤ 536870911) (h3 : kind ≤ 5) (t : List UInt8) : wrec num kind t = vput (8 * num + kind) ++ t := by
  unfold wrec
  rw [wtag_ok h1 h2 h3, if_neg (vput_ne _)]
theorem oth_four (k : Nat) (h1 : 1 ≤ k) (h2 : k ≤ 536870911) : ∃ (r : Rec) (_ : True) (_ : r.ty = 5) (T U : ByteArray), (⟨(wtag (k : Int) 5).toArray⟩ : ByteArray) = T ∧ T ++ ⟨#[97, 98, 99, 100]⟩ = U ∧ U.data.toList = r.raw ∧ T.size ≤ 10 ∧ U.size ≤ 14 ∧ ∀ d, IsRec d r := by
  have HT4 := othr_txt (num := k) [97, 98, 99, 100] rfl h1 h2
  have hl : (⟨(wtag (k : Int) 5).toArray⟩ : ByteArray).data.toList = vput (8 * k + 5) := by simp [show wtag (k : Int) 5 = _ from wtag_ok (kind := 5) h1 h2 (by omega)]
  have hs : (⟨(wtag (k : Int) 5).toArray⟩ : ByteArray).size ≤ 10 := by
    have : (⟨(wtag (k : Int) 5).toArray⟩ : ByteArray).size = (⟨(wtag (k : Int) 5).toArray⟩ : ByteArray).data.toList.length := by simp [ByteArray.size]
    rw [this, hl]; exact (vput_length (8 * k + 5)).2
  refine ⟨_, trivial, rfl, _, _, rfl, rfl, ?_, hs, ?_, fun d => txt_isrec HT4 d⟩
  · rw [ByteArray.data_append, Array.toList_append, hl]
  · rw [ByteArray.size_append, show (⟨#[97, 98, 99, 100]⟩ : ByteArray).size = 4 from rfl]; omega
theorem oth_one (v : Nat) (hv : v < 2 ^ 64) : ∃ (r : Rec) (_ : r.num = 536870911) (L : ByteArray), (⟨(wrec 536870911 1 (eight 8 v)).toArray⟩ : ByteArray) = L ∧ L.data.toList = r.raw ∧ L.size ≤ 18 ∧ ∀ d, IsRec d r := by
  have HT1 := txt_fixed (num := 536870911) (n := v) (by omega) (by omega) hv
  have hl : (⟨(wrec 536870911 1 (eight 8 v)).toArray⟩ : ByteArray).data.toList = vput (8 * 536870911 + 1) ++ eight 8 v := by simp [show wrec 536870911 1 (eight 8 v) = _ from othr_rec (num := 536870911) (kind := 1) (by omega) (by omega) (by omega) _]
  refine ⟨_, rfl, _, rfl, hl, ?_, fun d => txt_isrec HT1 d⟩
  have : (⟨(wrec 536870911 1 (eight 8 v)).toArray⟩ : ByteArray).size = (⟨(wrec 536870911 1 (eight 8 v)).toArray⟩ : ByteArray).data.toList.length := by simp [ByteArray.size]
  rw [this, hl, List.length_append]
  have := (vput_length (8 * 536870911 + 1)).2
  have := eight_len 8 v
  omega
end Go.Proofs.Ytbdbmkmebeemoaa
