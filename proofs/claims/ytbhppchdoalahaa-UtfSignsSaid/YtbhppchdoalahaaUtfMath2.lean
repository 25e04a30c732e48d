/-
  Plain facts on signs: what is written for a number; texts one behind the other.
-/
import Derived.Test.YtbhppchdoalahaaUtfMath
namespace Go.Proofs.Ytbhppchdoalahaa
open Go.RowKit

/-- the bytes of a sign -/
def uenc (c : Nat) : List UInt8 :=
  if c < 128 then [UInt8.ofNat c]
  else if c < 2048 then [UInt8.ofNat (192 + c / 64), UInt8.ofNat (128 + c % 64)]
  else if c < 65536 then [UInt8.ofNat (224 + c / 4096), UInt8.ofNat (128 + c / 64 % 64), UInt8.ofNat (128 + c % 64)]
  else [UInt8.ofNat (240 + c / 262144), UInt8.ofNat (128 + c / 4096 % 64), UInt8.ofNat (128 + c / 64 % 64), UInt8.ofNat (128 + c % 64)]
def ugoodc (c : Nat) : Prop := c ≤ 1114111 ∧ ¬ (55296 ≤ c ∧ c ≤ 57343)
theorem ofNat_toNat' {n : Nat} (h : n < 256) : (UInt8.ofNat n).toNat = n := by simp; omega
theorem usign_enc {c : Nat} (h : ugoodc c) (r : List UInt8) : usign (uenc c ++ r) = (uenc c).length := by
  obtain ⟨h1, h2⟩ := h
  unfold uenc
  by_cases c1 : c < 128
  · rw [if_pos c1]
    have hz : usize ((([UInt8.ofNat c] : List UInt8) ++ r).getD 0 0).toNat = 1 := by
      show usize (UInt8.ofNat c).toNat = 1
      rw [ofNat_toNat' (by omega)]; unfold usize
      rw [if_neg (by omega), if_neg (by omega), if_neg (by omega), if_neg (by omega)]
    rw [usign_1 hz (by simp)]; rfl
  · rw [if_neg c1]
    by_cases c2 : c < 2048
    · rw [if_pos c2]
      have hz : usize ((([UInt8.ofNat (192 + c / 64), UInt8.ofNat (128 + c % 64)] : List UInt8) ++ r).getD 0 0).toNat = 2 := by
        show usize (UInt8.ofNat (192 + c / 64)).toNat = 2
        rw [ofNat_toNat' (by omega)]; unfold usize
        rw [if_neg (by omega), if_neg (by omega), if_neg (by omega), if_pos (by omega)]
      rw [usign_2 hz (by simp)]
      · rfl
      · show usecond (UInt8.ofNat (192 + c / 64)).toNat (UInt8.ofNat (128 + c % 64)).toNat = true
        rw [ofNat_toNat' (by omega), ofNat_toNat' (by omega)]; unfold usecond
        rw [if_neg (by omega), if_neg (by omega), if_neg (by omega), if_neg (by omega)]; simp; omega
    · rw [if_neg c2]
      by_cases c3 : c < 65536
      · rw [if_pos c3]
        have hz : usize ((([UInt8.ofNat (224 + c / 4096), UInt8.ofNat (128 + c / 64 % 64), UInt8.ofNat (128 + c % 64)] : List UInt8) ++ r).getD 0 0).toNat = 3 := by
          show usize (UInt8.ofNat (224 + c / 4096)).toNat = 3
          rw [ofNat_toNat' (by omega)]; unfold usize
          rw [if_neg (by omega), if_neg (by omega), if_pos (by omega)]
        rw [usign_3 hz (by simp)]
        · rw [if_pos]
          · rfl
          · show ucont (UInt8.ofNat (128 + c % 64)) = true
            unfold ucont; rw [ofNat_toNat' (by omega)]; simp; omega
        · show usecond (UInt8.ofNat (224 + c / 4096)).toNat (UInt8.ofNat (128 + c / 64 % 64)).toNat = true
          rw [ofNat_toNat' (by omega), ofNat_toNat' (by omega)]; unfold usecond
          repeat' split
          all_goals (simp; omega)
      · rw [if_neg c3]
        have hz : usize ((([UInt8.ofNat (240 + c / 262144), UInt8.ofNat (128 + c / 4096 % 64), UInt8.ofNat (128 + c / 64 % 64), UInt8.ofNat (128 + c % 64)] : List UInt8) ++ r).getD 0 0).toNat = 4 := by
          show usize (UInt8.ofNat (240 + c / 262144)).toNat = 4
          rw [ofNat_toNat' (by omega)]; unfold usize
          rw [if_neg (by omega), if_pos (by omega)]
        rw [usign_4 hz (by simp)]
        · rw [if_pos]
          · rfl
          · show (ucont (UInt8.ofNat (128 + c / 64 % 64)) && ucont (UInt8.ofNat (128 + c % 64))) = true
            unfold ucont; rw [ofNat_toNat' (by omega), ofNat_toNat' (by omega)]; simp; omega
        · show usecond (UInt8.ofNat (240 + c / 262144)).toNat (UInt8.ofNat (128 + c / 4096 % 64)).toNat = true
          rw [ofNat_toNat' (by omega), ofNat_toNat' (by omega)]; unfold usecond
          repeat' split
          all_goals (simp; omega)
theorem uenc_length (c : Nat) : 1 ≤ (uenc c).length ∧ (uenc c).length ≤ 4 := by
  unfold uenc
  repeat' split
  all_goals simp
/-- a first byte is no byte behind one -/
theorem uenc_lead {c : Nat} (h : ugoodc c) : ∃ b r, uenc c = b :: r ∧ (b.toNat < 128 ∨ 192 ≤ b.toNat) := by
  obtain ⟨h1, h2⟩ := h
  unfold uenc
  by_cases c1 : c < 128
  · rw [if_pos c1]; exact ⟨_, _, rfl, by rw [ofNat_toNat' (by omega)]; omega⟩
  · rw [if_neg c1]
    by_cases c2 : c < 2048
    · rw [if_pos c2]; exact ⟨_, _, rfl, by rw [ofNat_toNat' (by omega)]; omega⟩
    · rw [if_neg c2]
      by_cases c3 : c < 65536
      · rw [if_pos c3]; exact ⟨_, _, rfl, by rw [ofNat_toNat' (by omega)]; omega⟩
      · rw [if_neg c3]; exact ⟨_, _, rfl, by rw [ofNat_toNat' (by omega)]; omega⟩
theorem encode_uenc {c : Nat} (h : ugoodc c) : Utf8.encode (c : Int) = ByteArray.mk (uenc c).toArray := by
  obtain ⟨h1, h2⟩ := h
  have hv : Utf8.valid (c : Int) = true := by simp [Utf8.valid]; omega
  unfold Utf8.encode uenc
  simp only [hv, if_true, Int.toNat_natCast]
  repeat' split
  all_goals rfl

theorem usecond_cont {c d : Nat} (h : usecond c d = true) : 128 ≤ d ∧ d ≤ 191 := by
  unfold usecond at h
  repeat' split at h
  all_goals (simp at h; omega)
theorem usign_inner {l : List UInt8} (h0 : usign l ≠ 0) {i : Nat} (h1 : 1 ≤ i) (h2 : i < usign l) : 128 ≤ (l.getD i 0).toNat ∧ (l.getD i 0).toNat ≤ 191 := by
  have hn : usize (l.getD 0 0).toNat = usign l := by
    rcases usign_cases l with e | e
    · exact absurd e h0
    · exact e.symm
  have hl := (usign_le l).1
  have hs : ¬(1 < usign l ∧ usecond (l.getD 0 0).toNat (l.getD 1 0).toNat = false) := fun h => h0 (usign_second hn h.1 h.2)
  have hv := usign_all hn h0 hl hs
  rcases (by omega : i = 1 ∨ 2 ≤ i) with rfl | hi
  · refine usecond_cont (c := (l.getD 0 0).toNat) ?_
    cases h : usecond (l.getD 0 0).toNat (l.getD 1 0).toNat with
    | true => rfl
    | false => exact absurd ⟨h2, h⟩ hs
  · have ha : ((l.take (usign l)).drop 2).all ucont = true := by
      cases h : ((l.take (usign l)).drop 2).all ucont with
      | true => rfl
      | false => rw [h] at hv; exact absurd hv h0
    have hm : l[i]'(by omega) ∈ (l.take (usign l)).drop 2 := by
      rw [List.mem_iff_getElem]
      refine ⟨i - 2, by simp; omega, ?_⟩
      rw [List.getElem_drop, List.getElem_take]
      congr 1; omega
    have := List.all_eq_true.1 ha _ hm
    rw [List.getD_eq_getElem?_getD, List.getElem?_eq_getElem (by omega : i < l.length)]
    simpa [ucont] using this
theorem uvalid_nil : uvalid [] = true := by decide
theorem uvalid_step {l : List UInt8} (h : usign l ≠ 0) : uvalid l = uvalid (l.drop (usign l)) := by
  have hle := (usign_le l).1
  rw [Bool.eq_iff_iff, uvalid_iff, uvalid_iff, uwhole_cons h (by omega)]
  have e : ((l.length : Int) - (usign l : Int)) = ((l.drop (usign l)).length : Int) := by simp; omega
  rw [e]
  simp
  omega
theorem uvalid_bad {l : List UInt8} (h : usign l = 0) (hl : l ≠ []) : uvalid l = false := by
  cases hv : uvalid l with
  | false => rfl
  | true =>
    rw [uvalid_iff, uwhole_stop (.inl h)] at hv
    exact absurd (List.length_eq_zero_iff.1 hv.symm) hl
theorem ubad_zero {l : List UInt8} (h : usign l = 0) (hl : l ≠ []) : ubad l = 0 := by
  unfold ubad
  rw [uwhole_stop (.inl h), if_neg (fun e => hl (List.length_eq_zero_iff.1 e.symm))]
  rfl
theorem enc_left {c : Nat} (h : ugoodc c) (s : List UInt8) : uvalid (uenc c ++ s) = uvalid s := by
  have hk := usign_enc h s
  have hl := uenc_length c
  rw [uvalid_step (by rw [hk]; omega), hk, List.drop_left]
theorem enc_valid {c : Nat} (h : ugoodc c) : uvalid (uenc c) = true := by
  have := enc_left h []
  rw [List.append_nil] at this
  rw [this, uvalid_nil]
theorem usign_encs {c : Nat} (h : ugoodc c) : usign (uenc c) = (uenc c).length := by
  have := usign_enc h []
  rwa [List.append_nil] at this
theorem enc_right {c : Nat} (h : ugoodc c) : ∀ (f : Nat) (s : List UInt8), s.length ≤ f → uvalid (s ++ uenc c) = uvalid s := by
  intro f
  induction f with
  | zero =>
    intro s hs
    have : s = [] := List.length_eq_zero_iff.1 (by omega)
    subst this
    rw [List.nil_append, enc_valid h, uvalid_nil]
  | succ f ih =>
    intro s hs
    by_cases hn : s = []
    · subst hn; rw [List.nil_append, enc_valid h, uvalid_nil]
    · have hpos : 0 < s.length := List.length_pos_iff.2 hn
      have ht := usign_take (s ++ uenc c) s.length
      rw [List.take_left] at ht
      by_cases h0 : usign s = 0
      · rw [uvalid_bad h0 hn]
        have h1 : usign (s ++ uenc c) = 0 := by
          rw [h0] at ht
          split at ht
          · exact ht.symm
          · rename_i hgt
            obtain ⟨b, r, hb, hlead⟩ := uenc_lead h
            have hx := usign_inner (l := s ++ uenc c) (by omega) hpos (by omega)
            have e : (s ++ uenc c).getD s.length 0 = b := by
              rw [List.getD_eq_getElem?_getD, List.getElem?_append_right (Nat.le_refl _), Nat.sub_self, hb]; rfl
            rw [e] at hx
            omega
        exact uvalid_bad h1 (by simp [hn])
      · have h1 : usign (s ++ uenc c) = usign s := by
          split at ht
          · exact ht.symm
          · exact absurd ht h0
        have hle := (usign_le s).1
        rw [uvalid_step (by rw [h1]; exact h0), uvalid_step h0, h1, List.drop_append_of_le_length hle, ih _ (by simp; omega)]
theorem enc_cut {c : Nat} (h : ugoodc c) {k : Nat} (h1 : 0 < k) (h2 : k < (uenc c).length) : uvalid ((uenc c).take k) = false ∧ ubad ((uenc c).take k) = 0 := by
  have e : usign ((uenc c).take k) = 0 := by rw [usign_take, usign_encs h, if_neg (by omega)]
  have hn : (uenc c).take k ≠ [] := by
    intro e2
    rcases List.take_eq_nil_iff.1 e2 with h | h
    · omega
    · rw [h] at h2; simp at h2
  exact ⟨uvalid_bad e hn, ubad_zero e hn⟩
theorem enc_clip {c : Nat} (h : ugoodc c) {k : Nat} (h2 : k < (uenc c).length) : (uenc c).take (uwhole (uenc c) k) = [] := by
  rw [uwhole_stop (.inr (by rw [usign_encs h]; omega))]; rfl
/-- a surrogate is no sign -/
theorem surrogate (c : Nat) (h : 55296 ≤ c ∧ c ≤ 57343) : usign [237, UInt8.ofNat (128 + c / 64 % 64), UInt8.ofNat (128 + c % 64)] = 0 := by
  refine usign_second (n := 3) (show usize (237 : UInt8).toNat = 3 by decide) (by decide) ?_
  show usecond 237 (UInt8.ofNat (128 + c / 64 % 64)).toNat = false
  rw [ofNat_toNat' (by omega)]
  unfold usecond
  rw [if_neg (by omega), if_pos rfl]
  simp; omega
end Go.Proofs.Ytbhppchdoalahaa
