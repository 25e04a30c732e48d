/-
  Package utf: whole, Bad, Valid, Clip.
-/
import Derived.Test.YteknippgiljgeaaGreatDoorUtf
namespace Go.Proofs.YteknippgiljgeaaGreatDoor
open Go.RowKit

/-- where the last sign ends that ends within n bytes (f: at least as many as there are bytes) -/
def whl : Nat → List UInt8 → Int → Nat
  | 0, _, _ => 0
  | f + 1, l, n => if l = [] ∨ usign l = 0 ∨ n < usign l then 0 else usign l + whl f (l.drop (usign l)) (n - usign l)
theorem whl_fuel : ∀ (f g : Nat) (l : List UInt8) (n : Int), l.length ≤ f → l.length ≤ g → whl f l n = whl g l n
  | 0, 0, _, _, _, _ => rfl
  | 0, g + 1, l, n, hf, _ => by
    have : l = [] := List.length_eq_zero_iff.1 (by omega)
    rw [whl, whl, if_pos (.inl this)]
  | f + 1, 0, l, n, _, hg => by
    have : l = [] := List.length_eq_zero_iff.1 (by omega)
    rw [whl, whl, if_pos (.inl this)]
  | f + 1, g + 1, l, n, hf, hg => by
    rw [whl, whl]
    split
    · rfl
    · rename_i h
      have h1 : usign l ≠ 0 := fun e => h (.inr (.inl e))
      rw [whl_fuel f g _ _ (by simp; omega) (by simp; omega)]
/-- where what is right ends, within n bytes -/
def uwhole (l : List UInt8) (n : Int) : Nat := whl l.length l n
theorem whl_le : ∀ (f : Nat) (l : List UInt8) (n : Int), whl f l n ≤ l.length
  | 0, _, _ => Nat.zero_le _
  | f + 1, l, n => by
    rw [whl]
    split
    · exact Nat.zero_le _
    · have h1 := (usign_le l).1
      have := whl_le f (l.drop (usign l)) (n - usign l)
      simp at this
      omega
theorem uwhole_le (l : List UInt8) (n : Int) : uwhole l n ≤ l.length := whl_le _ _ _
def WhlRel (l : List UInt8) (n : Int) (j : Nat) : Prop := j ≤ l.length ∧ uwhole l n = j + uwhole (l.drop j) (n - j)
theorem whl_start (l : List UInt8) (n : Int) : WhlRel l n 0 := ⟨by omega, by simp⟩
theorem whl_stop {l : List UInt8} {n : Int} {j : Nat} (h : WhlRel l n j) (hs : l.drop j = [] ∨ usign (l.drop j) = 0 ∨ n - j < usign (l.drop j)) : uwhole l n = j := by
  rw [h.2]
  unfold uwhole
  cases hl : (l.drop j).length with
  | zero => rfl
  | succ m => rw [whl, if_pos hs]; rfl
theorem whl_next {l : List UInt8} {n : Int} {j : Nat} (h : WhlRel l n j) (h0 : l.drop j ≠ []) (h1 : usign (l.drop j) ≠ 0) (h2 : usign (l.drop j) ≤ n - j) : WhlRel l n (j + usign (l.drop j)) := by
  have hle := (usign_le (l.drop j)).1
  simp at hle
  refine ⟨by have := h.1; omega, ?_⟩
  rw [h.2]
  have : (l.drop j).length ≠ 0 := fun e => h0 (List.length_eq_zero_iff.1 e)
  conv => lhs; unfold uwhole
  cases hl : (l.drop j).length with
  | zero => exact absurd hl this
  | succ m =>
    rw [whl, if_neg (by rintro (h | h | h) <;> first | exact h0 h | exact h1 h | omega), List.drop_drop]
    have e : ((n - (j : Int)) - (usign (l.drop j) : Int)) = n - ((j + usign (l.drop j) : Nat) : Int) := by omega
    rw [e]
    unfold uwhole
    rw [whl_fuel m _ _ _ (by simp at hl ⊢; omega) (Nat.le_refl _)]
    omega

theorem extract_list (s : ByteArray) (j : Nat) : (s.extract j s.size).data.toList = s.data.toList.drop j := by
  have h : s.data.toList.length = s.size := by simp
  rw [ByteArray.data_extract, Array.toList_extract, List.extract_eq_take_drop, List.take_of_length_le (by simp)]
theorem extract_take (s : ByteArray) (j : Nat) : s.extract 0 j = ByteArray.mk (s.data.toList.take j).toArray := by
  apply ByteArray.ext
  apply Array.toList_inj.1
  rw [ByteArray.data_extract, Array.toList_extract, List.extract_eq_take_drop]
  simp
theorem extract_size (s : ByteArray) (j : Nat) : (s.extract j s.size).size = s.size - j := by simp
set_option maxRecDepth 100000 in
set_option maxHeartbeats 2000000 in
theorem whole_any (s : ByteArray) (n : Int) (w : World) (hm : s.size ≤ maxLen) (hn1 : -4611686018427387904 ≤ n) (hn2 : n ≤ 9223372036854775807) (hs : s.size ≤ 4611686018427387904) :
    Calls Tryz.prog 111 #[.string s, .int .i64 n] w fun e w' => e = .returned (.int .i64 (uwhole s.data.toList n : Nat)) ∧ w = w' := by
  have HM := Lib.hid hm
  have HL := Lib.hid (show s.data.toList.length = s.size by simp)
  clear hm
  go_enter Tryz.func111, Tryz.ntmps111
  go_wp2
  go_loopg [5] s.size (fun k i wr => ∃ j : Nat, j + k = s.size ∧ i = .int .i64 j ∧ WhlRel s.data.toList n j ∧ wr = w)
  case atStart => exact ⟨0, by omega, rfl, whl_start _ _, rfl⟩
  case round =>
    obtain ⟨j, hj, rfl, HR, rfl⟩ := hrel
    have HJ := Lib.hid hj
    have hjs : j ≤ s.size := by omega
    clear hj
    by_cases hlt : j < s.size
    · have HD : Hid (s.data.toList.drop j ≠ []) := Lib.hid (by intro e; have := congrArg List.length e; simp at this; have := HL.out; omega)
      have hse := extract_size s j
      obtain ⟨k, HK⟩ : ∃ k, Hid (k = usign (s.data.toList.drop j)) := ⟨_, Lib.hid rfl⟩
      have hk1 : k ≤ s.size - j := by rw [HK.out]; have := (usign_le (s.data.toList.drop j)).1; have := HL.out; simp at *; omega
      have HSE : Hid ((s.extract j s.size).size = s.size - j) := Lib.hid hse
      clear hse
      go_wp2_with fail
      refine (sign_any (s.extract j s.size) wr (by rw [HSE.out]; omega) (by rw [HSE.out]; have := HM.out; omega)).mono ?_; rintro e w' ⟨rfl, rfl⟩
      rw [extract_list, ← HK.out]
      by_cases hk0 : k = 0
      · subst hk0
        have HF := Lib.hid (whl_stop HR (.inr (.inl HK.out.symm)))
        go_wp2
        go_ret
        exact ⟨ret_int (by rw [HF.out]), rfl⟩
      · have hk0' : ((k : Int) == 0) = false := by simp; omega
        by_cases hkn : n - (j : Int) < (k : Int)
        · have HF := Lib.hid (whl_stop HR (.inr (.inr (by rw [← HK.out]; exact hkn))))
          go_wp2
          go_ret
          exact ⟨ret_int (by rw [HF.out]), rfl⟩
        · have HN := Lib.hid (whl_next HR HD.out (by rw [← HK.out]; exact hk0) (by rw [← HK.out]; omega))
          have hj := HJ.out
          go_wp2
          go_roundg (s.size - (j + k))
          case measure => omega
          case rel => exact ⟨j + k, by omega, by simp, by rw [HK.out]; exact HN.out, rfl⟩
    · have hj := HJ.out
      have HF := Lib.hid (whl_stop HR (.inl (List.drop_eq_nil_of_le (by have := HL.out; omega))))
      go_wp2
      go_ret
      exact ⟨ret_int (by rw [HF.out]), rfl⟩

theorem uwhole_neg (l : List UInt8) (n : Int) (h : n < 0) : uwhole l n = 0 := by
  unfold uwhole
  cases hl : l.length with
  | zero => rfl
  | succ m => rw [whl, if_pos (.inr (.inr (by omega)))]
set_option maxRecDepth 100000 in
set_option maxHeartbeats 2000000 in
theorem whole_neg (s : ByteArray) (n : Int) (w : World) (hm : s.size ≤ 4611686018427387904) (hn : n < 0) (hn1 : -9223372036854775808 ≤ n) :
    Calls Tryz.prog 111 #[.string s, .int .i64 n] w fun e w' => e = .returned (.int .i64 (uwhole s.data.toList n : Nat)) ∧ w = w' := by
  have HF := Lib.hid (uwhole_neg s.data.toList n hn)
  by_cases hs0 : s.size = 0
  · have hs1 : s.size ≤ 0 := by omega
    clear hs0
    go_enter Tryz.func111, Tryz.ntmps111
    go_wp2
    refine wp_loop_rounds 1 ?_
    rw [rounds_succ]
    go_wp2
    go_ret
    exact ⟨ret_int (by rw [HF.out]; rfl), rfl⟩
  · have hs1 : 0 < s.size := by omega
    obtain ⟨k, HK⟩ : ∃ k, Hid (k = usign s.data.toList) := ⟨_, Lib.hid rfl⟩
    clear hs0
    go_enter Tryz.func111, Tryz.ntmps111
    go_wp2
    refine wp_loop_rounds 1 ?_
    rw [rounds_succ]
    go_wp2_with fail
    go_at_call 133
    refine (sign_any s w hs1 (by unfold maxLen; omega)).mono ?_; rintro e w' ⟨rfl, rfl⟩
    rw [← HK.out]
    by_cases hk0 : k = 0
    · subst hk0
      go_wp2
      go_ret
      exact ⟨ret_int (by rw [HF.out]; rfl), rfl⟩
    · have hk0' : ((k : Int) == 0) = false := by simp; omega
      go_wp2
      go_ret
      exact ⟨ret_int (by rw [HF.out]; rfl), rfl⟩
theorem whole_in (s : ByteArray) (n : Int) (w : World) (hs : s.size ≤ 4611686018427387904) (hn1 : -9223372036854775808 ≤ n) (hn2 : n ≤ 9223372036854775807) :
    Calls Tryz.prog 111 #[.string s, .int .i64 n] w fun e w' => e = .returned (.int .i64 (uwhole s.data.toList n : Nat)) ∧ w = w' := by
  by_cases h : 0 ≤ n
  · exact whole_any s n w (by unfold maxLen; omega) (by omega) hn2 hs
  · exact whole_neg s n w hs (by omega) hn1
/-- where the first sign that is none begins, or -1 -/
def ubad (l : List UInt8) : Int := if uwhole l l.length = l.length then -1 else uwhole l l.length
theorem bad_any (s : ByteArray) (w : World) (hs : s.size ≤ 4611686018427387904) :
    Calls Tryz.prog 80 #[.string s] w fun e w' => e = .returned (.int .i64 (ubad s.data.toList)) ∧ w = w' := by
  have HL := Lib.hid (show s.data.toList.length = s.size by simp)
  obtain ⟨j, HJ⟩ : ∃ j, Hid (j = uwhole s.data.toList s.size) := ⟨_, Lib.hid rfl⟩
  go_enter Tryz.func80, Tryz.ntmps80
  go_wp2_with fail
  refine (whole_in s s.size w hs (by omega) (by omega)).mono ?_; rintro e w' ⟨rfl, rfl⟩
  rw [← HJ.out]
  by_cases hj : j = s.size
  · have HF : Hid (ubad s.data.toList = -1) := Lib.hid (by unfold ubad; rw [if_pos (by rw [HL.out, ← HJ.out]; exact hj)])
    have hj' : ((j : Int) == (s.size : Int)) = true := by simp; omega
    clear hj
    go_wp2
    go_ret
    exact ⟨ret_int (by rw [HF.out]), rfl⟩
  · have HF : Hid (ubad s.data.toList = j) := Lib.hid (by unfold ubad; rw [HL.out, ← HJ.out, if_neg hj])
    have hj' : ((j : Int) == (s.size : Int)) = false := by simp; omega
    clear hj
    go_wp2
    go_ret
    exact ⟨ret_int (by rw [HF.out]), rfl⟩
def uvalid (l : List UInt8) : Bool := decide (ubad l < 0)
theorem valid_any (s : ByteArray) (w : World) (hs : s.size ≤ 4611686018427387904) :
    Calls Tryz.prog 119 #[.string s] w fun e w' => e = .returned (.bool (uvalid s.data.toList)) ∧ w = w' := by
  go_enter Tryz.func119, Tryz.ntmps119
  go_wp2_with fail
  refine (bad_any s w hs).mono ?_; rintro e w' ⟨rfl, rfl⟩
  go_wp2
  go_ret
  exact ⟨rfl, rfl⟩
end Go.Proofs.YteknippgiljgeaaGreatDoor
