/-
  Package utf: signs, what is whole.
-/
import Derived.Test.YteknippgiljgeaaGreatDoorKit
import Derived.Deep.LoopGhost
namespace Go.Proofs.YteknippgiljgeaaGreatDoor
open Go.RowKit

def usize (c : Nat) : Nat := if 244 < c ∨ (128 ≤ c ∧ c < 194) then 0 else if 240 ≤ c then 4 else if 224 ≤ c then 3 else if 194 ≤ c then 2 else 1
def usecond (c d : Nat) : Bool :=
  if c = 224 then decide (160 ≤ d ∧ d ≤ 191) else if c = 237 then decide (128 ≤ d ∧ d ≤ 159) else if c = 240 then decide (144 ≤ d ∧ d ≤ 191) else if c = 244 then decide (128 ≤ d ∧ d ≤ 143) else decide (128 ≤ d ∧ d ≤ 191)
def ucont (b : UInt8) : Bool := decide (128 ≤ b.toNat ∧ b.toNat ≤ 191)
/-- how many bytes the sign has that a text begins with; 0: it is none -/
def usign (l : List UInt8) : Nat :=
  let n := usize (l.getD 0 0).toNat
  if n = 0 ∨ l.length < n then 0 else if 1 < n ∧ usecond (l.getD 0 0).toNat (l.getD 1 0).toNat = false then 0
  else if ((l.take n).drop 2).all ucont then n else 0
theorem usize_le (c : Nat) : usize c ≤ 4 := by
  unfold usize
  repeat' split
  all_goals omega
theorem usign_le (l : List UInt8) : usign l ≤ l.length ∧ usign l ≤ 4 := by
  have := usize_le (l.getD 0 0).toNat
  unfold usign
  dsimp only
  repeat' split
  all_goals omega
theorem byte_getD (s : ByteArray) (i : Nat) (h : i < s.size) : s.data.toList.getD i 0 = s[i]'h := by
  have h' : i < s.data.toList.length := by simpa using h
  rw [List.getD_eq_getElem?_getD, List.getElem?_eq_getElem h']; rfl

set_option maxRecDepth 100000 in
set_option maxHeartbeats 1000000 in
theorem second_any (c d : UInt8) (w : World) :
    Calls Tryz.prog 141 #[.int .u8 c.toNat, .int .u8 d.toNat] w fun e w' => e = .returned (.bool (usecond c.toNat d.toNat)) ∧ w = w' := by
  have hc := c.toNat_lt
  have hd := d.toNat_lt
  generalize c.toNat = x at *
  generalize d.toNat = y at *
  rcases (by omega : x = 224 ∨ x = 237 ∨ x = 240 ∨ x = 244 ∨ (x ≠ 224 ∧ x ≠ 237 ∧ x ≠ 240 ∧ x ≠ 244)) with rfl | rfl | rfl | rfl | ⟨h1, h2, h3, h4⟩
  · go_enter Tryz.func141, Tryz.ntmps141
    go_wp2
    all_goals go_ret
    all_goals exact ⟨ret_bool (by rw [Bool.eq_iff_iff]; simp [usecond]; omega), rfl⟩
  · go_enter Tryz.func141, Tryz.ntmps141
    go_wp2
    all_goals go_ret
    all_goals exact ⟨ret_bool (by rw [Bool.eq_iff_iff]; simp [usecond]; omega), rfl⟩
  · go_enter Tryz.func141, Tryz.ntmps141
    go_wp2
    all_goals go_ret
    all_goals exact ⟨ret_bool (by rw [Bool.eq_iff_iff]; simp [usecond]; omega), rfl⟩
  · go_enter Tryz.func141, Tryz.ntmps141
    go_wp2
    all_goals go_ret
    all_goals exact ⟨ret_bool (by rw [Bool.eq_iff_iff]; simp [usecond]; omega), rfl⟩
  · have g1 : ((x : Int) == 224) = false := by simp; omega
    have g2 : ((x : Int) == 237) = false := by simp; omega
    have g3 : ((x : Int) == 240) = false := by simp; omega
    have g4 : ((x : Int) == 244) = false := by simp; omega
    have HF := Lib.hid (show usecond x y = decide (128 ≤ y ∧ y ≤ 191) by unfold usecond; rw [if_neg h1, if_neg h2, if_neg h3, if_neg h4])
    clear h1 h2 h3 h4
    go_enter Tryz.func141, Tryz.ntmps141
    go_wp2
    all_goals go_ret
    all_goals exact ⟨ret_bool (by rw [HF.out, Bool.eq_iff_iff]; simp; omega), rfl⟩

theorem usign_val {l : List UInt8} {n : Nat} (hn : usize (l.getD 0 0).toNat = n) : usign l = if n = 0 ∨ l.length < n then 0 else if 1 < n ∧ usecond (l.getD 0 0).toNat (l.getD 1 0).toNat = false then 0 else if ((l.take n).drop 2).all ucont then n else 0 := by
  subst hn; rfl
theorem take3 {l : List UInt8} (h : 3 ≤ l.length) : (l.take 3).drop 2 = [l.getD 2 0] := by
  match l, h with
  | _ :: _ :: _ :: _, _ => rfl
theorem take4 {l : List UInt8} (h : 4 ≤ l.length) : (l.take 4).drop 2 = [l.getD 2 0, l.getD 3 0] := by
  match l, h with
  | _ :: _ :: _ :: _ :: _, _ => rfl
theorem usign_0 {l : List UInt8} (h : usize (l.getD 0 0).toNat = 0) : usign l = 0 := by rw [usign_val h, if_pos (.inl rfl)]
theorem usign_short {l : List UInt8} {n : Nat} (h : usize (l.getD 0 0).toNat = n) (hl : l.length < n) : usign l = 0 := by rw [usign_val h, if_pos (.inr hl)]
theorem usign_second {l : List UInt8} {n : Nat} (h : usize (l.getD 0 0).toNat = n) (h1 : 1 < n) (hs : usecond (l.getD 0 0).toNat (l.getD 1 0).toNat = false) : usign l = 0 := by
  rw [usign_val h]
  split
  · rfl
  · rw [if_pos ⟨h1, hs⟩]
theorem usign_1 {l : List UInt8} (h : usize (l.getD 0 0).toNat = 1) (hl : 1 ≤ l.length) : usign l = 1 := by
  rw [usign_val h, if_neg (by omega), if_neg (by omega), if_pos]
  have : (l.take 1).drop 2 = [] := List.drop_eq_nil_of_le (by simp; omega)
  rw [this]; rfl
theorem usign_2 {l : List UInt8} (h : usize (l.getD 0 0).toNat = 2) (hl : 2 ≤ l.length) (hs : usecond (l.getD 0 0).toNat (l.getD 1 0).toNat = true) : usign l = 2 := by
  rw [usign_val h, if_neg (by omega), if_neg (by rw [hs]; simp), if_pos]
  have : (l.take 2).drop 2 = [] := List.drop_eq_nil_of_le (by simp; omega)
  rw [this]; rfl
theorem usign_3 {l : List UInt8} (h : usize (l.getD 0 0).toNat = 3) (hl : 3 ≤ l.length) (hs : usecond (l.getD 0 0).toNat (l.getD 1 0).toNat = true) : usign l = if ucont (l.getD 2 0) then 3 else 0 := by
  rw [usign_val h, if_neg (by omega), if_neg (by rw [hs]; simp), take3 hl]
  simp
theorem usign_4 {l : List UInt8} (h : usize (l.getD 0 0).toNat = 4) (hl : 4 ≤ l.length) (hs : usecond (l.getD 0 0).toNat (l.getD 1 0).toNat = true) : usign l = if ucont (l.getD 2 0) && ucont (l.getD 3 0) then 4 else 0 := by
  rw [usign_val h, if_neg (by omega), if_neg (by rw [hs]; simp), take4 hl]
  simp

set_option maxRecDepth 100000 in
set_option maxHeartbeats 4000000 in
theorem sign_any (s : ByteArray) (w : World) (h0 : 0 < s.size) (hm : s.size ≤ maxLen) :
    Calls Tryz.prog 133 #[.string s] w fun e w' => e = .returned (.int .i64 (usign s.data.toList : Nat)) ∧ w = w' := by
  unfold maxLen at hm
  have e0 := byte_getD s 0 h0
  have HL := Lib.hid (show s.data.toList.length = s.size by simp)
  rcases (by omega : (244 < (s[0]'h0).toNat ∨ (128 ≤ (s[0]'h0).toNat ∧ (s[0]'h0).toNat < 194)) ∨ (s[0]'h0).toNat < 128 ∨ (194 ≤ (s[0]'h0).toNat ∧ (s[0]'h0).toNat < 224) ∨ (224 ≤ (s[0]'h0).toNat ∧ (s[0]'h0).toNat < 240) ∨ (240 ≤ (s[0]'h0).toNat ∧ (s[0]'h0).toNat ≤ 244)) with hc | hc | hc | hc | hc
  · have HF := Lib.hid (usign_0 (l := s.data.toList) (by rw [e0]; unfold usize; rw [if_pos hc]))
    clear e0
    rcases hc with hc | hc
    · go_enter Tryz.func133, Tryz.ntmps133
      go_wp2
      go_ret
      exact ⟨ret_int (by rw [HF.out]; rfl), rfl⟩
    · obtain ⟨hc1, hc2⟩ := hc
      go_enter Tryz.func133, Tryz.ntmps133
      go_wp2
      go_ret
      exact ⟨ret_int (by rw [HF.out]; rfl), rfl⟩
  · have HF := Lib.hid (usign_1 (l := s.data.toList) (by rw [e0]; unfold usize; rw [if_neg (by omega), if_neg (by omega), if_neg (by omega), if_neg (by omega)]) (by have := HL.out; omega))
    clear e0
    go_enter Tryz.func133, Tryz.ntmps133
    go_wp2
    refine wp_loop_rounds 1 ?_
    rw [rounds_succ]
    go_wp2
    go_ret
    exact ⟨ret_int (by rw [HF.out]; rfl), rfl⟩
  · have hz : usize (s.data.toList.getD 0 0).toNat = 2 := by rw [e0]; unfold usize; rw [if_neg (by omega), if_neg (by omega), if_neg (by omega), if_pos (by omega)]
    obtain ⟨hc1, hc2⟩ := hc
    by_cases hl : s.size < 2
    · have HF := Lib.hid (usign_short hz (by have := HL.out; omega))
      clear e0 hz
      go_enter Tryz.func133, Tryz.ntmps133
      go_wp2
      go_ret
      exact ⟨ret_int (by rw [HF.out]; rfl), rfl⟩
    · have e1 := byte_getD s 1 (by omega)
      cases hs : usecond (s[0]'h0).toNat (s[1]'(by omega)).toNat with
      | false =>
        have HF := Lib.hid (usign_second hz (by omega) (by rw [e0, e1]; exact hs))
        have HS := Lib.hid hs
        clear e0 hz e1 hs
        go_enter Tryz.func133, Tryz.ntmps133
        go_wp2_with (go_at_call 141; refine (second_any _ _ _).mono ?_; rintro e w' ⟨rfl, rfl⟩; rw [HS.out])
        go_ret
        exact ⟨ret_int (by rw [HF.out]; rfl), rfl⟩
      | true =>
        have HF := Lib.hid (usign_2 hz (by have := HL.out; omega) (by rw [e0, e1]; exact hs))
        have HS := Lib.hid hs
        clear e0 hz e1 hs
        go_enter Tryz.func133, Tryz.ntmps133
        go_wp2_with (go_at_call 141; refine (second_any _ _ _).mono ?_; rintro e w' ⟨rfl, rfl⟩; rw [HS.out])
        refine wp_loop_rounds 1 ?_
        rw [rounds_succ]
        go_wp2
        go_ret
        exact ⟨ret_int (by rw [HF.out]; rfl), rfl⟩
  · have hz : usize (s.data.toList.getD 0 0).toNat = 3 := by rw [e0]; unfold usize; rw [if_neg (by omega), if_neg (by omega), if_pos (by omega)]
    obtain ⟨hc1, hc2⟩ := hc
    by_cases hl : s.size < 3
    · have HF := Lib.hid (usign_short hz (by have := HL.out; omega))
      clear e0 hz
      go_enter Tryz.func133, Tryz.ntmps133
      go_wp2
      go_ret
      exact ⟨ret_int (by rw [HF.out]; rfl), rfl⟩
    · have e1 := byte_getD s 1 (by omega)
      cases hs : usecond (s[0]'h0).toNat (s[1]'(by omega)).toNat with
      | false =>
        have HF := Lib.hid (usign_second hz (by omega) (by rw [e0, e1]; exact hs))
        have HS := Lib.hid hs
        clear e0 hz e1 hs
        go_enter Tryz.func133, Tryz.ntmps133
        go_wp2_with (go_at_call 141; refine (second_any _ _ _).mono ?_; rintro e w' ⟨rfl, rfl⟩; rw [HS.out])
        go_ret
        exact ⟨ret_int (by rw [HF.out]; rfl), rfl⟩
      | true =>
        have HF := Lib.hid (usign_3 hz (by have := HL.out; omega) (by rw [e0, e1]; exact hs))
        have H2 := Lib.hid (byte_getD s 2 (by omega))
        have HS := Lib.hid hs
        clear e0 hz e1 hs
        go_enter Tryz.func133, Tryz.ntmps133
        go_wp2_with (go_at_call 141; refine (second_any _ _ _).mono ?_; rintro e w' ⟨rfl, rfl⟩; rw [HS.out])
        refine wp_loop_rounds 2 ?_
        rw [rounds_succ]
        go_wp2
        all_goals try (rw [rounds_succ]; go_wp2)
        all_goals go_ret
        all_goals refine ⟨ret_int ?_, rfl⟩
        all_goals rw [HF.out, H2.out]
        all_goals unfold ucont
        all_goals simp only [decide_eq_true_eq]
        all_goals split <;> omega
  · have hz : usize (s.data.toList.getD 0 0).toNat = 4 := by rw [e0]; unfold usize; rw [if_neg (by omega), if_pos (by omega)]
    obtain ⟨hc1, hc2⟩ := hc
    by_cases hl : s.size < 4
    · have HF := Lib.hid (usign_short hz (by have := HL.out; omega))
      clear e0 hz
      go_enter Tryz.func133, Tryz.ntmps133
      go_wp2
      go_ret
      exact ⟨ret_int (by rw [HF.out]; rfl), rfl⟩
    · have e1 := byte_getD s 1 (by omega)
      cases hs : usecond (s[0]'h0).toNat (s[1]'(by omega)).toNat with
      | false =>
        have HF := Lib.hid (usign_second hz (by omega) (by rw [e0, e1]; exact hs))
        have HS := Lib.hid hs
        clear e0 hz e1 hs
        go_enter Tryz.func133, Tryz.ntmps133
        go_wp2_with (go_at_call 141; refine (second_any _ _ _).mono ?_; rintro e w' ⟨rfl, rfl⟩; rw [HS.out])
        go_ret
        exact ⟨ret_int (by rw [HF.out]; rfl), rfl⟩
      | true =>
        have HF := Lib.hid (usign_4 hz (by have := HL.out; omega) (by rw [e0, e1]; exact hs))
        have H2 := Lib.hid (byte_getD s 2 (by omega))
        have H3 := Lib.hid (byte_getD s 3 (by omega))
        have HS := Lib.hid hs
        clear e0 hz e1 hs
        go_enter Tryz.func133, Tryz.ntmps133
        go_wp2_with (go_at_call 141; refine (second_any _ _ _).mono ?_; rintro e w' ⟨rfl, rfl⟩; rw [HS.out])
        refine wp_loop_rounds 3 ?_
        rw [rounds_succ]
        go_wp2
        all_goals try (rw [rounds_succ]; go_wp2)
        all_goals try (rw [rounds_succ]; go_wp2)
        all_goals go_ret
        all_goals refine ⟨ret_int ?_, rfl⟩
        all_goals rw [HF.out, H2.out, H3.out]
        all_goals unfold ucont
        all_goals simp only [decide_eq_true_eq, Bool.and_eq_true]
        all_goals split <;> omega
end Go.Proofs.YteknippgiljgeaaGreatDoor
