/-
  The reference of utf's sign.
-/
import Derived.Test.YtbhppchdoalahaaDoorUtfRef
namespace Go.Proofs.YtbhppchdoalahaaDoor
open Go.RowKit

set_option maxRecDepth 100000 in
set_option maxHeartbeats 8000000 in
theorem rsign_0 (s : ByteArray) (i : Nat) (w : World) (hi : i < s.size) (hs : s.size ≤ 1000000) (hc1 : 194 ≤ (s[i]'hi).toNat) (hc2 : (s[i]'hi).toNat ≤ 223) :
    Calls Tryd.prog 56 #[.string s, .int .i64 (i : Int)] w fun e w' => e = .returned (.int .i64 (usign (s.data.toList.drop i) : Nat)) ∧ w = w' := by
  have e0 : (s.data.toList.drop i).getD 0 0 = s[i]'hi := drop_getD s i 0 hi
  have HL := Lib.hid (show (s.data.toList.drop i).length = s.size - i by simp)
  have HZ := Lib.hid (show usize ((s.data.toList.drop i).getD 0 0).toNat = 2 by rw [e0]; unfold usize; (repeat' split) <;> first | rfl | omega)
  have HS : Hid (SgnRel (s.data.toList.drop i) 2 128 191 1) := Lib.hid (by
    refine ⟨by omega, by omega, by have := HL.out; omega, fun _ d => ?_, by omega, fun k h1 h2 => by omega⟩
    rw [e0]
    unfold usecond
    (repeat' split) <;> first | rfl | omega)
  have f0 := (show decide (((s[i]'hi).toNat : Int) < 128) = false by simp; omega)
  have f1 := (show decide ((194 : Int) ≤ (s[i]'hi).toNat) = true by simp; omega)
  have f2 := (show decide (((s[i]'hi).toNat : Int) ≤ 223) = true by simp; omega)
  have f3 := (show decide ((224 : Int) ≤ (s[i]'hi).toNat) = false by simp; omega)
  have f4 := (show decide (((s[i]'hi).toNat : Int) ≤ 239) = true by simp; omega)
  have f5 := (show decide ((240 : Int) ≤ (s[i]'hi).toNat) = false by simp; omega)
  have f6 := (show decide (((s[i]'hi).toNat : Int) ≤ 244) = true by simp; omega)
  have f7 := (show (((s[i]'hi).toNat : Int) == 224) = false by simp; omega)
  have f8 := (show (((s[i]'hi).toNat : Int) == 237) = false by simp; omega)
  have f9 := (show (((s[i]'hi).toNat : Int) == 240) = false by simp; omega)
  have f10 := (show (((s[i]'hi).toNat : Int) == 244) = false by simp; omega)
  clear e0 hc1 hc2
  go_enter Tryd.func56, Tryd.ntmps56
  go_wp2
  go_loopg [7, 8, 9] 1 (fun k lo hi v wr => ∃ (a b j : Nat), lo = .int .u8 (a : Int) ∧ hi = .int .u8 (b : Int) ∧ v = .int .i64 (j : Int) ∧ j + k = 2 ∧ SgnRel (s.data.toList.drop i) 2 a b j ∧ wr = w)
  case atStart => exact ⟨128, 191, 1, rfl, rfl, rfl, by omega, HS.out, rfl⟩
  case round =>
    obtain ⟨a, b, j, rfl, rfl, rfl, hk, HR0, rfl⟩ := hrel
    have HR := Lib.hid HR0
    clear HR0
    by_cases hjn : j < 2
    · by_cases hl : i + j < s.size
      · have ej := Lib.hid (drop_getD s i j hl)
        by_cases h1 : a ≤ (s[i + j]'hl).toNat
        · by_cases h2 : (s[i + j]'hl).toNat ≤ b
          · have HN := Lib.hid (sgn_next HR.out hjn (by have := HL.out; omega) (by rw [ej.out]; exact h1) (by rw [ej.out]; exact h2))
            go_wp2
            go_roundg (gk - 1)
            case measure => omega
            case rel => exact ⟨128, 191, j + 1, rfl, rfl, by simp, by omega, HN.out, rfl⟩
          · have HF := Lib.hid (sgn_fail HZ.out HR.out hjn (.inr (.inr (by rw [ej.out]; omega))))
            go_wp2
            go_ret
            exact ⟨ret_int (by rw [HF.out]; rfl), rfl⟩
        · have HF := Lib.hid (sgn_fail HZ.out HR.out hjn (.inr (.inl (by rw [ej.out]; omega))))
          go_wp2
          go_ret
          exact ⟨ret_int (by rw [HF.out]; rfl), rfl⟩
      · have HF := Lib.hid (sgn_fail HZ.out HR.out hjn (.inl (by have := HL.out; omega)))
        go_wp2
        go_ret
        exact ⟨ret_int (by rw [HF.out]; rfl), rfl⟩
    · obtain rfl : j = 2 := by have := HR.out.2.1; omega
      have HF := Lib.hid (sgn_done HZ.out HR.out)
      go_wp2
      go_ret
      exact ⟨ret_int (by rw [HF.out]; rfl), rfl⟩
set_option maxRecDepth 100000 in
set_option maxHeartbeats 8000000 in
theorem rsign_1 (s : ByteArray) (i : Nat) (w : World) (hi : i < s.size) (hs : s.size ≤ 1000000) (hc1 : 224 ≤ (s[i]'hi).toNat) (hc2 : (s[i]'hi).toNat ≤ 224) :
    Calls Tryd.prog 56 #[.string s, .int .i64 (i : Int)] w fun e w' => e = .returned (.int .i64 (usign (s.data.toList.drop i) : Nat)) ∧ w = w' := by
  have e0 : (s.data.toList.drop i).getD 0 0 = s[i]'hi := drop_getD s i 0 hi
  have HL := Lib.hid (show (s.data.toList.drop i).length = s.size - i by simp)
  have HZ := Lib.hid (show usize ((s.data.toList.drop i).getD 0 0).toNat = 3 by rw [e0]; unfold usize; (repeat' split) <;> first | rfl | omega)
  have HS : Hid (SgnRel (s.data.toList.drop i) 3 160 191 1) := Lib.hid (by
    refine ⟨by omega, by omega, by have := HL.out; omega, fun _ d => ?_, by omega, fun k h1 h2 => by omega⟩
    rw [e0]
    unfold usecond
    (repeat' split) <;> first | rfl | omega)
  have f0 := (show decide (((s[i]'hi).toNat : Int) < 128) = false by simp; omega)
  have f1 := (show decide ((194 : Int) ≤ (s[i]'hi).toNat) = true by simp; omega)
  have f2 := (show decide (((s[i]'hi).toNat : Int) ≤ 223) = false by simp; omega)
  have f3 := (show decide ((224 : Int) ≤ (s[i]'hi).toNat) = true by simp; omega)
  have f4 := (show decide (((s[i]'hi).toNat : Int) ≤ 239) = true by simp; omega)
  have f5 := (show decide ((240 : Int) ≤ (s[i]'hi).toNat) = false by simp; omega)
  have f6 := (show decide (((s[i]'hi).toNat : Int) ≤ 244) = true by simp; omega)
  have f7 := (show (((s[i]'hi).toNat : Int) == 224) = true by simp; omega)
  have f8 := (show (((s[i]'hi).toNat : Int) == 237) = false by simp; omega)
  have f9 := (show (((s[i]'hi).toNat : Int) == 240) = false by simp; omega)
  have f10 := (show (((s[i]'hi).toNat : Int) == 244) = false by simp; omega)
  clear e0 hc1 hc2
  go_enter Tryd.func56, Tryd.ntmps56
  go_wp2
  go_loopg [7, 8, 9] 2 (fun k lo hi v wr => ∃ (a b j : Nat), lo = .int .u8 (a : Int) ∧ hi = .int .u8 (b : Int) ∧ v = .int .i64 (j : Int) ∧ j + k = 3 ∧ SgnRel (s.data.toList.drop i) 3 a b j ∧ wr = w)
  case atStart => exact ⟨160, 191, 1, rfl, rfl, rfl, by omega, HS.out, rfl⟩
  case round =>
    obtain ⟨a, b, j, rfl, rfl, rfl, hk, HR0, rfl⟩ := hrel
    have HR := Lib.hid HR0
    clear HR0
    by_cases hjn : j < 3
    · by_cases hl : i + j < s.size
      · have ej := Lib.hid (drop_getD s i j hl)
        by_cases h1 : a ≤ (s[i + j]'hl).toNat
        · by_cases h2 : (s[i + j]'hl).toNat ≤ b
          · have HN := Lib.hid (sgn_next HR.out hjn (by have := HL.out; omega) (by rw [ej.out]; exact h1) (by rw [ej.out]; exact h2))
            go_wp2
            go_roundg (gk - 1)
            case measure => omega
            case rel => exact ⟨128, 191, j + 1, rfl, rfl, by simp, by omega, HN.out, rfl⟩
          · have HF := Lib.hid (sgn_fail HZ.out HR.out hjn (.inr (.inr (by rw [ej.out]; omega))))
            go_wp2
            go_ret
            exact ⟨ret_int (by rw [HF.out]; rfl), rfl⟩
        · have HF := Lib.hid (sgn_fail HZ.out HR.out hjn (.inr (.inl (by rw [ej.out]; omega))))
          go_wp2
          go_ret
          exact ⟨ret_int (by rw [HF.out]; rfl), rfl⟩
      · have HF := Lib.hid (sgn_fail HZ.out HR.out hjn (.inl (by have := HL.out; omega)))
        go_wp2
        go_ret
        exact ⟨ret_int (by rw [HF.out]; rfl), rfl⟩
    · obtain rfl : j = 3 := by have := HR.out.2.1; omega
      have HF := Lib.hid (sgn_done HZ.out HR.out)
      go_wp2
      go_ret
      exact ⟨ret_int (by rw [HF.out]; rfl), rfl⟩
set_option maxRecDepth 100000 in
set_option maxHeartbeats 8000000 in
theorem rsign_2 (s : ByteArray) (i : Nat) (w : World) (hi : i < s.size) (hs : s.size ≤ 1000000) (hc1 : 225 ≤ (s[i]'hi).toNat) (hc2 : (s[i]'hi).toNat ≤ 236) :
    Calls Tryd.prog 56 #[.string s, .int .i64 (i : Int)] w fun e w' => e = .returned (.int .i64 (usign (s.data.toList.drop i) : Nat)) ∧ w = w' := by
  have e0 : (s.data.toList.drop i).getD 0 0 = s[i]'hi := drop_getD s i 0 hi
  have HL := Lib.hid (show (s.data.toList.drop i).length = s.size - i by simp)
  have HZ := Lib.hid (show usize ((s.data.toList.drop i).getD 0 0).toNat = 3 by rw [e0]; unfold usize; (repeat' split) <;> first | rfl | omega)
  have HS : Hid (SgnRel (s.data.toList.drop i) 3 128 191 1) := Lib.hid (by
    refine ⟨by omega, by omega, by have := HL.out; omega, fun _ d => ?_, by omega, fun k h1 h2 => by omega⟩
    rw [e0]
    unfold usecond
    (repeat' split) <;> first | rfl | omega)
  have f0 := (show decide (((s[i]'hi).toNat : Int) < 128) = false by simp; omega)
  have f1 := (show decide ((194 : Int) ≤ (s[i]'hi).toNat) = true by simp; omega)
  have f2 := (show decide (((s[i]'hi).toNat : Int) ≤ 223) = false by simp; omega)
  have f3 := (show decide ((224 : Int) ≤ (s[i]'hi).toNat) = true by simp; omega)
  have f4 := (show decide (((s[i]'hi).toNat : Int) ≤ 239) = true by simp; omega)
  have f5 := (show decide ((240 : Int) ≤ (s[i]'hi).toNat) = false by simp; omega)
  have f6 := (show decide (((s[i]'hi).toNat : Int) ≤ 244) = true by simp; omega)
  have f7 := (show (((s[i]'hi).toNat : Int) == 224) = false by simp; omega)
  have f8 := (show (((s[i]'hi).toNat : Int) == 237) = false by simp; omega)
  have f9 := (show (((s[i]'hi).toNat : Int) == 240) = false by simp; omega)
  have f10 := (show (((s[i]'hi).toNat : Int) == 244) = false by simp; omega)
  clear e0 hc1 hc2
  go_enter Tryd.func56, Tryd.ntmps56
  go_wp2
  go_loopg [7, 8, 9] 2 (fun k lo hi v wr => ∃ (a b j : Nat), lo = .int .u8 (a : Int) ∧ hi = .int .u8 (b : Int) ∧ v = .int .i64 (j : Int) ∧ j + k = 3 ∧ SgnRel (s.data.toList.drop i) 3 a b j ∧ wr = w)
  case atStart => exact ⟨128, 191, 1, rfl, rfl, rfl, by omega, HS.out, rfl⟩
  case round =>
    obtain ⟨a, b, j, rfl, rfl, rfl, hk, HR0, rfl⟩ := hrel
    have HR := Lib.hid HR0
    clear HR0
    by_cases hjn : j < 3
    · by_cases hl : i + j < s.size
      · have ej := Lib.hid (drop_getD s i j hl)
        by_cases h1 : a ≤ (s[i + j]'hl).toNat
        · by_cases h2 : (s[i + j]'hl).toNat ≤ b
          · have HN := Lib.hid (sgn_next HR.out hjn (by have := HL.out; omega) (by rw [ej.out]; exact h1) (by rw [ej.out]; exact h2))
            go_wp2
            go_roundg (gk - 1)
            case measure => omega
            case rel => exact ⟨128, 191, j + 1, rfl, rfl, by simp, by omega, HN.out, rfl⟩
          · have HF := Lib.hid (sgn_fail HZ.out HR.out hjn (.inr (.inr (by rw [ej.out]; omega))))
            go_wp2
            go_ret
            exact ⟨ret_int (by rw [HF.out]; rfl), rfl⟩
        · have HF := Lib.hid (sgn_fail HZ.out HR.out hjn (.inr (.inl (by rw [ej.out]; omega))))
          go_wp2
          go_ret
          exact ⟨ret_int (by rw [HF.out]; rfl), rfl⟩
      · have HF := Lib.hid (sgn_fail HZ.out HR.out hjn (.inl (by have := HL.out; omega)))
        go_wp2
        go_ret
        exact ⟨ret_int (by rw [HF.out]; rfl), rfl⟩
    · obtain rfl : j = 3 := by have := HR.out.2.1; omega
      have HF := Lib.hid (sgn_done HZ.out HR.out)
      go_wp2
      go_ret
      exact ⟨ret_int (by rw [HF.out]; rfl), rfl⟩
set_option maxRecDepth 100000 in
set_option maxHeartbeats 8000000 in
theorem rsign_3 (s : ByteArray) (i : Nat) (w : World) (hi : i < s.size) (hs : s.size ≤ 1000000) (hc1 : 237 ≤ (s[i]'hi).toNat) (hc2 : (s[i]'hi).toNat ≤ 237) :
    Calls Tryd.prog 56 #[.string s, .int .i64 (i : Int)] w fun e w' => e = .returned (.int .i64 (usign (s.data.toList.drop i) : Nat)) ∧ w = w' := by
  have e0 : (s.data.toList.drop i).getD 0 0 = s[i]'hi := drop_getD s i 0 hi
  have HL := Lib.hid (show (s.data.toList.drop i).length = s.size - i by simp)
  have HZ := Lib.hid (show usize ((s.data.toList.drop i).getD 0 0).toNat = 3 by rw [e0]; unfold usize; (repeat' split) <;> first | rfl | omega)
  have HS : Hid (SgnRel (s.data.toList.drop i) 3 128 159 1) := Lib.hid (by
    refine ⟨by omega, by omega, by have := HL.out; omega, fun _ d => ?_, by omega, fun k h1 h2 => by omega⟩
    rw [e0]
    unfold usecond
    (repeat' split) <;> first | rfl | omega)
  have f0 := (show decide (((s[i]'hi).toNat : Int) < 128) = false by simp; omega)
  have f1 := (show decide ((194 : Int) ≤ (s[i]'hi).toNat) = true by simp; omega)
  have f2 := (show decide (((s[i]'hi).toNat : Int) ≤ 223) = false by simp; omega)
  have f3 := (show decide ((224 : Int) ≤ (s[i]'hi).toNat) = true by simp; omega)
  have f4 := (show decide (((s[i]'hi).toNat : Int) ≤ 239) = true by simp; omega)
  have f5 := (show decide ((240 : Int) ≤ (s[i]'hi).toNat) = false by simp; omega)
  have f6 := (show decide (((s[i]'hi).toNat : Int) ≤ 244) = true by simp; omega)
  have f7 := (show (((s[i]'hi).toNat : Int) == 224) = false by simp; omega)
  have f8 := (show (((s[i]'hi).toNat : Int) == 237) = true by simp; omega)
  have f9 := (show (((s[i]'hi).toNat : Int) == 240) = false by simp; omega)
  have f10 := (show (((s[i]'hi).toNat : Int) == 244) = false by simp; omega)
  clear e0 hc1 hc2
  go_enter Tryd.func56, Tryd.ntmps56
  go_wp2
  go_loopg [7, 8, 9] 2 (fun k lo hi v wr => ∃ (a b j : Nat), lo = .int .u8 (a : Int) ∧ hi = .int .u8 (b : Int) ∧ v = .int .i64 (j : Int) ∧ j + k = 3 ∧ SgnRel (s.data.toList.drop i) 3 a b j ∧ wr = w)
  case atStart => exact ⟨128, 159, 1, rfl, rfl, rfl, by omega, HS.out, rfl⟩
  case round =>
    obtain ⟨a, b, j, rfl, rfl, rfl, hk, HR0, rfl⟩ := hrel
    have HR := Lib.hid HR0
    clear HR0
    by_cases hjn : j < 3
    · by_cases hl : i + j < s.size
      · have ej := Lib.hid (drop_getD s i j hl)
        by_cases h1 : a ≤ (s[i + j]'hl).toNat
        · by_cases h2 : (s[i + j]'hl).toNat ≤ b
          · have HN := Lib.hid (sgn_next HR.out hjn (by have := HL.out; omega) (by rw [ej.out]; exact h1) (by rw [ej.out]; exact h2))
            go_wp2
            go_roundg (gk - 1)
            case measure => omega
            case rel => exact ⟨128, 191, j + 1, rfl, rfl, by simp, by omega, HN.out, rfl⟩
          · have HF := Lib.hid (sgn_fail HZ.out HR.out hjn (.inr (.inr (by rw [ej.out]; omega))))
            go_wp2
            go_ret
            exact ⟨ret_int (by rw [HF.out]; rfl), rfl⟩
        · have HF := Lib.hid (sgn_fail HZ.out HR.out hjn (.inr (.inl (by rw [ej.out]; omega))))
          go_wp2
          go_ret
          exact ⟨ret_int (by rw [HF.out]; rfl), rfl⟩
      · have HF := Lib.hid (sgn_fail HZ.out HR.out hjn (.inl (by have := HL.out; omega)))
        go_wp2
        go_ret
        exact ⟨ret_int (by rw [HF.out]; rfl), rfl⟩
    · obtain rfl : j = 3 := by have := HR.out.2.1; omega
      have HF := Lib.hid (sgn_done HZ.out HR.out)
      go_wp2
      go_ret
      exact ⟨ret_int (by rw [HF.out]; rfl), rfl⟩
set_option maxRecDepth 100000 in
set_option maxHeartbeats 8000000 in
theorem rsign_4 (s : ByteArray) (i : Nat) (w : World) (hi : i < s.size) (hs : s.size ≤ 1000000) (hc1 : 238 ≤ (s[i]'hi).toNat) (hc2 : (s[i]'hi).toNat ≤ 239) :
    Calls Tryd.prog 56 #[.string s, .int .i64 (i : Int)] w fun e w' => e = .returned (.int .i64 (usign (s.data.toList.drop i) : Nat)) ∧ w = w' := by
  have e0 : (s.data.toList.drop i).getD 0 0 = s[i]'hi := drop_getD s i 0 hi
  have HL := Lib.hid (show (s.data.toList.drop i).length = s.size - i by simp)
  have HZ := Lib.hid (show usize ((s.data.toList.drop i).getD 0 0).toNat = 3 by rw [e0]; unfold usize; (repeat' split) <;> first | rfl | omega)
  have HS : Hid (SgnRel (s.data.toList.drop i) 3 128 191 1) := Lib.hid (by
    refine ⟨by omega, by omega, by have := HL.out; omega, fun _ d => ?_, by omega, fun k h1 h2 => by omega⟩
    rw [e0]
    unfold usecond
    (repeat' split) <;> first | rfl | omega)
  have f0 := (show decide (((s[i]'hi).toNat : Int) < 128) = false by simp; omega)
  have f1 := (show decide ((194 : Int) ≤ (s[i]'hi).toNat) = true by simp; omega)
  have f2 := (show decide (((s[i]'hi).toNat : Int) ≤ 223) = false by simp; omega)
  have f3 := (show decide ((224 : Int) ≤ (s[i]'hi).toNat) = true by simp; omega)
  have f4 := (show decide (((s[i]'hi).toNat : Int) ≤ 239) = true by simp; omega)
  have f5 := (show decide ((240 : Int) ≤ (s[i]'hi).toNat) = false by simp; omega)
  have f6 := (show decide (((s[i]'hi).toNat : Int) ≤ 244) = true by simp; omega)
  have f7 := (show (((s[i]'hi).toNat : Int) == 224) = false by simp; omega)
  have f8 := (show (((s[i]'hi).toNat : Int) == 237) = false by simp; omega)
  have f9 := (show (((s[i]'hi).toNat : Int) == 240) = false by simp; omega)
  have f10 := (show (((s[i]'hi).toNat : Int) == 244) = false by simp; omega)
  clear e0 hc1 hc2
  go_enter Tryd.func56, Tryd.ntmps56
  go_wp2
  go_loopg [7, 8, 9] 2 (fun k lo hi v wr => ∃ (a b j : Nat), lo = .int .u8 (a : Int) ∧ hi = .int .u8 (b : Int) ∧ v = .int .i64 (j : Int) ∧ j + k = 3 ∧ SgnRel (s.data.toList.drop i) 3 a b j ∧ wr = w)
  case atStart => exact ⟨128, 191, 1, rfl, rfl, rfl, by omega, HS.out, rfl⟩
  case round =>
    obtain ⟨a, b, j, rfl, rfl, rfl, hk, HR0, rfl⟩ := hrel
    have HR := Lib.hid HR0
    clear HR0
    by_cases hjn : j < 3
    · by_cases hl : i + j < s.size
      · have ej := Lib.hid (drop_getD s i j hl)
        by_cases h1 : a ≤ (s[i + j]'hl).toNat
        · by_cases h2 : (s[i + j]'hl).toNat ≤ b
          · have HN := Lib.hid (sgn_next HR.out hjn (by have := HL.out; omega) (by rw [ej.out]; exact h1) (by rw [ej.out]; exact h2))
            go_wp2
            go_roundg (gk - 1)
            case measure => omega
            case rel => exact ⟨128, 191, j + 1, rfl, rfl, by simp, by omega, HN.out, rfl⟩
          · have HF := Lib.hid (sgn_fail HZ.out HR.out hjn (.inr (.inr (by rw [ej.out]; omega))))
            go_wp2
            go_ret
            exact ⟨ret_int (by rw [HF.out]; rfl), rfl⟩
        · have HF := Lib.hid (sgn_fail HZ.out HR.out hjn (.inr (.inl (by rw [ej.out]; omega))))
          go_wp2
          go_ret
          exact ⟨ret_int (by rw [HF.out]; rfl), rfl⟩
      · have HF := Lib.hid (sgn_fail HZ.out HR.out hjn (.inl (by have := HL.out; omega)))
        go_wp2
        go_ret
        exact ⟨ret_int (by rw [HF.out]; rfl), rfl⟩
    · obtain rfl : j = 3 := by have := HR.out.2.1; omega
      have HF := Lib.hid (sgn_done HZ.out HR.out)
      go_wp2
      go_ret
      exact ⟨ret_int (by rw [HF.out]; rfl), rfl⟩
set_option maxRecDepth 100000 in
set_option maxHeartbeats 8000000 in
theorem rsign_5 (s : ByteArray) (i : Nat) (w : World) (hi : i < s.size) (hs : s.size ≤ 1000000) (hc1 : 240 ≤ (s[i]'hi).toNat) (hc2 : (s[i]'hi).toNat ≤ 240) :
    Calls Tryd.prog 56 #[.string s, .int .i64 (i : Int)] w fun e w' => e = .returned (.int .i64 (usign (s.data.toList.drop i) : Nat)) ∧ w = w' := by
  have e0 : (s.data.toList.drop i).getD 0 0 = s[i]'hi := drop_getD s i 0 hi
  have HL := Lib.hid (show (s.data.toList.drop i).length = s.size - i by simp)
  have HZ := Lib.hid (show usize ((s.data.toList.drop i).getD 0 0).toNat = 4 by rw [e0]; unfold usize; (repeat' split) <;> first | rfl | omega)
  have HS : Hid (SgnRel (s.data.toList.drop i) 4 144 191 1) := Lib.hid (by
    refine ⟨by omega, by omega, by have := HL.out; omega, fun _ d => ?_, by omega, fun k h1 h2 => by omega⟩
    rw [e0]
    unfold usecond
    (repeat' split) <;> first | rfl | omega)
  have f0 := (show decide (((s[i]'hi).toNat : Int) < 128) = false by simp; omega)
  have f1 := (show decide ((194 : Int) ≤ (s[i]'hi).toNat) = true by simp; omega)
  have f2 := (show decide (((s[i]'hi).toNat : Int) ≤ 223) = false by simp; omega)
  have f3 := (show decide ((224 : Int) ≤ (s[i]'hi).toNat) = true by simp; omega)
  have f4 := (show decide (((s[i]'hi).toNat : Int) ≤ 239) = false by simp; omega)
  have f5 := (show decide ((240 : Int) ≤ (s[i]'hi).toNat) = true by simp; omega)
  have f6 := (show decide (((s[i]'hi).toNat : Int) ≤ 244) = true by simp; omega)
  have f7 := (show (((s[i]'hi).toNat : Int) == 224) = false by simp; omega)
  have f8 := (show (((s[i]'hi).toNat : Int) == 237) = false by simp; omega)
  have f9 := (show (((s[i]'hi).toNat : Int) == 240) = true by simp; omega)
  have f10 := (show (((s[i]'hi).toNat : Int) == 244) = false by simp; omega)
  clear e0 hc1 hc2
  go_enter Tryd.func56, Tryd.ntmps56
  go_wp2
  go_loopg [7, 8, 9] 3 (fun k lo hi v wr => ∃ (a b j : Nat), lo = .int .u8 (a : Int) ∧ hi = .int .u8 (b : Int) ∧ v = .int .i64 (j : Int) ∧ j + k = 4 ∧ SgnRel (s.data.toList.drop i) 4 a b j ∧ wr = w)
  case atStart => exact ⟨144, 191, 1, rfl, rfl, rfl, by omega, HS.out, rfl⟩
  case round =>
    obtain ⟨a, b, j, rfl, rfl, rfl, hk, HR0, rfl⟩ := hrel
    have HR := Lib.hid HR0
    clear HR0
    by_cases hjn : j < 4
    · by_cases hl : i + j < s.size
      · have ej := Lib.hid (drop_getD s i j hl)
        by_cases h1 : a ≤ (s[i + j]'hl).toNat
        · by_cases h2 : (s[i + j]'hl).toNat ≤ b
          · have HN := Lib.hid (sgn_next HR.out hjn (by have := HL.out; omega) (by rw [ej.out]; exact h1) (by rw [ej.out]; exact h2))
            go_wp2
            go_roundg (gk - 1)
            case measure => omega
            case rel => exact ⟨128, 191, j + 1, rfl, rfl, by simp, by omega, HN.out, rfl⟩
          · have HF := Lib.hid (sgn_fail HZ.out HR.out hjn (.inr (.inr (by rw [ej.out]; omega))))
            go_wp2
            go_ret
            exact ⟨ret_int (by rw [HF.out]; rfl), rfl⟩
        · have HF := Lib.hid (sgn_fail HZ.out HR.out hjn (.inr (.inl (by rw [ej.out]; omega))))
          go_wp2
          go_ret
          exact ⟨ret_int (by rw [HF.out]; rfl), rfl⟩
      · have HF := Lib.hid (sgn_fail HZ.out HR.out hjn (.inl (by have := HL.out; omega)))
        go_wp2
        go_ret
        exact ⟨ret_int (by rw [HF.out]; rfl), rfl⟩
    · obtain rfl : j = 4 := by have := HR.out.2.1; omega
      have HF := Lib.hid (sgn_done HZ.out HR.out)
      go_wp2
      go_ret
      exact ⟨ret_int (by rw [HF.out]; rfl), rfl⟩
set_option maxRecDepth 100000 in
set_option maxHeartbeats 8000000 in
theorem rsign_6 (s : ByteArray) (i : Nat) (w : World) (hi : i < s.size) (hs : s.size ≤ 1000000) (hc1 : 241 ≤ (s[i]'hi).toNat) (hc2 : (s[i]'hi).toNat ≤ 243) :
    Calls Tryd.prog 56 #[.string s, .int .i64 (i : Int)] w fun e w' => e = .returned (.int .i64 (usign (s.data.toList.drop i) : Nat)) ∧ w = w' := by
  have e0 : (s.data.toList.drop i).getD 0 0 = s[i]'hi := drop_getD s i 0 hi
  have HL := Lib.hid (show (s.data.toList.drop i).length = s.size - i by simp)
  have HZ := Lib.hid (show usize ((s.data.toList.drop i).getD 0 0).toNat = 4 by rw [e0]; unfold usize; (repeat' split) <;> first | rfl | omega)
  have HS : Hid (SgnRel (s.data.toList.drop i) 4 128 191 1) := Lib.hid (by
    refine ⟨by omega, by omega, by have := HL.out; omega, fun _ d => ?_, by omega, fun k h1 h2 => by omega⟩
    rw [e0]
    unfold usecond
    (repeat' split) <;> first | rfl | omega)
  have f0 := (show decide (((s[i]'hi).toNat : Int) < 128) = false by simp; omega)
  have f1 := (show decide ((194 : Int) ≤ (s[i]'hi).toNat) = true by simp; omega)
  have f2 := (show decide (((s[i]'hi).toNat : Int) ≤ 223) = false by simp; omega)
  have f3 := (show decide ((224 : Int) ≤ (s[i]'hi).toNat) = true by simp; omega)
  have f4 := (show decide (((s[i]'hi).toNat : Int) ≤ 239) = false by simp; omega)
  have f5 := (show decide ((240 : Int) ≤ (s[i]'hi).toNat) = true by simp; omega)
  have f6 := (show decide (((s[i]'hi).toNat : Int) ≤ 244) = true by simp; omega)
  have f7 := (show (((s[i]'hi).toNat : Int) == 224) = false by simp; omega)
  have f8 := (show (((s[i]'hi).toNat : Int) == 237) = false by simp; omega)
  have f9 := (show (((s[i]'hi).toNat : Int) == 240) = false by simp; omega)
  have f10 := (show (((s[i]'hi).toNat : Int) == 244) = false by simp; omega)
  clear e0 hc1 hc2
  go_enter Tryd.func56, Tryd.ntmps56
  go_wp2
  go_loopg [7, 8, 9] 3 (fun k lo hi v wr => ∃ (a b j : Nat), lo = .int .u8 (a : Int) ∧ hi = .int .u8 (b : Int) ∧ v = .int .i64 (j : Int) ∧ j + k = 4 ∧ SgnRel (s.data.toList.drop i) 4 a b j ∧ wr = w)
  case atStart => exact ⟨128, 191, 1, rfl, rfl, rfl, by omega, HS.out, rfl⟩
  case round =>
    obtain ⟨a, b, j, rfl, rfl, rfl, hk, HR0, rfl⟩ := hrel
    have HR := Lib.hid HR0
    clear HR0
    by_cases hjn : j < 4
    · by_cases hl : i + j < s.size
      · have ej := Lib.hid (drop_getD s i j hl)
        by_cases h1 : a ≤ (s[i + j]'hl).toNat
        · by_cases h2 : (s[i + j]'hl).toNat ≤ b
          · have HN := Lib.hid (sgn_next HR.out hjn (by have := HL.out; omega) (by rw [ej.out]; exact h1) (by rw [ej.out]; exact h2))
            go_wp2
            go_roundg (gk - 1)
            case measure => omega
            case rel => exact ⟨128, 191, j + 1, rfl, rfl, by simp, by omega, HN.out, rfl⟩
          · have HF := Lib.hid (sgn_fail HZ.out HR.out hjn (.inr (.inr (by rw [ej.out]; omega))))
            go_wp2
            go_ret
            exact ⟨ret_int (by rw [HF.out]; rfl), rfl⟩
        · have HF := Lib.hid (sgn_fail HZ.out HR.out hjn (.inr (.inl (by rw [ej.out]; omega))))
          go_wp2
          go_ret
          exact ⟨ret_int (by rw [HF.out]; rfl), rfl⟩
      · have HF := Lib.hid (sgn_fail HZ.out HR.out hjn (.inl (by have := HL.out; omega)))
        go_wp2
        go_ret
        exact ⟨ret_int (by rw [HF.out]; rfl), rfl⟩
    · obtain rfl : j = 4 := by have := HR.out.2.1; omega
      have HF := Lib.hid (sgn_done HZ.out HR.out)
      go_wp2
      go_ret
      exact ⟨ret_int (by rw [HF.out]; rfl), rfl⟩
set_option maxRecDepth 100000 in
set_option maxHeartbeats 8000000 in
theorem rsign_7 (s : ByteArray) (i : Nat) (w : World) (hi : i < s.size) (hs : s.size ≤ 1000000) (hc1 : 244 ≤ (s[i]'hi).toNat) (hc2 : (s[i]'hi).toNat ≤ 244) :
    Calls Tryd.prog 56 #[.string s, .int .i64 (i : Int)] w fun e w' => e = .returned (.int .i64 (usign (s.data.toList.drop i) : Nat)) ∧ w = w' := by
  have e0 : (s.data.toList.drop i).getD 0 0 = s[i]'hi := drop_getD s i 0 hi
  have HL := Lib.hid (show (s.data.toList.drop i).length = s.size - i by simp)
  have HZ := Lib.hid (show usize ((s.data.toList.drop i).getD 0 0).toNat = 4 by rw [e0]; unfold usize; (repeat' split) <;> first | rfl | omega)
  have HS : Hid (SgnRel (s.data.toList.drop i) 4 128 143 1) := Lib.hid (by
    refine ⟨by omega, by omega, by have := HL.out; omega, fun _ d => ?_, by omega, fun k h1 h2 => by omega⟩
    rw [e0]
    unfold usecond
    (repeat' split) <;> first | rfl | omega)
  have f0 := (show decide (((s[i]'hi).toNat : Int) < 128) = false by simp; omega)
  have f1 := (show decide ((194 : Int) ≤ (s[i]'hi).toNat) = true by simp; omega)
  have f2 := (show decide (((s[i]'hi).toNat : Int) ≤ 223) = false by simp; omega)
  have f3 := (show decide ((224 : Int) ≤ (s[i]'hi).toNat) = true by simp; omega)
  have f4 := (show decide (((s[i]'hi).toNat : Int) ≤ 239) = false by simp; omega)
  have f5 := (show decide ((240 : Int) ≤ (s[i]'hi).toNat) = true by simp; omega)
  have f6 := (show decide (((s[i]'hi).toNat : Int) ≤ 244) = true by simp; omega)
  have f7 := (show (((s[i]'hi).toNat : Int) == 224) = false by simp; omega)
  have f8 := (show (((s[i]'hi).toNat : Int) == 237) = false by simp; omega)
  have f9 := (show (((s[i]'hi).toNat : Int) == 240) = false by simp; omega)
  have f10 := (show (((s[i]'hi).toNat : Int) == 244) = true by simp; omega)
  clear e0 hc1 hc2
  go_enter Tryd.func56, Tryd.ntmps56
  go_wp2
  go_loopg [7, 8, 9] 3 (fun k lo hi v wr => ∃ (a b j : Nat), lo = .int .u8 (a : Int) ∧ hi = .int .u8 (b : Int) ∧ v = .int .i64 (j : Int) ∧ j + k = 4 ∧ SgnRel (s.data.toList.drop i) 4 a b j ∧ wr = w)
  case atStart => exact ⟨128, 143, 1, rfl, rfl, rfl, by omega, HS.out, rfl⟩
  case round =>
    obtain ⟨a, b, j, rfl, rfl, rfl, hk, HR0, rfl⟩ := hrel
    have HR := Lib.hid HR0
    clear HR0
    by_cases hjn : j < 4
    · by_cases hl : i + j < s.size
      · have ej := Lib.hid (drop_getD s i j hl)
        by_cases h1 : a ≤ (s[i + j]'hl).toNat
        · by_cases h2 : (s[i + j]'hl).toNat ≤ b
          · have HN := Lib.hid (sgn_next HR.out hjn (by have := HL.out; omega) (by rw [ej.out]; exact h1) (by rw [ej.out]; exact h2))
            go_wp2
            go_roundg (gk - 1)
            case measure => omega
            case rel => exact ⟨128, 191, j + 1, rfl, rfl, by simp, by omega, HN.out, rfl⟩
          · have HF := Lib.hid (sgn_fail HZ.out HR.out hjn (.inr (.inr (by rw [ej.out]; omega))))
            go_wp2
            go_ret
            exact ⟨ret_int (by rw [HF.out]; rfl), rfl⟩
        · have HF := Lib.hid (sgn_fail HZ.out HR.out hjn (.inr (.inl (by rw [ej.out]; omega))))
          go_wp2
          go_ret
          exact ⟨ret_int (by rw [HF.out]; rfl), rfl⟩
      · have HF := Lib.hid (sgn_fail HZ.out HR.out hjn (.inl (by have := HL.out; omega)))
        go_wp2
        go_ret
        exact ⟨ret_int (by rw [HF.out]; rfl), rfl⟩
    · obtain rfl : j = 4 := by have := HR.out.2.1; omega
      have HF := Lib.hid (sgn_done HZ.out HR.out)
      go_wp2
      go_ret
      exact ⟨ret_int (by rw [HF.out]; rfl), rfl⟩
set_option maxRecDepth 100000 in
set_option maxHeartbeats 4000000 in
theorem rsign_any (s : ByteArray) (i : Nat) (w : World) (hi : i < s.size) (hs : s.size ≤ 1000000) :
    Calls Tryd.prog 56 #[.string s, .int .i64 (i : Int)] w fun e w' => e = .returned (.int .i64 (usign (s.data.toList.drop i) : Nat)) ∧ w = w' := by
  have e0 : (s.data.toList.drop i).getD 0 0 = s[i]'hi := drop_getD s i 0 hi
  have HL := Lib.hid (show (s.data.toList.drop i).length = s.size - i by simp)
  have hlt := (s[i]'hi).toNat_lt
  rcases (by omega : (244 < (s[i]'hi).toNat ∨ (128 ≤ (s[i]'hi).toNat ∧ (s[i]'hi).toNat < 194)) ∨ (s[i]'hi).toNat < 128 ∨ (194 ≤ (s[i]'hi).toNat ∧ (s[i]'hi).toNat ≤ 223) ∨ (224 ≤ (s[i]'hi).toNat ∧ (s[i]'hi).toNat ≤ 224) ∨ (225 ≤ (s[i]'hi).toNat ∧ (s[i]'hi).toNat ≤ 236) ∨ (237 ≤ (s[i]'hi).toNat ∧ (s[i]'hi).toNat ≤ 237) ∨ (238 ≤ (s[i]'hi).toNat ∧ (s[i]'hi).toNat ≤ 239) ∨ (240 ≤ (s[i]'hi).toNat ∧ (s[i]'hi).toNat ≤ 240) ∨ (241 ≤ (s[i]'hi).toNat ∧ (s[i]'hi).toNat ≤ 243) ∨ (244 ≤ (s[i]'hi).toNat ∧ (s[i]'hi).toNat ≤ 244)) with hc | hc | ⟨hc1, hc2⟩ | ⟨hc1, hc2⟩ | ⟨hc1, hc2⟩ | ⟨hc1, hc2⟩ | ⟨hc1, hc2⟩ | ⟨hc1, hc2⟩ | ⟨hc1, hc2⟩ | ⟨hc1, hc2⟩
  · have HF := Lib.hid (usign_0 (l := s.data.toList.drop i) (by rw [e0]; unfold usize; rw [if_pos hc]))
    clear e0
    rcases hc with hc | ⟨hc1, hc2⟩
    · go_enter Tryd.func56, Tryd.ntmps56
      go_wp2
      go_ret
      exact ⟨ret_int (by rw [HF.out]; rfl), rfl⟩
    · go_enter Tryd.func56, Tryd.ntmps56
      go_wp2
      go_ret
      exact ⟨ret_int (by rw [HF.out]; rfl), rfl⟩
  · have HF := Lib.hid (usign_1 (l := s.data.toList.drop i) (by rw [e0]; unfold usize; rw [if_neg (by omega), if_neg (by omega), if_neg (by omega), if_neg (by omega)]) (by have := HL.out; omega))
    clear e0
    go_enter Tryd.func56, Tryd.ntmps56
    go_wp2
    go_ret
    exact ⟨ret_int (by rw [HF.out]; rfl), rfl⟩
  · exact rsign_0 s i w hi hs hc1 hc2
  · exact rsign_1 s i w hi hs hc1 hc2
  · exact rsign_2 s i w hi hs hc1 hc2
  · exact rsign_3 s i w hi hs hc1 hc2
  · exact rsign_4 s i w hi hs hc1 hc2
  · exact rsign_5 s i w hi hs hc1 hc2
  · exact rsign_6 s i w hi hs hc1 hc2
  · exact rsign_7 s i w hi hs hc1 hc2
end Go.Proofs.YtbhppchdoalahaaDoor
