/-
  hyglaw4.WireNumbers: for every list of numbers, number and type the law returns true.
-/
import Derived.Test.YtbhppchdoalahaaFirst4
import Derived.Test.YtbhppchdoalahaaWireNumMath
import Derived.Test.YtbhppchdoalahaaNumsSame
namespace Go.Proofs.Ytbhppchdoalahaa
open Go.RowKit

theorem wrec_fixed (n : Nat) : wrec 1 1 (eight 8 n) = 9 :: eight 8 n := by
  have e : wtag 1 1 = [9] := by decide
  unfold wrec
  rw [e, if_neg (by simp)]
  rfl
theorem vputs_le (l : List Nat) (j : Nat) : (vputs (l.take j)).length ≤ 10 * l.length := by
  have h1 := vputs_length (l.take j)
  have h2 : (l.take j).length ≤ l.length := List.length_take_le' _ _
  omega
theorem eights_le (l : List Nat) (j : Nat) : (eights (l.take j)).length ≤ 8 * l.length := by
  have h1 := eights_len (l.take j)
  have h2 : (l.take j).length ≤ l.length := List.length_take_le' _ _
  omega
theorem fixeds_eights {l : List Nat} {T : ByteArray} (hT : T = ⟨(eights l).toArray⟩) (hl : ∀ n ∈ l, n < 2 ^ 64) (hn : l.length ≤ 400) (w : World) :
    Calls Try.prog 16 #[.string T] w fun e w' => ∃ ao cap, e = .returned (.tuple #[.slice ao l.length cap, .nilIface]) ∧ Nats .u64 w' ao l ∧ Below w.heap.size w w' := by
  have hs : T.size = 8 * l.length := by rw [hT, ← eights_len]; simp [ByteArray.size]
  refine (fixeds_any T w (by omega)).mono fun e w' hp => ?_
  unfold FixedsPost at hp
  rw [if_pos (by omega), show T.size / 8 = l.length by omega, hT] at hp
  obtain ⟨u, rfl, ho, hb⟩ := hp
  rw [show (ByteArray.mk (eights l).toArray).data.toList = eights l by simp, fixs_eights l hl] at ho
  obtain ⟨ao, cap, rfl⟩ := own_slice ho
  exact ⟨ao, cap, rfl, nats_of_own ho, hb⟩
theorem varints_vputs {l : List Nat} {T : ByteArray} (hT : T = ⟨(vputs l).toArray⟩) (hl : ∀ n ∈ l, n < 2 ^ 64) (hn : l.length ≤ 400) (w : World) :
    Calls Try.prog 17 #[.string T] w fun e w' => ∃ ao cap, e = .returned (.tuple #[.slice ao l.length cap, .nilIface]) ∧ Nats .u64 w' ao l ∧ Below w.heap.size w w' := by
  have hs : T.size ≤ 4000 := by
    have := vputs_length l
    rw [hT]; simp [ByteArray.size]; omega
  refine (varints_any T w (by omega)).mono fun e w' hp => ?_
  unfold VarsPost at hp
  rw [hT, show (ByteArray.mk (vputs l).toArray).data.toList = vputs l by simp, wvars_vputs l hl] at hp
  obtain ⟨u, rfl, ho, _, hb⟩ := hp
  obtain ⟨ao, cap, rfl⟩ := own_slice ho
  exact ⟨ao, cap, rfl, nats_of_own ho, hb⟩
set_option maxRecDepth 100000 in
set_option maxHeartbeats 4000000 in
theorem numbers_early (ao : Option Addr) (cap len : Nat) (num kind : Int) (w : World) (h : 400 < len ∨ num < 1 ∨ 536870912 ≤ num ∨ kind < 0 ∨ 5 < kind) :
    Calls Try.prog 6 #[.slice ao len cap, .int .i64 num, .int .i64 kind] w fun e w' => e = .returned (.bool true) ∧ Below w.heap.size w w' := by
  rcases (by omega : 400 < len ∨ (len ≤ 400 ∧ num < 1) ∨ (len ≤ 400 ∧ 1 ≤ num ∧ 536870912 ≤ num) ∨ (len ≤ 400 ∧ 1 ≤ num ∧ num < 536870912 ∧ kind < 0) ∨ (len ≤ 400 ∧ 1 ≤ num ∧ num < 536870912 ∧ 0 ≤ kind ∧ 5 < kind)) with h1 | ⟨h1, h2⟩ | ⟨h1, h2, h3⟩ | ⟨h1, h2, h3, h4⟩ | ⟨h1, h2, h3, h4, h5⟩
  all_goals clear h
  all_goals go_enter Try.func6, Try.ntmps6
  all_goals go_wp2_with fail
  all_goals refine (first4 w).mono ?_
  all_goals rintro e w1 ⟨rfl, hb1⟩
  all_goals have HB1 := Lib.hid hb1
  all_goals clear hb1
  all_goals go_wp2_with fail
  all_goals refine (first4 w1).mono ?_
  all_goals rintro e w2 ⟨rfl, hb2⟩
  all_goals have HB2 := Lib.hid hb2
  all_goals clear hb2
  all_goals go_wp2_with fail
  all_goals go_ret
  all_goals exact ⟨rfl, below_step HB1.out HB2.out⟩
set_option maxRecDepth 100000 in
set_option maxHeartbeats 8000000 in
theorem numbers_in (ao : Option Addr) (cap : Nat) (l : List Nat) (a k : Nat) (w : World) (hi : Nats .u64 w ao l) (hn : Hid (∀ n ∈ l, n < 2 ^ 64)) (hl : l.length ≤ 400) (h1 : 1 ≤ a) (h2 : a ≤ 536870911) (h3 : k ≤ 5) :
    Calls Try.prog 6 #[.slice ao l.length cap, .int .i64 (a : Int), .int .i64 (k : Int)] w fun e w' => e = .returned (.bool true) ∧ Below w.heap.size w w' := by
  have HI := Lib.hid hi
  have HP := Lib.hid (put_start (n := 8 * a + k) (by omega))
  have HTG := Lib.hid (wtag_ok h1 h2 h3)
  have hput := fun w => put_any (8 * a + k) w HP.out
  rw [show ((8 * a + k : Nat) : Int) = 8 * (a : Int) + (k : Int) by simp] at hput
  have HPUT := Lib.hid hput
  have hd1 : decide (400 < (l.length : Int)) = false := by simp; omega
  have hd2 : decide ((a : Int) < 1) = false := by simp; omega
  have hd3 : decide (536870912 ≤ (a : Int)) = false := by simp; omega
  have hd4 : decide ((k : Int) < 0) = false := by simp
  have hd5 : decide (5 < (k : Int)) = false := by simp; omega
  clear hi hput
  go_enter Try.func6, Try.ntmps6
  go_wp2_with fail
  refine (first4 w).mono ?_; rintro e w1 ⟨rfl, hb1⟩
  have HB1 := Lib.hid hb1
  clear hb1
  go_wp2_with fail
  go_loopg [7, 8, 9] l.length (fun g x y i wr => ∃ (j : Nat) (X Y : ByteArray), j + g = l.length ∧ i = .int .i64 (j : Int) ∧ x = .string X ∧ y = .string Y ∧ Hid (X = ⟨(eights (l.take j)).toArray⟩) ∧ Hid (Y = ⟨(vputs (l.take j)).toArray⟩) ∧ Below w.heap.size w wr)
  case atStart => exact ⟨0, ⟨#[]⟩, ⟨#[]⟩, by omega, rfl, rfl, rfl, Lib.hid rfl, Lib.hid rfl, HB1.out⟩
  case round =>
    obtain ⟨j, X, Y, hj, rfl, rfl, rfl, HX, HY, hb⟩ := hrel
    have HJ := Lib.hid hj
    have HB := Lib.hid hb
    have hXs : X.size ≤ 3200 := by
      have := eights_le l j
      rw [HX.out]; simp [ByteArray.size]; omega
    have hYs : Y.size ≤ 4000 := by
      have := vputs_le l j
      rw [HY.out]; simp [ByteArray.size]; omega
    clear hj hb
    by_cases hlt : j < l.length
    · obtain ⟨b, off, n, HNN, rfl, hbl, hc⟩ := (HI.out.below HB.out).at hlt
      have hn64 : n < 2 ^ 64 := by rw [HNN.out]; exact hn.out _ (List.getElem_mem _)
      have HPn := Lib.hid (put_start hn64)
      have hv := vput_len n
      obtain ⟨E, HE⟩ : ∃ E : ByteArray, Hid (E = ⟨(9 :: eight 8 n).toArray⟩) := ⟨_, Lib.hid rfl⟩
      have hE9 : E.size = 9 := by rw [HE.out]; simp [ByteArray.size, eight_len]
      have HEX : Hid (E.extract 1 9 = ⟨(eight 8 n).toArray⟩) := Lib.hid (by
        rw [ext_str, HE.out]
        simp only [List.drop_succ_cons, List.drop_zero]
        rw [List.take_of_length_le (by simp [eight_len])])
      have HX2 : Hid (X ++ E.extract 1 9 = ⟨(eights (l.take (j + 1))).toArray⟩) := Lib.hid (by rw [HEX.out, HX.out, ba_append, eights_take l j hlt, HNN.out])
      have HY2 : Hid (Y ++ ByteArray.mk (vput n).toArray = ⟨(vputs (l.take (j + 1))).toArray⟩) := Lib.hid (by rw [HY.out, ba_append, vputs_take l j hlt, HNN.out])
      go_wp2_with fail
      refine (wfixed_any 1 n wr (by omega) (by omega) hn64).mono ?_; rintro e w2 ⟨rfl, hb2⟩
      rw [wrec_fixed, ← HE.out]
      have hc2 := (hb2.cell (p := ⟨b, off + j, none⟩) hbl).trans hc
      have HB2 := Lib.hid (below_step HB.out hb2)
      clear hb2 hc
      go_wp2_with fail
      refine (put_any n w2 HPn.out).mono ?_; rintro e w3 ⟨rfl, hb3⟩
      have HB3 := Lib.hid (below_step HB2.out hb3)
      clear hb3 hc2
      go_wp2_with fail
      have hj := HJ.out
      go_roundg (gk - 1)
      case measure => omega
      case rel => exact ⟨j + 1, X ++ E.extract 1 9, Y ++ ByteArray.mk (vput n).toArray, by omega, by simp, rfl, rfl, HX2, HY2, HB3.out⟩
    · have e : l.take j = l := List.take_of_length_le (by omega)
      rw [e] at HX HY
      clear e
      go_wp2_with fail
      refine (fixeds_eights HX.out hn.out hl wr).mono ?_; rintro e w2 ⟨ao2, cap2, rfl, hi2, hb2⟩
      have HI2 := Lib.hid hi2
      have HB2 := Lib.hid (below_step HB.out hb2)
      clear hb2 hi2
      go_wp2_with fail
      refine (varints_vputs HY.out hn.out hl w2).mono ?_; rintro e w3 ⟨ao3, cap3, rfl, hi3, hb3⟩
      have HI3 := Lib.hid hi3
      have HI2' := Lib.hid (HI2.out.below hb3)
      have HB3 := Lib.hid (below_step HB2.out hb3)
      clear hb3 hi3
      go_wp2_with fail
      refine (first4 w3).mono ?_; rintro e w4 ⟨rfl, hb4⟩
      have HI24 := Lib.hid (HI2'.out.below hb4)
      have HI34 := Lib.hid (HI3.out.below hb4)
      have HB4 := Lib.hid (below_step HB3.out hb4)
      clear hb4
      go_wp2_with fail
      refine (nums_same ao2 ao cap2 cap l w4 HI24.out (HI.out.below HB4.out) (by omega)).mono ?_; rintro e w5 ⟨rfl, hb5⟩
      have HI35 := Lib.hid (HI34.out.below hb5)
      have HB5 := Lib.hid (below_step HB4.out hb5)
      clear hb5
      go_wp2_with fail
      refine (nums_same ao3 ao cap3 cap l w5 HI35.out (HI.out.below HB5.out) (by omega)).mono ?_; rintro e w6 ⟨rfl, hb6⟩
      have HB6 := Lib.hid (below_step HB5.out hb6)
      clear hb6
      go_wp2_with fail
      refine (tag_any a k w6 (by omega) (by omega) (by omega) (by omega)).mono ?_; rintro e w7 ⟨rfl, hb7⟩
      rw [HTG.out]
      have HB7 := Lib.hid (below_step HB6.out hb7)
      clear hb7
      go_wp2_with fail
      refine (HPUT.out w7).mono ?_; rintro e w8 ⟨rfl, hb8⟩
      have HB8 := Lib.hid (below_step HB7.out hb8)
      clear hb8
      go_wp2_with fail
      go_ret
      exact ⟨rfl, HB8.out⟩
end Go.Proofs.Ytbhppchdoalahaa
