/-
  hyglaw4.WireCut: what it stands on.
-/
import Derived.Test.YtbhppchdoalahaaFirst4
import Derived.Test.YtbhppchdoalahaaWireCutMath
import Derived.Deep.QuietTactic
import Derived.Test.YtbhppchdoalahaaOrd
namespace Go.Proofs.Ytbhppchdoalahaa
open Go.RowKit

/-- All, whatever it answers -/
theorem all_some (s : ByteArray) (d : Int) (w : World) (hs : s.size ≤ 1000000000) :
    Calls Try.prog 13 #[.string s, .int .i64 d] w fun e w' => ∃ u v, e = .returned (.tuple #[u, v]) ∧ Below w.heap.size w w' := by
  refine (all_any s d w hs).mono fun e w' hp => ?_
  unfold AllPost at hp
  cases h : wall s.data.toList d with
  | error c =>
    rw [h] at hp
    obtain ⟨v, rfl, q, _, hE⟩ := hp
    exact ⟨_, v, rfl, hE.2⟩
  | ok rs =>
    rw [h] at hp
    obtain ⟨u, rfl, _, _, hb⟩ := hp
    exact ⟨u, _, rfl, hb⟩
theorem all_err {s : ByteArray} {d : Int} {c : Nat} (w : World) (hs : s.size ≤ 1000000000) (h : wall s.data.toList d = .error c) :
    Calls Try.prog 13 #[.string s, .int .i64 d] w fun e w' => ∃ T y, e = .returned (.tuple #[.slice none 0 0, .iface T y]) ∧ Below w.heap.size w w' := by
  refine (all_any s d w hs).mono fun e w' hp => ?_
  unfold AllPost at hp
  rw [h] at hp
  obtain ⟨v, rfl, q, _, hE⟩ := hp
  obtain ⟨T, y, rfl⟩ := hE.iface
  exact ⟨T, y, rfl, hE.2⟩
theorem all_good {s : ByteArray} {d : Int} {rs : List Rec} (w : World) (hs : s.size ≤ 1000000000) (h : wall s.data.toList d = .ok rs) :
    Calls Try.prog 13 #[.string s, .int .i64 d] w fun e w' => ∃ ao cap, e = .returned (.tuple #[.slice ao rs.length cap, .nilIface]) ∧ w'.ownsRow w.heap.size 37 5 (.slice ao rs.length cap) rs.length (rs.flatMap recCells) ∧ rs.length ≤ s.size ∧ Below w.heap.size w w' := by
  refine (all_any s d w hs).mono fun e w' hp => ?_
  unfold AllPost at hp
  rw [h] at hp
  obtain ⟨u, rfl, ho, hl, hb⟩ := hp
  obtain ⟨ao, cap, rfl⟩ := own_slice ho
  exact ⟨ao, cap, rfl, ho, hl, hb⟩
theorem recs_cell {rs : List Rec} {i j : Nat} (hi : i < rs.length) (hj : j < 5) : (rs.flatMap recCells)[5 * i + j]? = (recCells rs[i])[j]? := by
  induction rs generalizing i with
  | nil => simp at hi
  | cons r rs ih =>
    rw [List.flatMap_cons]
    cases i with
    | zero => rw [Nat.mul_zero, Nat.zero_add, List.getElem?_append_left (by simpa [recCells] using hj)]; rfl
    | succ i =>
      have hl : (recCells r).length = 5 := rfl
      rw [List.getElem?_append_right (by omega), hl, show 5 * (i + 1) + j - 5 = 5 * i + j by omega]
      exact ih (by simpa using hi)
set_option maxRecDepth 100000 in
set_option maxHeartbeats 4000000 in
theorem cut_early (s t : ByteArray) (d k : Int) (w : World) (h : 4000 < s.size ∨ 4000 < t.size ∨ d < 0 ∨ k < 0) :
    Calls Try.prog 5 #[.string s, .string t, .int .i64 d, .int .i64 k] w fun e w' => e = .returned (.bool true) ∧ Below w.heap.size w w' := by
  rcases (by omega : 4000 < s.size ∨ (s.size ≤ 4000 ∧ 4000 < t.size) ∨ (s.size ≤ 4000 ∧ t.size ≤ 4000 ∧ d < 0) ∨ (s.size ≤ 4000 ∧ t.size ≤ 4000 ∧ 0 ≤ d ∧ k < 0)) with h1 | ⟨h1, h2⟩ | ⟨h1, h2, h3⟩ | ⟨h1, h2, h3, h4⟩
  all_goals clear h
  all_goals go_enter Try.func5, Try.ntmps5
  all_goals go_wp2_with fail
  all_goals refine (first4 w).mono ?_
  all_goals rintro e w1 ⟨rfl, hb1⟩
  all_goals have HB1 := Lib.hid hb1
  all_goals clear hb1
  all_goals go_wp2_with fail
  all_goals refine (first4 w1).mono ?_
  all_goals rintro e w2 ⟨rfl, hb2⟩
  all_goals have HB2 := Lib.hid hb2
  all_goals clear hb2
  all_goals go_wp2_with fail
  all_goals go_ret
  all_goals exact ⟨rfl, below_step HB1.out HB2.out⟩
set_option maxRecDepth 100000 in
set_option maxHeartbeats 4000000 in
theorem cut_bad (s t : ByteArray) (d k : Int) (c : Nat) (w : World) (h1 : s.size ≤ 4000) (h2 : t.size ≤ 4000) (h3 : 0 ≤ d) (h4 : 0 ≤ k) (he : wall s.data.toList d = .error c) :
    Calls Try.prog 5 #[.string s, .string t, .int .i64 d, .int .i64 k] w fun e w' => e = .returned (.bool true) ∧ Below w.heap.size w w' := by
  have HE := Lib.hid he
  have hst : (s ++ t).size ≤ 8000 := by simp; omega
  clear he
  go_enter Try.func5, Try.ntmps5
  go_wp2_with fail
  refine (first4 w).mono ?_; rintro e w1 ⟨rfl, hb1⟩
  have HB1 := Lib.hid hb1
  clear hb1
  go_wp2_with fail
  refine (all_err w1 (by omega) HE.out).mono ?_; rintro e w2 ⟨T, y, rfl, hb2⟩
  have HB2 := Lib.hid (below_step HB1.out hb2)
  clear hb2
  go_wp2_with fail
  refine (all_some (s ++ t) d w2 (by omega)).mono ?_; rintro e w3 ⟨u3, v3, rfl, hb3⟩
  have HB3 := Lib.hid (below_step HB2.out hb3)
  clear hb3
  go_wp2_with fail
  refine (all_some t d w3 (by omega)).mono ?_; rintro e w4 ⟨u4, v4, rfl, hb4⟩
  have HB4 := Lib.hid (below_step HB3.out hb4)
  clear hb4
  go_wp2_with fail
  refine (first4 w4).mono ?_; rintro e w5 ⟨rfl, hb5⟩
  have HB5 := Lib.hid (below_step HB4.out hb5)
  clear hb5
  go_wp2_with fail
  go_ret
  exact ⟨rfl, HB5.out⟩
theorem lt_hm {n m : Nat} (h : Hid (n = m + 1)) : m < n := by have := h.out; omega
theorem cut_s1 {s : ByteArray} {d : Int} {rs : List Rec} {L : ByteArray} {m q : Nat} (h : wall s.data.toList d = .ok rs) (hm : rs.length = m + 1) (hL : L = ⟨(rs[m]'(by omega)).raw.toArray⟩) (hq : q < s.size) (hu : s.size - q < L.size) : ∃ c, wall (s.extract 0 q).data.toList d = .error c := by
  have hr0 : rs ≠ [] := by intro e; rw [e] at hm; simp at hm
  have e1 : rs = rs.dropLast ++ [rs.getLast hr0] := (List.dropLast_concat_getLast hr0).symm
  have e2 : rs.getLast hr0 = rs[m]'(by omega) := by rw [List.getLast_eq_getElem]; congr 1; omega
  rw [ext_list]
  simp only [List.drop_zero, Nat.sub_zero]
  rw [e1] at h
  refine wall_cut (u := s.data.toList.drop q) h (List.take_append_drop q s.data.toList).symm ?_ ?_
  · intro e
    have := congrArg List.length e
    simp at this
    omega
  · rw [e2]
    have : L.size = (rs[m]'(by omega)).raw.length := by rw [hL]; simp [ByteArray.size]
    simp
    omega
end Go.Proofs.Ytbhppchdoalahaa
