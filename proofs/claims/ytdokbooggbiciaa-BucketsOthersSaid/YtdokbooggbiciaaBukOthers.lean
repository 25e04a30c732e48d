/-
  Buckets: an unknown record before or behind a side.
-/
/-
  hyglaw14.BucketsOthers.
-/
import Derived.Test.YtdokbooggbiciaaBukSame
import Derived.Test.YtdokbooggbiciaaNumsSame
namespace Go.Proofs.Ytdokbooggbiciaa
open Go.RowKit

theorem bread_other (r : Rec) (d : Int) (hd : 0 ≤ d) (hr : ∀ d, IsRec d r) (hk : btk r = false) : bread r.raw d = .ok (⟨0, []⟩, r.raw) := by
  have h1 := recs_wall [r] d (fun x hx => by rw [List.mem_singleton] at hx; subst hx; exact hr d)
  rw [show [r].flatMap Rec.raw = r.raw by simp] at h1
  unfold bread mread
  rw [if_neg (by omega), h1]
  simp [mfold, munk, mrest, hk]
theorem bread_inv {s : List UInt8} {d : Int} {x : Bk} {u : List UInt8} (h : bread s d = .ok (x, u)) : 0 ≤ d ∧ ∃ rs, wall s d = .ok rs ∧ mfold btk bstep ⟨0, []⟩ rs = .ok x ∧ u = munk btk rs := by
  unfold bread mread at h
  split at h
  · cases h
  · cases hw : wall s d with
    | error c => rw [hw] at h; cases h
    | ok rs =>
      rw [hw] at h
      dsimp only at h
      cases hf : mfold btk bstep ⟨0, []⟩ rs with
      | error c => rw [hf] at h; cases h
      | ok y =>
        rw [hf] at h
        simp only [Except.ok.injEq, Prod.mk.injEq] at h
        exact ⟨by omega, rs, rfl, by rw [← h.1]; exact hf, h.2.symm⟩
theorem other_wall (r : Rec) (d : Int) (hr : ∀ d, IsRec d r) : wall r.raw d = .ok [r] := by
  have h1 := recs_wall [r] d (fun x hx => by rw [List.mem_singleton] at hx; subst hx; exact hr d)
  rwa [show [r].flatMap Rec.raw = r.raw by simp] at h1
theorem bread_behind {s : List UInt8} {d : Int} {x : Bk} {u : List UInt8} (r : Rec) (hr : ∀ d, IsRec d r) (hk : btk r = false) (h : bread s d = .ok (x, u)) : bread (s ++ r.raw) d = .ok (x, u ++ r.raw) := by
  obtain ⟨hd, rs, hw, hf, rfl⟩ := bread_inv h
  unfold bread mread
  rw [if_neg (by omega), wall_append _ r.raw (Nat.le_refl _) hw, other_wall r d hr]
  dsimp only
  rw [mfold_append, hf]
  simp [mfold, hk, munk, mrest]
theorem bread_before {s : List UInt8} {d : Int} {x : Bk} {u : List UInt8} (r : Rec) (hr : ∀ d, IsRec d r) (hk : btk r = false) (h : bread s d = .ok (x, u)) : bread (r.raw ++ s) d = .ok (x, r.raw ++ u) := by
  obtain ⟨hd, rs, hw, hf, rfl⟩ := bread_inv h
  unfold bread mread
  rw [if_neg (by omega), wall_append _ s (Nat.le_refl _) (other_wall r d hr), hw]
  simp [mfold, hk, hf, munk, mrest]
theorem bread_before_no {s : List UInt8} {d : Int} {c : Nat} (r : Rec) (hr : ∀ d, IsRec d r) (hk : btk r = false) (h : bread s d = .error c) : ∃ c', bread (r.raw ++ s) d = .error c' := by
  cases hb : bread (r.raw ++ s) d with
  | error c' => exact ⟨c', rfl⟩
  | ok xu =>
    exfalso
    obtain ⟨x, u⟩ := xu
    obtain ⟨hd, rs, hw, hf, _⟩ := bread_inv hb
    rw [wall_append _ s (Nat.le_refl _) (other_wall r d hr)] at hw
    unfold bread mread at h
    rw [if_neg (by omega)] at h
    cases hs : wall s d with
    | error c => rw [hs] at hw; cases hw
    | ok ks =>
      rw [hs] at hw h
      simp only [Except.ok.injEq] at hw
      subst hw
      have hf2 : mfold btk bstep ⟨0, []⟩ ks = .ok x := by
        rw [show [r] ++ ks = r :: ks from rfl, mfold, if_neg (by rw [hk]; simp)] at hf
        exact hf
      dsimp only at h
      rw [hf2] at h
      cases h
/-- four bytes of a number that no table knows -/
theorem txt_four {num : Nat} (s : List UInt8) (hs : s.length = 4) (h1 : 1 ≤ num) (h2 : num ≤ 536870911) : Txt (vput (8 * num + 5) ++ s) ⟨num, 5, wlit s, [], vput (8 * num + 5) ++ s⟩ := by
  refine ⟨rfl, by show 5 ≠ 3; omega, by show 5 ≠ 4; omega, (vput (8 * num + 5)).length, s.length, by simp, (vput_length _).1, fun u => ⟨?_, ?_⟩⟩
  · rw [List.append_assoc]; exact whd_vput _ h1 h2 (by omega)
  · rw [List.append_assoc, List.drop_left]
    unfold wbd
    rw [if_neg (show ¬ (5 = 1) by decide), if_pos rfl, if_neg (by simp; omega), List.take_append_of_le_length (by omega), List.take_of_length_le (by omega), hs]
theorem btk_four (num n : Nat) (s raw : List UInt8) : btk ⟨num, 5, n, s, raw⟩ = false := by unfold btk; simp
theorem btk_one (num n : Nat) (s raw : List UInt8) : btk ⟨num, 1, n, s, raw⟩ = false := by unfold btk; simp
end Go.Proofs.Ytdokbooggbiciaa
namespace Go.Proofs.Ytdokbooggbiciaa
open Go.RowKit

set_option maxRecDepth 1000000 in
set_option maxHeartbeats 8000000 in
theorem others_long (s : ByteArray) (d : Int) (k n : Int) (w : World) (h : 6000 < s.size ∨ k < 1 ∨ 536870912 ≤ k) :
    Calls Try.prog 7 #[.string s, .int .i64 d, .int .i64 k, .int .u64 n] w fun e w' => e = .returned (.bool true) ∧ Below w.heap.size w w' := by
  by_cases h1 : 6000 < s.size
  · have d1 : decide ((s.size : Int) > 6000) = true := decide_eq_true (by omega)
    clear h h1
    go_enter Try.func7, Try.ntmps7
    go_wp2_with fail
    refine (first14 w).mono ?_; rintro e w1 ⟨rfl, hb1⟩
    have HB1 := Lib.hid hb1
    clear hb1
    go_wp2_with fail
    refine (first14 w1).mono ?_; rintro e w2 ⟨rfl, hb2⟩
    have HB2 := Lib.hid (below_step HB1.out hb2)
    clear hb2
    go_wp2_with fail
    go_ret
    exact ⟨rfl, HB2.out⟩
  · have d1 : decide ((s.size : Int) > 6000) = false := decide_eq_false (by omega)
    by_cases h2 : k < 1
    · have d2 : decide (k < 1) = true := decide_eq_true h2
      clear h h1 h2
      go_enter Try.func7, Try.ntmps7
      go_wp2_with fail
      refine (first14 w).mono ?_; rintro e w1 ⟨rfl, hb1⟩
      have HB1 := Lib.hid hb1
      clear hb1
      go_wp2_with fail
      refine (first14 w1).mono ?_; rintro e w2 ⟨rfl, hb2⟩
      have HB2 := Lib.hid (below_step HB1.out hb2)
      clear hb2
      go_wp2_with fail
      go_ret
      exact ⟨rfl, HB2.out⟩
    · have d2 : decide (k < 1) = false := decide_eq_false h2
      have d3 : decide (k ≥ 536870912) = true := decide_eq_true (by omega)
      clear h h1 h2
      go_enter Try.func7, Try.ntmps7
      go_wp2_with fail
      refine (first14 w).mono ?_; rintro e w1 ⟨rfl, hb1⟩
      have HB1 := Lib.hid hb1
      clear hb1
      go_wp2_with fail
      refine (first14 w1).mono ?_; rintro e w2 ⟨rfl, hb2⟩
      have HB2 := Lib.hid (below_step HB1.out hb2)
      clear hb2
      go_wp2_with fail
      go_ret
      exact ⟨rfl, HB2.out⟩
set_option maxRecDepth 1000000 in
set_option maxHeartbeats 8000000 in
theorem others_walk (s : ByteArray) (d : Int) (k n : Nat) (w : World) (hs : s.size ≤ 6000) (hk1 : 1 ≤ k) (hk2 : k ≤ 536870911) (hn : n < 2 ^ 64) :
    Calls Try.prog 7 #[.string s, .int .i64 d, .int .i64 (k : Int), .int .u64 (n : Int)] w fun e w' => e = .returned (.bool true) ∧ Below w.heap.size w w' := by
  have d1 : decide ((s.size : Int) > 6000) = false := decide_eq_false (by omega)
  have d2 : decide ((k : Int) < 1) = false := decide_eq_false (by omega)
  have d3 : decide ((k : Int) ≥ 536870912) = false := decide_eq_false (by omega)
  have hsl : s.data.toList.length = s.size := by simp
  have HT4 := txt_four (num := k) [97, 98, 99, 100] rfl hk1 hk2
  have HT1 := txt_fixed (num := 536870911) (n := n) (by omega) (by omega) hn
  obtain ⟨r4, hr4⟩ : ∃ r : Rec, (⟨k, 5, wlit [97, 98, 99, 100], [], vput (8 * k + 5) ++ [97, 98, 99, 100]⟩ : Rec) = r := ⟨_, rfl⟩
  obtain ⟨r1, hr1⟩ : ∃ r : Rec, (⟨536870911, 1, n, [], vput (8 * 536870911 + 1) ++ eight 8 n⟩ : Rec) = r := ⟨_, rfl⟩
  have hb4 : btk r4 = false := by rw [← hr4]; exact btk_four _ _ _ _
  have hb1' : btk r1 = false := by rw [← hr1]; exact btk_one _ _ _ _
  have hw4 : r4.raw = vput (8 * k + 5) ++ [97, 98, 99, 100] := by rw [← hr4]
  have hw1 : r1.raw = vput (8 * 536870911 + 1) ++ eight 8 n := by rw [← hr1]
  rw [hr4] at HT4
  rw [hr1] at HT1
  have HI4 := Lib.hid (fun d => txt_isrec HT4 d)
  have HI1 := Lib.hid (fun d => txt_isrec HT1 d)
  have hvl4 := (vput_length (8 * k + 5)).2
  have hvl1 := (vput_length (8 * 536870911 + 1)).2
  have he8 := eight_len 8 n
  obtain ⟨A, hA⟩ : ∃ A : ByteArray, (⟨(wtag (k : Int) 5).toArray⟩ : ByteArray) = A := ⟨_, rfl⟩
  obtain ⟨U, hU⟩ : ∃ U : ByteArray, A ++ ⟨#[97, 98, 99, 100]⟩ = U := ⟨_, rfl⟩
  obtain ⟨L, hL⟩ : ∃ L : ByteArray, (⟨(wrec 536870911 1 (eight 8 n)).toArray⟩ : ByteArray) = L := ⟨_, rfl⟩
  have hAl : A.data.toList = vput (8 * k + 5) := by rw [← hA]; simp [show wtag (k : Int) 5 = _ from wtag_ok (kind := 5) hk1 hk2 (by omega)]
  have hUl : U.data.toList = r4.raw := by rw [← hU, hw4, ← hAl]; simp [ByteArray.data_append]
  have hLl : L.data.toList = r1.raw := by rw [← hL, hw1]; simp [show wrec 536870911 1 (eight 8 n) = _ from wrec_ok (num := 536870911) (kind := 1) (by omega) (by omega) (by omega) _]
  have hAs : A.size ≤ 10 := by
    have : A.size = A.data.toList.length := by simp
    rw [this, hAl]; exact hvl4
  have hUs : U.size ≤ 14 := by
    have : U.size = U.data.toList.length := by simp
    rw [this, hUl, hw4, List.length_append]; simp; omega
  have hLs : L.size ≤ 18 := by
    have : L.size = L.data.toList.length := by simp
    rw [this, hLl, hw1, List.length_append]; omega
  have HA := Lib.hid hA
  have HU := Lib.hid hU
  have HL := Lib.hid hL
  have HUL := Lib.hid hUl
  have HLL := Lib.hid hLl
  have HB4 := Lib.hid hb4
  have HB1' := Lib.hid hb1'
  have HKB := Lib.hid hk2
  clear hb4 hb1' hw4 hw1 HT4 HT1 hr4 hr1 hvl4 hvl1 he8 hA hU hL hAl hUl hLl hk1 hk2
  have hov1 : ¬ 9223372036854775807 < A.size + (ByteArray.mk #[97, 98, 99, 100]).size := by
    have : (ByteArray.mk #[97, 98, 99, 100]).size = 4 := rfl
    omega
  go_enter Try.func7, Try.ntmps7
  go_wp2_with fail
  refine (first14 w).mono ?_; rintro e w1 ⟨rfl, hb1⟩
  have HBa := Lib.hid hb1
  clear hb1
  go_wp2_with fail
  refine (ub_gen s d w1 (by omega)).mono ?_; rintro e w2 ⟨hb2, x, u, ao, cap, v, rfl, hx⟩
  have HBb := Lib.hid (below_step HBa.out hb2)
  have HX := Lib.hid hx
  obtain ⟨S, hS⟩ : ∃ S : ByteArray, (⟨u.toArray⟩ : ByteArray) = S := ⟨_, rfl⟩
  have HS := Lib.hid hS
  rw [hS]
  clear hb2 hx hS
  obtain ⟨W2, hW2⟩ : ∃ W2, w2.alloc (.cells #[.int .i32 x.off, .slice ao x.cs.length cap, .string S] 24) = W2 := ⟨_, rfl⟩
  obtain ⟨bx, hbx⟩ : ∃ bx, w2.heap.size = bx := ⟨_, rfl⟩
  have HXR : Hid (W2.heap[bx]? = some (.cells #[.int .i32 x.off, .slice ao x.cs.length cap, .string S] 24 (0, 0))) := Lib.hid (by rw [← hW2, ← hbx]; exact heap_alloc_new w2 _)
  have HBW2 : Hid (Below w.heap.size w W2) := Lib.hid (by rw [← hW2]; exact below_step HBb.out (below_new _ _))
  have HW2 := Lib.hid hW2
  have HBX := Lib.hid hbx
  have HQ2a : Hid (Below w2.heap.size w2 W2) := Lib.hid (by rw [← hW2]; exact below_new _ _)
  clear hW2 hbx
  go_wp2_with fail
  rw [HW2.out, HBX.out]
  refine (tag_any (k : Int) 5 W2 (by have := HKB.out; omega) (by have := HKB.out; omega) (by omega) (by omega)).mono ?_; rintro e w3 ⟨rfl, hb3⟩
  rw [HA.out]
  have HQ2b := Lib.hid (below_step HQ2a.out hb3)
  have HBc := Lib.hid (below_step HBW2.out hb3)
  have HXR3 : Hid (w3.heap[bx]? = some (.cells #[.int .i32 x.off, .slice ao x.cs.length cap, .string S] 24 (0, 0))) := Lib.hid ((hb3.block _ (row_lt HXR.out)).trans HXR.out)
  obtain ⟨sU, hsU⟩ : ∃ sU : ByteArray, s ++ U = sU := ⟨_, rfl⟩
  obtain ⟨Us, hUs'⟩ : ∃ Us : ByteArray, U ++ s = Us := ⟨_, rfl⟩
  have hsUl : sU.data.toList = s.data.toList ++ r4.raw := by rw [← hsU, ← HUL.out]; simp [ByteArray.data_append]
  have hUsl : Us.data.toList = r4.raw ++ s.data.toList := by rw [← hUs', ← HUL.out]; simp [ByteArray.data_append]
  have hsUs : sU.size ≤ 6020 := by rw [← hsU, ByteArray.size_append]; omega
  have hUss : Us.size ≤ 6020 := by rw [← hUs', ByteArray.size_append]; omega
  have HsUL := Lib.hid hsUl
  have HUsL := Lib.hid hUsl
  have HsU := Lib.hid hsU
  have HUs := Lib.hid hUs'
  have hov2 : ¬ 9223372036854775807 < s.size + U.size := by omega
  have hov3 : ¬ 9223372036854775807 < U.size + s.size := by omega
  clear hb3 hsUl hUsl hsU hUs'
  go_wp2_with fail
  rw [HU.out]
  go_wp2_with fail
  rw [HsU.out]
  refine (ub_gen sU d w3 (by omega)).mono ?_; rintro e w4 ⟨hb4, y, u', ao', cap', v', rfl, hy⟩
  have HQ2c := Lib.hid (below_step HQ2b.out hb4)
  have HBd := Lib.hid (below_step HBc.out hb4)
  have HXR4 : Hid (w4.heap[bx]? = some (.cells #[.int .i32 x.off, .slice ao x.cs.length cap, .string S] 24 (0, 0))) := Lib.hid ((hb4.block _ (row_lt HXR3.out)).trans HXR3.out)
  have HY := Lib.hid hy
  obtain ⟨T, hT⟩ : ∃ T : ByteArray, (⟨u'.toArray⟩ : ByteArray) = T := ⟨_, rfl⟩
  have HT := Lib.hid hT
  rw [hT]
  clear hb4 hy hT
  obtain ⟨W4, hW4⟩ : ∃ W2, w4.alloc (.cells #[.int .i32 y.off, .slice ao' y.cs.length cap', .string T] 24) = W2 := ⟨_, rfl⟩
  obtain ⟨bY, hbY⟩ : ∃ bx, w4.heap.size = bx := ⟨_, rfl⟩
  have HYR : Hid (W4.heap[bY]? = some (.cells #[.int .i32 y.off, .slice ao' y.cs.length cap', .string T] 24 (0, 0))) := Lib.hid (by rw [← hW4, ← hbY]; exact heap_alloc_new w4 _)
  have hba : Below w4.heap.size w4 W4 := by rw [← hW4]; exact below_new _ _
  have HQ2d := Lib.hid (below_step HQ2c.out hba)
  have HQ4a := Lib.hid hba
  have HBW4 : Hid (Below w.heap.size w W4) := Lib.hid (below_step HBd.out hba)
  have HXR5 : Hid (W4.heap[bx]? = some (.cells #[.int .i32 x.off, .slice ao x.cs.length cap, .string S] 24 (0, 0))) := Lib.hid ((hba.block _ (row_lt HXR4.out)).trans HXR4.out)
  have hne1 : bx ≠ bY := by have := row_lt HXR4.out; omega
  have HNE1 := Lib.hid hne1
  have HW4 := Lib.hid hW4
  have HBY := Lib.hid hbY
  clear hW4 hbY hba hne1
  go_wp2_with fail
  rw [HW4.out, HBY.out]
  go_wp2_with fail
  rw [HUs.out]
  refine (ub_gen Us d W4 (by omega)).mono ?_; rintro e w5 ⟨hb5, z, u'', ao'', cap'', v'', rfl, hz⟩
  have HQ2e := Lib.hid (below_step HQ2d.out hb5)
  have HQ4b := Lib.hid (below_step HQ4a.out hb5)
  have HBe := Lib.hid (below_step HBW4.out hb5)
  have HXR6 : Hid (w5.heap[bx]? = some (.cells #[.int .i32 x.off, .slice ao x.cs.length cap, .string S] 24 (0, 0))) := Lib.hid ((hb5.block _ (row_lt HXR5.out)).trans HXR5.out)
  have HYR6 : Hid (w5.heap[bY]? = some (.cells #[.int .i32 y.off, .slice ao' y.cs.length cap', .string T] 24 (0, 0))) := Lib.hid ((hb5.block _ (row_lt HYR.out)).trans HYR.out)
  have HZ := Lib.hid hz
  have HB5B := Lib.hid hb5
  obtain ⟨V, hV⟩ : ∃ T : ByteArray, (⟨u''.toArray⟩ : ByteArray) = T := ⟨_, rfl⟩
  have HV := Lib.hid hV
  rw [hV]
  clear hb5 hz hV
  obtain ⟨W5, hW5⟩ : ∃ W2, w5.alloc (.cells #[.int .i32 z.off, .slice ao'' z.cs.length cap'', .string V] 24) = W2 := ⟨_, rfl⟩
  obtain ⟨bZ, hbZ⟩ : ∃ bx, w5.heap.size = bx := ⟨_, rfl⟩
  have HZR : Hid (W5.heap[bZ]? = some (.cells #[.int .i32 z.off, .slice ao'' z.cs.length cap'', .string V] 24 (0, 0))) := Lib.hid (by rw [← hW5, ← hbZ]; exact heap_alloc_new w5 _)
  have hba : Below w5.heap.size w5 W5 := by rw [← hW5]; exact below_new _ _
  have HBW5 : Hid (Below w.heap.size w W5) := Lib.hid (below_step HBe.out hba)
  have HXR7 : Hid (W5.heap[bx]? = some (.cells #[.int .i32 x.off, .slice ao x.cs.length cap, .string S] 24 (0, 0))) := Lib.hid ((hba.block _ (row_lt HXR6.out)).trans HXR6.out)
  have HYR7 : Hid (W5.heap[bY]? = some (.cells #[.int .i32 y.off, .slice ao' y.cs.length cap', .string T] 24 (0, 0))) := Lib.hid ((hba.block _ (row_lt HYR6.out)).trans HYR6.out)
  have HQ2 := Lib.hid (below_step HQ2e.out hba)
  have HQ4 := Lib.hid (below_step HQ4b.out hba)
  have HQ5 := Lib.hid hba
  have HY4 : Hid (bY < W4.heap.size) := Lib.hid (row_lt HYR.out)
  have HSZ2 : Hid (w2.heap.size ≤ bY) := Lib.hid (by rw [← HBY.out]; exact HQ2c.out.size)
  have HSZ4 : Hid (w4.heap.size = bY) := HBY
  have HSZ5 : Hid (bY < w5.heap.size) := Lib.hid (row_lt HYR6.out)
  have hne2 : bx ≠ bZ := by have := row_lt HXR6.out; omega
  have hne3 : bY ≠ bZ := by have := row_lt HYR6.out; omega
  have HNE2 := Lib.hid hne2
  have HNE3 := Lib.hid hne3
  have HW5 := Lib.hid hW5
  have HBZ := Lib.hid hbZ
  clear hW5 hbZ hba hne2 hne3
  cases hbr : bread s.data.toList d with
  | error c =>
    rcases HX.out with ⟨_, hx, _⟩ | ⟨T1, y1, _, _, rfl, _⟩
    case inl => rw [hbr] at hx; cases hx
    obtain ⟨c', hc'⟩ := bread_before_no r4 HI4.out HB4.out hbr
    rcases HZ.out with ⟨_, hx, _⟩ | ⟨T2, y2, _, _, rfl, _⟩
    case inl => rw [HUsL.out, hc'] at hx; cases hx
    have HBN : Hid (Below w.heap.size w (w5.alloc (.cells #[.int .i32 0, .slice none 0 0, .string V] 24))) := Lib.hid (below_step HBe.out (below_new _ _))
    clear hbr hc'
    go_wp2_with fail
    refine (first14 _).mono ?_; rintro e w6 ⟨rfl, hb6⟩
    have HBf := Lib.hid (below_step HBN.out hb6)
    clear hb6
    go_wp2_with fail
    go_ret
    exact ⟨rfl, HBf.out⟩
  | ok xu =>
    obtain ⟨x0, u0⟩ := xu
    rcases HX.out with ⟨rfl, hx, hxo⟩ | ⟨_, _, _, _, _, hx, _⟩
    case inr => rw [hbr] at hx; cases hx
    rcases HY.out with ⟨rfl, hy, hyo⟩ | ⟨_, _, _, _, _, hy, _⟩
    case inr => rw [HsUL.out, bread_behind r4 HI4.out HB4.out hx] at hy; cases hy
    rw [HsUL.out, bread_behind r4 HI4.out HB4.out hx] at hy
    simp only [Except.ok.injEq, Prod.mk.injEq] at hy
    obtain ⟨rfl, rfl⟩ := hy
    rcases HZ.out with ⟨rfl, hz, hzo⟩ | ⟨_, _, _, _, _, hz, _⟩
    case inr => rw [HUsL.out, bread_before r4 HI4.out HB4.out hx] at hz; cases hz
    rw [HUsL.out, bread_before r4 HI4.out HB4.out hx] at hz
    simp only [Except.ok.injEq, Prod.mk.injEq] at hz
    obtain ⟨rfl, rfl⟩ := hz
    have hUe : U = ⟨r4.raw.toArray⟩ := by rw [← HUL.out]
    have hLe : L = ⟨r1.raw.toArray⟩ := by rw [← HLL.out]
    have HTE : Hid (T = S ++ U) := Lib.hid (by rw [← HT.out, ← HS.out, hUe, ba_append])
    have HVE : Hid (V = U ++ S) := Lib.hid (by rw [← HV.out, ← HS.out, hUe, ba_append])
    have hul := bread_unk hx
    have hxl := (bread_cs hx).1
    have hSs : S.size ≤ 6000 := by
      have : S.size = u.length := by rw [← HS.out]; simp [ByteArray.size]
      omega
    have hxl2 : x.cs.length ≤ 6000 := by omega
    have hov4 : ¬ 9223372036854775807 < S.size + U.size := by omega
    have hov5 : ¬ 9223372036854775807 < U.size + S.size := by omega
    have ht1 : (T.toList == (S ++ U).toList) = true := by rw [HTE.out]; simp
    have ht2 : (V.toList == (U ++ S).toList) = true := by rw [HVE.out]; simp
    have hm1 := bread_behind r1 HI1.out HB1'.out hx
    have hm2 := bread_before r1 HI1.out HB1'.out hm1
    have HM2 := Lib.hid hm2
    have HOX : Hid (W5.ownsRow w1.heap.size 38 1 (.slice ao x.cs.length cap) x.cs.length (nats64 x.cs)) := Lib.hid ((Upd.of_new (S := fun _ => False) HQ2.out).own hxo (fun _ _ h => h))
    have HOY : Hid (W5.ownsRow w3.heap.size 38 1 (.slice ao' x.cs.length cap') x.cs.length (nats64 x.cs)) := Lib.hid ((Upd.of_new (S := fun _ => False) HQ4.out).own hyo (fun _ _ h => h))
    have HOZ : Hid (W5.ownsRow W4.heap.size 38 1 (.slice ao'' x.cs.length cap'') x.cs.length (nats64 x.cs)) := Lib.hid ((Upd.of_new (S := fun _ => False) HQ5.out).own hzo (fun _ _ h => h))
    have HLX : Hid (∀ k, (Value.slice ao x.cs.length cap).ownBlock = some k → k ≠ bY ∧ k ≠ bZ) := Lib.hid (fun k hk => by
      have h1 := (hxo.lt k hk).2; have h2 := HSZ2.out; have h3 := HSZ5.out; have h4 := HBZ.out; omega)
    have HLY : Hid (∀ k, (Value.slice ao' x.cs.length cap').ownBlock = some k → k ≠ bY ∧ k ≠ bZ) := Lib.hid (fun k hk => by
      have h1 := (hyo.lt k hk).2; have h2 := HSZ4.out; have h3 := HSZ5.out; have h4 := HBZ.out; omega)
    have HLZ : Hid (∀ k, (Value.slice ao'' x.cs.length cap'').ownBlock = some k → k ≠ bY ∧ k ≠ bZ) := Lib.hid (fun k hk => by
      have h1 := (hzo.lt k hk); have h2 := HY4.out; have h3 := HSZ5.out; have h4 := HBZ.out; omega)
    clear hx hxo hyo hzo hbr hUe hLe hul hxl hm1 hm2
    have hc0 : W5.cell? ⟨bx, 2, none⟩ = some (.string S) := row_cell HXR7.out (j := 2) rfl
    have hc1 : W5.cell? ⟨bY, 2, none⟩ = some (.string T) := row_cell HYR7.out (j := 2) rfl
    have hc2 : W5.cell? ⟨bZ, 2, none⟩ = some (.string V) := row_cell HZR.out (j := 2) rfl
    rw [← HW5.out] at hc0 hc1 hc2
    rw [← HBZ.out] at hc2
    go_wp2_with fail
    clear hc0 hc1 hc2
    rw [HW5.out, HBZ.out]
    obtain ⟨D5, hD5⟩ : ∃ D, W5.drew = D := ⟨_, rfl⟩
    have HBD5 : Hid (Below w.heap.size w D5) := Lib.hid (by rw [← hD5]; exact HBW5.out.drew)
    have HUD : Hid (Upd (fun _ => False) W5 D5) := Lib.hid (by rw [← hD5]; exact Upd.drew _ W5)
    have HX5 : Hid (D5.heap[bx]? = some (.cells #[.int .i32 x.off, .slice ao x.cs.length cap, .string S] 24 (0, 0))) := Lib.hid (by rw [← hD5]; exact HXR7.out)
    have HY5 : Hid (D5.heap[bY]? = some (.cells #[.int .i32 x.off, .slice ao' x.cs.length cap', .string T] 24 (0, 0))) := Lib.hid (by rw [← hD5]; exact HYR7.out)
    have HZ5 : Hid (D5.heap[bZ]? = some (.cells #[.int .i32 x.off, .slice ao'' x.cs.length cap'', .string V] 24 (0, 0))) := Lib.hid (by rw [← hD5]; exact HZR.out)
    have hc0 : D5.cell? ⟨bx, 2, none⟩ = some (.string S) := row_cell HX5.out (j := 2) rfl
    have hc1 : D5.cell? ⟨bY, 2, none⟩ = some (.string T) := row_cell HY5.out (j := 2) rfl
    have hf1 : D5.frozen? ⟨bY, 2, none⟩ = false := row_thaw HY5.out 2
    refine wp_region_seq (S := fun w' => w'.cell? ⟨bx, 2, none⟩ = some (.string S)) [(0, true), (1, true), (2, true), (3, true), (4, true), (5, false), (6, true), (7, false)] (by kernel_rfl) (by kernel_rfl) (by kernel_rfl) (by kernel_rfl) (by rw [hD5]; exact hc0) ?_
    rw [hD5]
    iterate 5 (refine seq_take _ rfl (fun K hK => ?_); go_simp; (first | refine hK _ ?_ | refine ⟨_, fun _ _ => rfl, hK _ ?_⟩ | refine ⟨.string S, fun a ha => by rw [ha]; rfl, hK _ ?_⟩); clear hK K)
    refine seq_come _ rfl (fun K hK => ?_); go_simp
    obtain ⟨D6, hD6⟩ : ∃ D, D5.setCell ⟨bY, 2, none⟩ (.string S) = D := ⟨_, rfl⟩
    have hu6 := Upd.set D5 ⟨bY, 2, none⟩ (.string S)
    rw [hD6] at hu6
    have HU6 : Hid (Upd (fun k => k = bY ∨ k = bZ) D5 D6) := Lib.hid (hu6.mono fun k _ h => .inl h)
    have HX6 : Hid (D6.heap[bx]? = some (.cells #[.int .i32 x.off, .slice ao x.cs.length cap, .string S] 24 (0, 0))) := Lib.hid ((hu6.block bx (row_lt HX5.out) (fun e => HNE1.out e)).trans HX5.out)
    have HZ6 : Hid (D6.heap[bZ]? = some (.cells #[.int .i32 x.off, .slice ao'' x.cs.length cap'', .string V] 24 (0, 0))) := Lib.hid ((hu6.block bZ (row_lt HZ5.out) (fun e => HNE3.out (Eq.symm e))).trans HZ5.out)
    have HY6 : Hid (D6.heap[bY]? = some (.cells #[.int .i32 x.off, .slice ao' x.cs.length cap', .string S] 24 (0, 0))) := Lib.hid (by rw [← hD6]; exact row_set HY5.out 2 _)
    rw [hD6]
    clear hD6 hu6 hc0 hc1 hf1
    have hc0 : D6.cell? ⟨bx, 2, none⟩ = some (.string S) := row_cell HX6.out (j := 2) rfl
    have hc1 : D6.cell? ⟨bZ, 2, none⟩ = some (.string V) := row_cell HZ6.out (j := 2) rfl
    have hf1 : D6.frozen? ⟨bZ, 2, none⟩ = false := row_thaw HZ6.out 2
    refine hK.out _ _ hc0 ?_; clear hK K
    iterate 1 (refine seq_take _ rfl (fun K hK => ?_); go_simp; (first | refine hK _ ?_ | refine ⟨_, fun _ _ => rfl, hK _ ?_⟩ | refine ⟨.string S, fun a ha => by rw [ha]; rfl, hK _ ?_⟩); clear hK K)
    refine seq_come _ rfl (fun K hK => ?_); go_simp
    obtain ⟨D7, hD7⟩ : ∃ D, D6.setCell ⟨bZ, 2, none⟩ (.string S) = D := ⟨_, rfl⟩
    have hu7 := Upd.set D6 ⟨bZ, 2, none⟩ (.string S)
    rw [hD7] at hu7
    have HU7 : Hid (Upd (fun k => k = bY ∨ k = bZ) W5 D7) := Lib.hid ((HUD.out.mono fun _ _ h => h.elim).trans (HU6.out.trans (hu7.mono fun k _ h => .inr h)))
    have HX7 : Hid (D7.heap[bx]? = some (.cells #[.int .i32 x.off, .slice ao x.cs.length cap, .string S] 24 (0, 0))) := Lib.hid ((hu7.block bx (row_lt HX6.out) (fun e => HNE2.out e)).trans HX6.out)
    have HY7 : Hid (D7.heap[bY]? = some (.cells #[.int .i32 x.off, .slice ao' x.cs.length cap', .string S] 24 (0, 0))) := Lib.hid ((hu7.block bY (row_lt HY6.out) (fun e => HNE3.out e)).trans HY6.out)
    have HZ7 : Hid (D7.heap[bZ]? = some (.cells #[.int .i32 x.off, .slice ao'' x.cs.length cap'', .string S] 24 (0, 0))) := Lib.hid (by rw [← hD7]; exact row_set HZ6.out 2 _)
    rw [hD7]
    clear hD7 hu7 hc1 hf1
    have hc0 : D7.cell? ⟨bx, 2, none⟩ = some (.string S) := row_cell HX7.out (j := 2) rfl
    refine hK.out _ _ hc0 ?_; clear hK K
    refine seq_done ?_
    clear hc0
    have HBD7 : Hid (Below w.heap.size w D7) := Lib.hid (HBW5.out.trans (HU7.out.below (by have := HSZ2.out; have := HBb.out.size; have := HBW5.out.size; omega) (fun k _ h => by have := HSZ2.out; have := HBb.out.size; have := HNE3.out; have := HSZ5.out; have := HBZ.out; rcases h with h | h <;> omega)))
    have HNX : Hid (Nats .u64 D7 ao x.cs) := Lib.hid (nats_of_own (HU7.out.own HOX.out (fun k hk h => by have := HLX.out k hk; rcases h with h | h; exact this.1 h; exact this.2 h)))
    have HNY : Hid (Nats .u64 D7 ao' x.cs) := Lib.hid (nats_of_own (HU7.out.own HOY.out (fun k hk h => by have := HLY.out k hk; rcases h with h | h; exact this.1 h; exact this.2 h)))
    have HNZ : Hid (Nats .u64 D7 ao'' x.cs) := Lib.hid (nats_of_own (HU7.out.own HOZ.out (fun k hk h => by have := HLZ.out k hk; rcases h with h | h; exact this.1 h; exact this.2 h)))
    clear HOX HOY HOZ HLX HLY HLZ HU7 HU6 HX5 HY5 HZ5 HX6 HY6 HZ6 HUD HBD5 ht1 ht2 hov1 hov2 hov3 hov4 hov5
    go_wp2_with fail
    refine (wfixed_any 536870911 n D7 (by omega) (by omega) hn).mono ?_; rintro e w8 ⟨rfl, hb8⟩
    rw [HL.out]
    have HB8 := Lib.hid (below_step HBD7.out hb8)
    have HC8 := Lib.hid hb8
    have HX8 : Hid (w8.heap[bx]? = some (.cells #[.int .i32 x.off, .slice ao x.cs.length cap, .string S] 24 (0, 0))) := Lib.hid ((hb8.block _ (row_lt HX7.out)).trans HX7.out)
    have HY8 : Hid (w8.heap[bY]? = some (.cells #[.int .i32 x.off, .slice ao' x.cs.length cap', .string S] 24 (0, 0))) := Lib.hid ((hb8.block _ (row_lt HY7.out)).trans HY7.out)
    have HZ8 : Hid (w8.heap[bZ]? = some (.cells #[.int .i32 x.off, .slice ao'' x.cs.length cap'', .string S] 24 (0, 0))) := Lib.hid ((hb8.block _ (row_lt HZ7.out)).trans HZ7.out)
    obtain ⟨Ls, hLs'⟩ : ∃ X : ByteArray, L ++ s = X := ⟨_, rfl⟩
    obtain ⟨LsL, hLsL⟩ : ∃ X : ByteArray, Ls ++ L = X := ⟨_, rfl⟩
    have hLsl : LsL.data.toList = r1.raw ++ (s.data.toList ++ r1.raw) := by rw [← hLsL, ← hLs', ← HLL.out]; simp [ByteArray.data_append]
    have hLss : Ls.size ≤ 6020 := by rw [← hLs', ByteArray.size_append]; omega
    have hLsLs : LsL.size ≤ 6100 := by rw [← hLsL, ByteArray.size_append]; omega
    have hov6 : ¬ 9223372036854775807 < L.size + s.size := by omega
    have hov7 : ¬ 9223372036854775807 < Ls.size + L.size := by omega
    have HLsl := Lib.hid hLsl
    have HLs := Lib.hid hLs'
    have HLsL := Lib.hid hLsL
    clear hb8 hLsl hLs' hLsL
    go_wp2_with fail
    rw [HLs.out]
    go_wp2_with fail
    rw [HLsL.out]
    refine (ub_gen LsL d w8 (by omega)).mono ?_; rintro e w9 ⟨hb9, f, uf, af, cf, vf, rfl, hf⟩
    rcases hf with ⟨rfl, hf, hfo⟩ | ⟨_, _, _, _, _, hf, _⟩
    case inr => rw [HLsl.out, HM2.out] at hf; cases hf
    rw [HLsl.out, HM2.out] at hf
    simp only [Except.ok.injEq, Prod.mk.injEq] at hf
    obtain ⟨rfl, rfl⟩ := hf
    obtain ⟨F, hF⟩ : ∃ T : ByteArray, (⟨(r1.raw ++ (u ++ r1.raw)).toArray⟩ : ByteArray) = T := ⟨_, rfl⟩
    rw [hF]
    obtain ⟨LS, hLS⟩ : ∃ X : ByteArray, L ++ S = X := ⟨_, rfl⟩
    have hLe : L = ⟨r1.raw.toArray⟩ := by rw [← HLL.out]
    have HFE : Hid (F = LS ++ L) := Lib.hid (by rw [← hF, ← hLS, ← HS.out, hLe, ba_append, ba_append, List.append_assoc])
    have hLSs : LS.size ≤ 6020 := by rw [← hLS, ByteArray.size_append]; omega
    have hov8 : ¬ 9223372036854775807 < L.size + S.size := by omega
    have hov9 : ¬ 9223372036854775807 < LS.size + L.size := by omega
    have HLS := Lib.hid hLS
    have hft : (F.toList == (LS ++ L).toList) = true := by rw [HFE.out]; simp
    clear hfo hF hLS hLe hov6 hov7
    obtain ⟨W9, hW9⟩ : ∃ W2, w9.alloc (.cells #[.int .i32 x.off, .slice af x.cs.length cf, .string F] 24) = W2 := ⟨_, rfl⟩
    obtain ⟨bF, hbF⟩ : ∃ bx, w9.heap.size = bx := ⟨_, rfl⟩
    have hba : Below w8.heap.size w8 W9 := below_step hb9 (by rw [← hW9]; exact below_new _ _)
    have HFR : Hid (W9.heap[bF]? = some (.cells #[.int .i32 x.off, .slice af x.cs.length cf, .string F] 24 (0, 0))) := Lib.hid (by rw [← hW9, ← hbF]; exact heap_alloc_new w9 _)
    have HB9 := Lib.hid (below_step HB8.out hba)
    have HC9 := Lib.hid (below_step HC8.out hba)
    have HX9 : Hid (W9.heap[bx]? = some (.cells #[.int .i32 x.off, .slice ao x.cs.length cap, .string S] 24 (0, 0))) := Lib.hid ((hba.block _ (row_lt HX8.out)).trans HX8.out)
    have HY9 : Hid (W9.heap[bY]? = some (.cells #[.int .i32 x.off, .slice ao' x.cs.length cap', .string S] 24 (0, 0))) := Lib.hid ((hba.block _ (row_lt HY8.out)).trans HY8.out)
    have HZ9 : Hid (W9.heap[bZ]? = some (.cells #[.int .i32 x.off, .slice ao'' x.cs.length cap'', .string S] 24 (0, 0))) := Lib.hid ((hba.block _ (row_lt HZ8.out)).trans HZ8.out)
    have HW9 := Lib.hid hW9
    have HBF := Lib.hid hbF
    clear hW9 hbF hba hb9
    go_wp2_with fail
    rw [HW9.out, HBF.out]
    refine (first14 W9).mono ?_; rintro e v0 ⟨rfl, hb10⟩
    have HB10 := Lib.hid (below_step HB9.out hb10)
    have HC10 := Lib.hid (below_step HC9.out hb10)
    have HX10 : Hid (v0.heap[bx]? = some (.cells #[.int .i32 x.off, .slice ao x.cs.length cap, .string S] 24 (0, 0))) := Lib.hid ((hb10.block _ (row_lt HX9.out)).trans HX9.out)
    have HY10 : Hid (v0.heap[bY]? = some (.cells #[.int .i32 x.off, .slice ao' x.cs.length cap', .string S] 24 (0, 0))) := Lib.hid ((hb10.block _ (row_lt HY9.out)).trans HY9.out)
    have HZ10 : Hid (v0.heap[bZ]? = some (.cells #[.int .i32 x.off, .slice ao'' x.cs.length cap'', .string S] 24 (0, 0))) := Lib.hid ((hb10.block _ (row_lt HZ9.out)).trans HZ9.out)
    have HF10 : Hid (v0.heap[bF]? = some (.cells #[.int .i32 x.off, .slice af x.cs.length cf, .string F] 24 (0, 0))) := Lib.hid ((hb10.block _ (row_lt HFR.out)).trans HFR.out)
    have HP := sameB_any x x u u ao ao' cap cap' v0 (Lib.hid (HNX.out.below HC10.out)) (Lib.hid (HNY.out.below HC10.out)) (by omega) (r := true) (Lib.hid (by simp))
    rw [HS.out] at HP
    have HPH := Lib.hid HP
    clear HP hb10
    have hc0 : v0.cell? ⟨bx, 0, none⟩ = some (.int .i32 x.off) := row_cell HX10.out (j := 0) rfl
    have hc1 : v0.cell? ⟨bx, 1, none⟩ = some (.slice ao x.cs.length cap) := row_cell HX10.out (j := 1) rfl
    have hc2 : v0.cell? ⟨bx, 2, none⟩ = some (.string S) := row_cell HX10.out (j := 2) rfl
    have hy0 : v0.cell? ⟨bY, 0, none⟩ = some (.int .i32 x.off) := row_cell HY10.out (j := 0) rfl
    have hy1 : v0.cell? ⟨bY, 1, none⟩ = some (.slice ao' x.cs.length cap') := row_cell HY10.out (j := 1) rfl
    have hy2 : v0.cell? ⟨bY, 2, none⟩ = some (.string S) := row_cell HY10.out (j := 2) rfl
    go_wp2_with fail
    refine HPH.out.mono ?_; rintro e v1 ⟨rfl, hb11⟩
    clear hc0 hc1 hc2 hy0 hy1 hy2
    have HB11 := Lib.hid (below_step HB10.out hb11)
    have HC11 := Lib.hid (below_step HC10.out hb11)
    have HX11 : Hid (v1.heap[bx]? = some (.cells #[.int .i32 x.off, .slice ao x.cs.length cap, .string S] 24 (0, 0))) := Lib.hid ((hb11.block _ (row_lt HX10.out)).trans HX10.out)
    have HZ11 : Hid (v1.heap[bZ]? = some (.cells #[.int .i32 x.off, .slice ao'' x.cs.length cap'', .string S] 24 (0, 0))) := Lib.hid ((hb11.block _ (row_lt HZ10.out)).trans HZ10.out)
    have HF11 : Hid (v1.heap[bF]? = some (.cells #[.int .i32 x.off, .slice af x.cs.length cf, .string F] 24 (0, 0))) := Lib.hid ((hb11.block _ (row_lt HF10.out)).trans HF10.out)
    have HP := sameB_any x x u u ao ao'' cap cap'' v1 (Lib.hid (HNX.out.below HC11.out)) (Lib.hid (HNZ.out.below HC11.out)) (by omega) (r := true) (Lib.hid (by simp))
    rw [HS.out] at HP
    have HPI := Lib.hid HP
    clear HP hb11
    have hc0 : v1.cell? ⟨bx, 0, none⟩ = some (.int .i32 x.off) := row_cell HX11.out (j := 0) rfl
    have hc1 : v1.cell? ⟨bx, 1, none⟩ = some (.slice ao x.cs.length cap) := row_cell HX11.out (j := 1) rfl
    have hc2 : v1.cell? ⟨bx, 2, none⟩ = some (.string S) := row_cell HX11.out (j := 2) rfl
    have hy0 : v1.cell? ⟨bZ, 0, none⟩ = some (.int .i32 x.off) := row_cell HZ11.out (j := 0) rfl
    have hy1 : v1.cell? ⟨bZ, 1, none⟩ = some (.slice ao'' x.cs.length cap'') := row_cell HZ11.out (j := 1) rfl
    have hy2 : v1.cell? ⟨bZ, 2, none⟩ = some (.string S) := row_cell HZ11.out (j := 2) rfl
    go_wp2_with fail
    refine HPI.out.mono ?_; rintro e v2 ⟨rfl, hb12⟩
    clear hc0 hc1 hc2 hy0 hy1 hy2
    have HB12 := Lib.hid (below_step HB11.out hb12)
    have hc2 : v2.cell? ⟨bx, 2, none⟩ = some (.string S) := row_cell ((hb12.block _ (row_lt HX11.out)).trans HX11.out) (j := 2) rfl
    have hf2 : v2.cell? ⟨bF, 2, none⟩ = some (.string F) := row_cell ((hb12.block _ (row_lt HF11.out)).trans HF11.out) (j := 2) rfl
    rw [← HLS.out] at hov9 hft
    clear hb12
    go_wp2_with fail
    go_ret
    exact ⟨rfl, HB12.out⟩
theorem others_any (s : ByteArray) (d : Int) (k n : Int) (w : World) (hn : 0 ≤ n ∧ n < 18446744073709551616) :
    Calls Try.prog 7 #[.string s, .int .i64 d, .int .i64 k, .int .u64 n] w fun e w' => e = .returned (.bool true) ∧ Below w.heap.size w w' := by
  by_cases h : 6000 < s.size ∨ k < 1 ∨ 536870912 ≤ k
  · exact others_long s d k n w h
  · obtain ⟨k', rfl⟩ := Int.eq_ofNat_of_zero_le (show 0 ≤ k by omega)
    obtain ⟨n', rfl⟩ := Int.eq_ofNat_of_zero_le hn.1
    exact others_walk s d k' n' w (by omega) (by omega) (by omega) (by omega)
end Go.Proofs.Ytdokbooggbiciaa
