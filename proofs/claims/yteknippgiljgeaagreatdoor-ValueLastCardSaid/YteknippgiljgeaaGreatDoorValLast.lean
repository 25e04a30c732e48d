/-
  hyglaw8.ValueLast.
-/
import Derived.Test.YteknippgiljgeaaGreatDoorFirst8
import Derived.Test.YteknippgiljgeaaGreatDoorUtfRefW
namespace Go.Proofs.YteknippgiljgeaaGreatDoor
open Go.RowKit

theorem ba_eta (X : ByteArray) : (⟨X.data.toList.toArray⟩ : ByteArray) = X := ByteArray.ext (by simp)
theorem wrec_okv {num kind : Nat} (h1 : 1 ≤ num) (h2 : num ≤ 536870911) (h3 : kind ≤ 5) (t : List UInt8) : wrec num kind t = vput (8 * num + kind) ++ t := by
  unfold wrec
  rw [wtag_ok h1 h2 h3, if_neg (vput_ne _)]
theorem bytes_at (num : Nat) (X Y : ByteArray) (h1 : 1 ≤ num) (h2 : num ≤ 536870911) (hX : X.size ≤ 1000000) (hY : (⟨(rB num X.data.toList).raw.toArray⟩ : ByteArray) = Y) (w : World) :
    Calls Tryz.prog 36 #[.int .i64 (num : Int), .string X] w fun e w' => e = .returned (.string Y) ∧ Below w.heap.size w w' := by
  have h := wbytes_any (num : Int) X w (by omega) (by omega) hX
  have e := wrec_okv (num := num) (kind := 2) h1 h2 (by omega) (vput X.size ++ X.data.toList)
  rw [show ((2 : Nat) : Int) = 2 from rfl] at e
  have hz : X.data.toList.length = X.size := by simp
  rw [e, ← hz, show (⟨(vput (8 * num + 2) ++ (vput X.data.toList.length ++ X.data.toList)).toArray⟩ : ByteArray) = Y from hY] at h
  exact h
theorem num_at (num n : Nat) (Y : ByteArray) (h1 : 1 ≤ num) (h2 : num ≤ 536870911) (hn : n < 2 ^ 64) (hY : (⟨(rN num n).raw.toArray⟩ : ByteArray) = Y) (w : World) :
    Calls Tryz.prog 37 #[.int .i64 (num : Int), .int .u64 (n : Int)] w fun e w' => e = .returned (.string Y) ∧ Below w.heap.size w w' := by
  have h := wvarint_any (num : Int) n w (by omega) (by omega) hn
  have e := wrec_okv (num := num) (kind := 0) h1 h2 (by omega) (vput n)
  rw [show ((0 : Nat) : Int) = 0 from rfl] at e
  rw [e, show (⟨(vput (8 * num + 0) ++ vput n).toArray⟩ : ByteArray) = Y from hY] at h
  exact h
theorem rB_len (num : Nat) (s : List UInt8) : (rB num s).raw.length ≤ s.length + 20 := by
  have h1 := (vput_length (8 * num + 2)).2
  have h2 := (vput_length s.length).2
  show (vput (8 * num + 2) ++ (vput s.length ++ s)).length ≤ _
  rw [List.length_append, List.length_append]
  omega
theorem rN_len (num n : Nat) : (rN num n).raw.length ≤ 20 := by
  have h1 := (vput_length (8 * num + 0)).2
  have h2 := (vput_length n).2
  show (vput (8 * num + 0) ++ vput n).length ≤ _
  rw [List.length_append]
  omega
theorem un_ok {X : ByteArray} {d : Int} {l : List UInt8} {x : Val} (hX : X.size ≤ 1000000) (hl : X.data.toList = l) (hd : -9223372036854775808 ≤ d ∧ d ≤ 9223372036854775807) (h : ∀ f, vread (f + 3) l d = .ok x) (w : World) :
    Calls Tryz.prog 11 #[.string X, .int .i64 d] w fun e w' => Below w.heap.size w w' ∧ ∃ cs, e = .returned (.tuple #[.agg cs.toArray, .nilIface]) ∧ VRel w' (fun k => w.heap.size ≤ k) x cs := by
  refine ((both_any (X.size + 3) X d w (by omega) hX hd).1).mono ?_
  rintro e w' ⟨h1, hcase⟩
  rw [hl, h X.size] at hcase
  exact ⟨h1, hcase⟩
theorem un_err {X : ByteArray} {d : Int} {l : List UInt8} {c : Nat} (hX : X.size ≤ 1000000) (hl : X.data.toList = l) (hd : -9223372036854775808 ≤ d ∧ d ≤ 9223372036854775807) (h : ∀ f, vread (f + 3) l d = .error c) (w : World) :
    Calls Tryz.prog 11 #[.string X, .int .i64 d] w fun e w' => Below w.heap.size w w' ∧ ∃ T y, e = .returned (.tuple #[.agg vzero, .iface T y]) := by
  refine ((both_any (X.size + 3) X d w (by omega) hX hd).1).mono ?_
  rintro e w' ⟨h1, hcase⟩
  rw [hl, h X.size] at hcase
  obtain ⟨v, q, rfl, _, hew⟩ := hcase
  obtain ⟨T, y, rfl⟩ := hew.iface
  exact ⟨h1, T, y, rfl⟩
theorem text8_any (X : ByteArray) (w : World) (hX : X.size ≤ 1000000) : Calls Tryz.prog 38 #[.string X] w fun e w' => e = .returned (.bool (uvalid X.data.toList)) ∧ w = w' := by
  have HB := Lib.hid (rbad_any X w hX)
  go_enter Tryz.func38, Tryz.ntmps38
  go_wp2_with fail
  refine HB.out.mono ?_; rintro e w' ⟨rfl, rfl⟩
  go_wp2_with fail
  go_ret
  exact ⟨rfl, rfl⟩
/-- the parts of the law's second half: a list told in two records -/
theorem vrels_one {w : World} {P : Nat → Prop} {n : Nat} {xs : List Val} {lo : Option Addr} {j i : Nat} (h : VRels w P xs lo j) (hx : xs[i]? = some (vN n)) : ∃ g off, lo = some ⟨g, off, none⟩ ∧ P g ∧ g < w.heap.size ∧ w.cell? ⟨g, off + 8 * (j + i) + 3, none⟩ = some (.int .u64 (n : Int)) := by
  induction xs generalizing i j with
  | nil => simp at hx
  | cons x xs ih =>
    rw [VRels] at h
    obtain ⟨⟨g, off, cs, h1, h2, h3, h4, h5⟩, h6⟩ := h
    cases i with
    | zero =>
      simp only [List.getElem?_cons_zero, Option.some.injEq] at hx
      subst hx
      unfold vN at h5
      rw [VRel] at h5
      obtain ⟨lo', lc', mo', mc', rfl, _⟩ := h5
      exact ⟨g, off, h1, h2, h3, h4 3 (by simp)⟩
    | succ i =>
      obtain ⟨g', off', g1, g2, g3, g4⟩ := ih h6 (by simpa using hx)
      exact ⟨g', off', g1, g2, g3, by rw [show j + (i + 1) = j + 1 + i by omega]; exact g4⟩
set_option maxRecDepth 1000000 in
set_option maxHeartbeats 8000000 in
theorem last_walk (s t : ByteArray) (n : Nat) (w : World) (hs : s.size ≤ 1000) (ht : t.size ≤ 1000) (hn : n < 2 ^ 64) (hg : Glob w) :
    Calls Tryz.prog 8 #[.string s, .string t, .int .u64 (n : Int)] w fun e w' => e = .returned (.bool true) ∧ Below w.heap.size w w' := by
  have HG := Lib.hid hg
  have hsl : s.data.toList.length = s.size := by simp
  have htl : t.data.toList.length = t.size := by simp
  obtain ⟨B1, hB1⟩ : ∃ Y : ByteArray, (⟨(rB 1 s.data.toList).raw.toArray⟩ : ByteArray) = Y := ⟨_, rfl⟩
  obtain ⟨N3, hN3⟩ : ∃ Y : ByteArray, (⟨(rN 3 n).raw.toArray⟩ : ByteArray) = Y := ⟨_, rfl⟩
  obtain ⟨B7, hB7⟩ : ∃ Y : ByteArray, (⟨(rB 7 t.data.toList).raw.toArray⟩ : ByteArray) = Y := ⟨_, rfl⟩
  have lB1 : B1.data.toList = (rB 1 s.data.toList).raw := by rw [← hB1]
  have lN3 : N3.data.toList = (rN 3 n).raw := by rw [← hN3]
  have lB7 : B7.data.toList = (rB 7 t.data.toList).raw := by rw [← hB7]
  have zB1 : B1.size ≤ 1020 := by have h := rB_len 1 s.data.toList; rw [← lB1] at h; have : B1.data.toList.length = B1.size := (by simp); omega
  have zN3 : N3.size ≤ 20 := by have h := rN_len 3 n; rw [← lN3] at h; have : N3.data.toList.length = N3.size := (by simp); omega
  have zB7 : B7.size ≤ 1020 := by have h := rB_len 7 t.data.toList; rw [← lB7] at h; have : B7.data.toList.length = B7.size := (by simp); omega
  obtain ⟨ON, hON⟩ : ∃ Y : ByteArray, (⟨(rB 1 N3.data.toList).raw.toArray⟩ : ByteArray) = Y := ⟨_, rfl⟩
  have lON : ON.data.toList = oneL n := by rw [← hON, lN3]; rfl
  have zON : ON.size ≤ 60 := by have h := oneL_len n; rw [← lON] at h; have : ON.data.toList.length = ON.size := (by simp); omega
  obtain ⟨L1, hL1⟩ : ∃ Y : ByteArray, (⟨(rB 5 ON.data.toList).raw.toArray⟩ : ByteArray) = Y := ⟨_, rfl⟩
  obtain ⟨OO, hOO⟩ : ∃ Y : ByteArray, ON ++ ON = Y := ⟨_, rfl⟩
  have lOO : OO.data.toList = oneL n ++ oneL n := by rw [← hOO]; simp [lON]
  have zOO : OO.size ≤ 120 := by rw [← hOO, ByteArray.size_append]; omega
  obtain ⟨L2, hL2⟩ : ∃ Y : ByteArray, (⟨(rB 5 OO.data.toList).raw.toArray⟩ : ByteArray) = Y := ⟨_, rfl⟩
  obtain ⟨N2, hN2⟩ : ∃ Y : ByteArray, (⟨(rN 2 1).raw.toArray⟩ : ByteArray) = Y := ⟨_, rfl⟩
  have lL1 : L1.data.toList = (rB 5 (oneL n)).raw := by rw [← hL1, lON]
  have lL2 : L2.data.toList = (rB 5 (oneL n ++ oneL n)).raw := by rw [← hL2, lOO]
  have lN2 : N2.data.toList = (rN 2 1).raw := by rw [← hN2]
  have zL1 : L1.size ≤ 80 := by have h := rB_len 5 (oneL n); rw [← lL1] at h; have h2 := oneL_len n; have : L1.data.toList.length = L1.size := (by simp); omega
  have zL2 : L2.size ≤ 140 := by have h := rB_len 5 (oneL n ++ oneL n); rw [← lL2, List.length_append] at h; have h2 := oneL_len n; have : L2.data.toList.length = L2.size := (by simp); omega
  have zN2 : N2.size ≤ 20 := by have h := rN_len 2 1; rw [← lN2] at h; have : N2.data.toList.length = N2.size := (by simp); omega
  have HB1 := Lib.hid (bytes_at 1 s B1 (by omega) (by omega) (by omega) hB1)
  have HN3 := Lib.hid (num_at 3 n N3 (by omega) (by omega) hn hN3)
  have HB7 := Lib.hid (bytes_at 7 t B7 (by omega) (by omega) (by omega) hB7)
  have HON := Lib.hid (bytes_at 1 N3 ON (by omega) (by omega) (by omega) hON)
  have HL1 := Lib.hid (bytes_at 5 ON L1 (by omega) (by omega) (by omega) hL1)
  have HL2 := Lib.hid (bytes_at 5 OO L2 (by omega) (by omega) (by omega) hL2)
  have HN2 := Lib.hid (num_at 2 1 N2 (by omega) (by omega) (by omega) hN2)
  have HOO := Lib.hid hOO
  have a1 : (B1 ++ N3 ++ B7).size ≤ 1000000 := by rw [ByteArray.size_append, ByteArray.size_append]; omega
  have a2 : (B7 ++ B1).size ≤ 1000000 := by rw [ByteArray.size_append]; omega
  have a3 : (L1 ++ L2).size ≤ 1000000 := by rw [ByteArray.size_append]; omega
  have a4 : (L1 ++ N2 ++ L1).size ≤ 1000000 := by rw [ByteArray.size_append, ByteArray.size_append]; omega
  have e1 : (B1 ++ N3 ++ B7).data.toList = (rB 1 s.data.toList).raw ++ ((rN 3 n).raw ++ (rB 7 t.data.toList).raw) := by simp [lB1, lN3, lB7]
  have e2 : (B7 ++ B1).data.toList = (rB 7 t.data.toList).raw ++ (rB 1 s.data.toList).raw := by simp [lB1, lB7]
  have e3 : (L1 ++ L2).data.toList = (rB 5 (oneL n)).raw ++ (rB 5 (oneL n ++ oneL n)).raw := by simp [lL1, lL2]
  have e4 : (L1 ++ N2 ++ L1).data.toList = (rB 5 (oneL n)).raw ++ ((rN 2 1).raw ++ (rB 5 (oneL n)).raw) := by simp [lL1, lN2]
  have HZ := Lib.hid (un_ok a3 e3 (by omega) (fun f => last_list (f := f) hn))
  have HW := Lib.hid (un_ok a4 e4 (by omega) (fun f => last_other (f := f) hn))
  have HTX := Lib.hid (fun w' => text8_any s w' (by omega))
  have q1 : ¬ 9223372036854775807 < B1.size + N3.size := by omega
  have q2 : ¬ 9223372036854775807 < (B1 ++ N3).size + B7.size := by rw [ByteArray.size_append]; omega
  have q3 : ¬ 9223372036854775807 < B7.size + B1.size := by omega
  have q4 : ¬ 9223372036854775807 < ON.size + ON.size := by omega
  have q5 : ¬ 9223372036854775807 < L1.size + L2.size := by omega
  have q6 : ¬ 9223372036854775807 < L1.size + N2.size := by omega
  have q7 : ¬ 9223372036854775807 < (L1 ++ N2).size + L1.size := by rw [ByteArray.size_append]; omega
  have d1 : decide ((1000 : Int) < (s.size : Int)) = false := decide_eq_false (by omega)
  have d2 : decide ((1000 : Int) < (t.size : Int)) = false := decide_eq_false (by omega)
  have HOK : Hid (uvalid s.data.toList = true → (∀ w', Calls Tryz.prog 11 #[.string (B1 ++ N3 ++ B7), .int .i64 0] w' fun e w'' => Below w'.heap.size w' w'' ∧ ∃ cs, e = .returned (.tuple #[.agg cs.toArray, .nilIface]) ∧ VRel w'' (fun k => w'.heap.size ≤ k) (.mk 7 t.data.toList false 0 [] [] [] []) cs) ∧ (∀ w', Calls Tryz.prog 11 #[.string (B7 ++ B1), .int .i64 0] w' fun e w'' => Below w'.heap.size w' w'' ∧ ∃ cs, e = .returned (.tuple #[.agg cs.toArray, .nilIface]) ∧ VRel w'' (fun k => w'.heap.size ≤ k) (.mk 1 s.data.toList false 0 [] [] [] []) cs)) := Lib.hid (fun hv =>
    ⟨un_ok a1 e1 (by omega) (fun f => by rw [last_one (f := f + 2) (by omega) (by omega) hn, if_pos hv]), un_ok a2 e2 (by omega) (fun f => by rw [last_two (f := f + 2) (by omega) (by omega), if_pos hv])⟩)
  have HNO : Hid (uvalid s.data.toList = false → (∀ w', Calls Tryz.prog 11 #[.string (B1 ++ N3 ++ B7), .int .i64 0] w' fun e w'' => Below w'.heap.size w' w'' ∧ ∃ T y, e = .returned (.tuple #[.agg vzero, .iface T y])) ∧ (∀ w', Calls Tryz.prog 11 #[.string (B7 ++ B1), .int .i64 0] w' fun e w'' => Below w'.heap.size w' w'' ∧ ∃ T y, e = .returned (.tuple #[.agg vzero, .iface T y]))) := Lib.hid (fun hv =>
    ⟨un_err (c := 5) a1 e1 (by omega) (fun f => by rw [last_one (f := f + 2) (by omega) (by omega) hn, if_neg (by rw [hv]; simp)]), un_err (c := 5) a2 e2 (by omega) (fun f => by rw [last_two (f := f + 2) (by omega) (by omega), if_neg (by rw [hv]; simp)])⟩)
  clear hg hsl htl hB1 hN3 hB7 lB1 lN3 lB7 zB1 zN3 zB7 hON lON zON hL1 hOO lOO zOO hL2 hN2 lL1 lL2 lN2 zL1 zL2 zN2 a1 a2 a3 a4 e1 e2 e3 e4 hn hs ht
  cases hv : uvalid s.data.toList with
  | true =>
    have HU1 := Lib.hid (HOK.out hv).1
    have HU2 := Lib.hid (HOK.out hv).2
    have HV := Lib.hid hv
    clear hv
    go_enter Tryz.func8, Tryz.ntmps8
    go_wp2_with fail
    refine (first8 w HG.out).mono ?_; rintro e w1 ⟨rfl, hb⟩
    have HB := Lib.hid hb
    clear hb
    go_wp2_with fail
    refine (HB1.out w1).mono ?_; rintro e w2 ⟨rfl, hb⟩
    have HC2 := Lib.hid (below_step HB.out hb)
    clear hb
    go_wp2_with fail
    refine (HN3.out w2).mono ?_; rintro e w3 ⟨rfl, hb⟩
    have HC3 := Lib.hid (below_step HC2.out hb)
    clear hb
    go_wp2_with fail
    refine (HB7.out w3).mono ?_; rintro e w4 ⟨rfl, hb⟩
    have HC4 := Lib.hid (below_step HC3.out hb)
    clear hb
    go_wp2_with fail
    refine (HU1.out w4).mono ?_; rintro e w5 ⟨hb, cs, rfl, hrel⟩
    rw [VRel] at hrel
    obtain ⟨lo1, lc1, mo1, mc1, rfl, _⟩ := hrel
    unfold strV
    rw [ba_eta]
    have HC5 := Lib.hid (below_step HC4.out hb)
    clear hb
    go_wp2_with fail
    obtain ⟨bx, hbx⟩ : ∃ b, w5.heap.size = b := ⟨_, rfl⟩
    obtain ⟨W6, hW6⟩ : ∃ W, w5.alloc (.cells #[.int .i64 7, .string t, .bool false, .int .u64 0, .slice lo1 0 lc1, .slice mo1 0 mc1, .string ⟨#[]⟩, .string ⟨#[]⟩] 27) = W := ⟨_, rfl⟩
    have HC6 : Hid (Below w.heap.size w W6) := Lib.hid (by rw [← hW6]; exact below_step HC5.out (below_new _ _))
    have HX6 : Hid (W6.heap[bx]? = some (.cells #[.int .i64 7, .string t, .bool false, .int .u64 0, .slice lo1 0 lc1, .slice mo1 0 mc1, .string ⟨#[]⟩, .string ⟨#[]⟩] 27 (0, 0))) := Lib.hid (by rw [← hW6, ← hbx]; exact heap_alloc_new _ _)
    have HI6 : Hid (Below W6.heap.size W6 W6) := Lib.hid (Below.refl _ _)
    rw [hW6, hbx]
    clear hW6 hbx
    refine (HB7.out W6).mono ?_; rintro e w7 ⟨rfl, hb⟩
    have HI7 := Lib.hid (below_step HI6.out hb)
    clear hb
    go_wp2_with fail
    refine (HB1.out w7).mono ?_; rintro e w8 ⟨rfl, hb⟩
    have HI8 := Lib.hid (below_step HI7.out hb)
    clear hb
    go_wp2_with fail
    refine (HU2.out w8).mono ?_; rintro e w9 ⟨hb, cs, rfl, hrel⟩
    rw [VRel] at hrel
    obtain ⟨lo2, lc2, mo2, mc2, rfl, _⟩ := hrel
    unfold strV
    rw [ba_eta]
    have HI9 := Lib.hid (below_step HI8.out hb)
    clear hb
    go_wp2_with fail
    obtain ⟨bY, hbY⟩ : ∃ b, w9.heap.size = b := ⟨_, rfl⟩
    obtain ⟨W10, hW10⟩ : ∃ W, w9.alloc (.cells #[.int .i64 1, .string s, .bool false, .int .u64 0, .slice lo2 0 lc2, .slice mo2 0 mc2, .string ⟨#[]⟩, .string ⟨#[]⟩] 27) = W := ⟨_, rfl⟩
    have HI10 : Hid (Below W6.heap.size W6 W10) := Lib.hid (by rw [← hW10]; exact below_step HI9.out (below_new _ _))
    have HY10 : Hid (W10.heap[bY]? = some (.cells #[.int .i64 1, .string s, .bool false, .int .u64 0, .slice lo2 0 lc2, .slice mo2 0 mc2, .string ⟨#[]⟩, .string ⟨#[]⟩] 27 (0, 0))) := Lib.hid (by rw [← hW10, ← hbY]; exact heap_alloc_new _ _)
    have HX10 : Hid (W10.heap[bx]? = some (.cells #[.int .i64 7, .string t, .bool false, .int .u64 0, .slice lo1 0 lc1, .slice mo1 0 mc1, .string ⟨#[]⟩, .string ⟨#[]⟩] 27 (0, 0))) := Lib.hid ((HI10.out.block _ (row_lt HX6.out)).trans HX6.out)
    rw [hW10, hbY]
    clear hW10 hbY
    refine (HTX.out W10).mono ?_; rintro e w' ⟨rfl, rfl⟩
    rw [HV.out]
    have hx0 : W10.cell? ⟨bx, 0, none⟩ = some (.int .i64 7) := row_cell HX10.out (j := 0) rfl
    have hx1 : W10.cell? ⟨bx, 1, none⟩ = some (.string t) := row_cell HX10.out (j := 1) rfl
    have hx3 : W10.cell? ⟨bx, 3, none⟩ = some (.int .u64 0) := row_cell HX10.out (j := 3) rfl
    have hy0 : W10.cell? ⟨bY, 0, none⟩ = some (.int .i64 1) := row_cell HY10.out (j := 0) rfl
    have hy1 : W10.cell? ⟨bY, 1, none⟩ = some (.string s) := row_cell HY10.out (j := 1) rfl
    go_wp2_with fail
    have HD10 := Lib.hid (below_step HC6.out HI10.out)
    clear hx0 hx1 hx3 hy0 hy1
    refine (HN3.out W10).mono ?_; rintro e w11 ⟨rfl, hb⟩
    have HD11 := Lib.hid (below_step HD10.out hb)
    clear hb
    go_wp2_with fail
    refine (HON.out w11).mono ?_; rintro e w12 ⟨rfl, hb⟩
    have HD12 := Lib.hid (below_step HD11.out hb)
    clear hb
    go_wp2_with fail
    refine (HL1.out w12).mono ?_; rintro e w13 ⟨rfl, hb⟩
    have HD13 := Lib.hid (below_step HD12.out hb)
    clear hb
    go_wp2_with fail
    rw [HOO.out]
    refine (HL2.out w13).mono ?_; rintro e w14 ⟨rfl, hb⟩
    have HD14 := Lib.hid (below_step HD13.out hb)
    clear hb
    go_wp2_with fail
    refine (HZ.out w14).mono ?_; rintro e w15 ⟨hb, cs, rfl, hrel⟩
    rw [VRel] at hrel
    obtain ⟨lz, lcz, mz, mcz, rfl, hrs, _⟩ := hrel
    obtain ⟨gz, oz, rfl, _, hgz, hcz⟩ := vrels_one (n := n) (i := 2) hrs rfl
    have HD15 := Lib.hid (below_step HD14.out hb)
    have HCZ := Lib.hid hcz
    clear hb hrs hcz
    unfold strV
    go_wp2_with fail
    obtain ⟨bz, hbz⟩ : ∃ b, w15.heap.size = b := ⟨_, rfl⟩
    obtain ⟨W16, hW16⟩ : ∃ W, w15.alloc (.cells #[.int .i64 5, .string ⟨#[]⟩, .bool false, .int .u64 0, .slice (some ⟨gz, oz, none⟩) 3 lcz, .slice mz 0 mcz, .string ⟨#[]⟩, .string ⟨#[]⟩] 27) = W := ⟨_, rfl⟩
    have HJ16 : Hid (Below w15.heap.size w15 W16) := Lib.hid (by rw [← hW16]; exact below_new _ _)
    have HZ16 : Hid (W16.heap[bz]? = some (.cells #[.int .i64 5, .string ⟨#[]⟩, .bool false, .int .u64 0, .slice (some ⟨gz, oz, none⟩) 3 lcz, .slice mz 0 mcz, .string ⟨#[]⟩, .string ⟨#[]⟩] 27 (0, 0))) := Lib.hid (by rw [← hW16, ← hbz]; exact heap_alloc_new _ _)
    have HS16 : Hid (w15.heap.size ≤ W16.heap.size) := Lib.hid HJ16.out.size
    have HK16 : Hid (Below W16.heap.size W16 W16) := Lib.hid (Below.refl _ _)
    rw [hW16, hbz]
    clear hW16 hbz
    refine (HL1.out W16).mono ?_; rintro e w17 ⟨rfl, hb⟩
    have HK17 := Lib.hid (below_step HK16.out hb)
    clear hb
    go_wp2_with fail
    refine (HN2.out w17).mono ?_; rintro e w18 ⟨rfl, hb⟩
    have HK18 := Lib.hid (below_step HK17.out hb)
    clear hb
    go_wp2_with fail
    refine (HL1.out w18).mono ?_; rintro e w19 ⟨rfl, hb⟩
    have HK19 := Lib.hid (below_step HK18.out hb)
    clear hb
    go_wp2_with fail
    refine (HW.out w19).mono ?_; rintro e w20 ⟨hb, cs, rfl, hrel⟩
    rw [VRel] at hrel
    obtain ⟨lw, lcw, mw, mcw, rfl, _⟩ := hrel
    have HK20 := Lib.hid (below_step HK19.out hb)
    clear hb
    unfold strV
    go_wp2_with fail
    obtain ⟨bw, hbw⟩ : ∃ b, w20.heap.size = b := ⟨_, rfl⟩
    obtain ⟨W21, hW21⟩ : ∃ W, w20.alloc (.cells #[.int .i64 5, .string ⟨#[]⟩, .bool false, .int .u64 0, .slice lw 1 lcw, .slice mw 0 mcw, .string ⟨#[]⟩, .string ⟨#[]⟩] 27) = W := ⟨_, rfl⟩
    have HK21 : Hid (Below W16.heap.size W16 W21) := Lib.hid (by rw [← hW21]; exact below_step HK20.out (below_new _ _))
    have HW21 : Hid (W21.heap[bw]? = some (.cells #[.int .i64 5, .string ⟨#[]⟩, .bool false, .int .u64 0, .slice lw 1 lcw, .slice mw 0 mcw, .string ⟨#[]⟩, .string ⟨#[]⟩] 27 (0, 0))) := Lib.hid (by rw [← hW21, ← hbw]; exact heap_alloc_new _ _)
    rw [hW21, hbw]
    clear hW21 hbw
    have HALL := Lib.hid (below_step HD15.out (below_step HJ16.out HK21.out))
    refine (first8 W21 (HG.out.below HALL.out)).mono ?_; rintro e w22 ⟨rfl, hb⟩
    have HK22 := Lib.hid (below_step HK21.out hb)
    have HEND := Lib.hid (below_step HALL.out hb)
    have hz0 : w22.cell? ⟨bz, 0, none⟩ = some (.int .i64 5) := row_cell ((HK22.out.block _ (row_lt HZ16.out)).trans HZ16.out) (j := 0) rfl
    have hz4 : w22.cell? ⟨bz, 4, none⟩ = some (.slice (some ⟨gz, oz, none⟩) 3 lcz) := row_cell ((HK22.out.block _ (row_lt HZ16.out)).trans HZ16.out) (j := 4) rfl
    have hw0 : w22.cell? ⟨bw, 0, none⟩ = some (.int .i64 5) := row_cell ((hb.block _ (row_lt HW21.out)).trans HW21.out) (j := 0) rfl
    have hw2 : w22.cell? ⟨bw, 2, none⟩ = some (.bool false) := row_cell ((hb.block _ (row_lt HW21.out)).trans HW21.out) (j := 2) rfl
    have hw4 : w22.cell? ⟨bw, 4, none⟩ = some (.slice lw 1 lcw) := row_cell ((hb.block _ (row_lt HW21.out)).trans HW21.out) (j := 4) rfl
    have hzn : w22.cell? ⟨gz, oz + 8 * (0 + 2) + 3, none⟩ = some (.int .u64 (n : Int)) := by
      have h1 := HJ16.out.cell (p := ⟨gz, oz + 8 * (0 + 2) + 3, none⟩) hgz
      have h2 := HK22.out.cell (p := ⟨gz, oz + 8 * (0 + 2) + 3, none⟩) (by have := HS16.out; show gz < _; omega)
      rw [h2, h1]
      exact HCZ.out
    have hzn2 : w22.cell? ⟨gz, oz + 16 + 3, none⟩ = some (.int .u64 (n : Int)) := hzn
    have hzn3 : w22.cell? ⟨gz, oz + 2 * 8 + 3, none⟩ = some (.int .u64 (n : Int)) := hzn
    clear hb hzn
    go_wp2_with fail
    go_ret
    exact ⟨rfl, HEND.out⟩
  | false =>
    have HU1 := Lib.hid (HNO.out hv).1
    have HU2 := Lib.hid (HNO.out hv).2
    have HV := Lib.hid hv
    clear hv
    go_enter Tryz.func8, Tryz.ntmps8
    go_wp2_with fail
    refine (first8 w HG.out).mono ?_; rintro e w1 ⟨rfl, hb⟩
    have HB := Lib.hid hb
    clear hb
    go_wp2_with fail
    refine (HB1.out w1).mono ?_; rintro e w2 ⟨rfl, hb⟩
    have HC2 := Lib.hid (below_step HB.out hb)
    clear hb
    go_wp2_with fail
    refine (HN3.out w2).mono ?_; rintro e w3 ⟨rfl, hb⟩
    have HC3 := Lib.hid (below_step HC2.out hb)
    clear hb
    go_wp2_with fail
    refine (HB7.out w3).mono ?_; rintro e w4 ⟨rfl, hb⟩
    have HC4 := Lib.hid (below_step HC3.out hb)
    clear hb
    go_wp2_with fail
    refine (HU1.out w4).mono ?_; rintro e w5 ⟨hb, T1, y1, rfl⟩
    unfold vzero
    have HC5 := Lib.hid (below_step HC4.out hb)
    clear hb
    go_wp2_with fail
    obtain ⟨bx, hbx⟩ : ∃ b, w5.heap.size = b := ⟨_, rfl⟩
    obtain ⟨W6, hW6⟩ : ∃ W, w5.alloc (.cells #[.int .i64 0, .string ⟨#[]⟩, .bool false, .int .u64 0, .slice none 0 0, .slice none 0 0, .string ⟨#[]⟩, .string ⟨#[]⟩] 27) = W := ⟨_, rfl⟩
    have HC6 : Hid (Below w.heap.size w W6) := Lib.hid (by rw [← hW6]; exact below_step HC5.out (below_new _ _))
    have HX6 : Hid (W6.heap[bx]? = some (.cells #[.int .i64 0, .string ⟨#[]⟩, .bool false, .int .u64 0, .slice none 0 0, .slice none 0 0, .string ⟨#[]⟩, .string ⟨#[]⟩] 27 (0, 0))) := Lib.hid (by rw [← hW6, ← hbx]; exact heap_alloc_new _ _)
    have HI6 : Hid (Below W6.heap.size W6 W6) := Lib.hid (Below.refl _ _)
    rw [hW6, hbx]
    clear hW6 hbx
    refine (HB7.out W6).mono ?_; rintro e w7 ⟨rfl, hb⟩
    have HI7 := Lib.hid (below_step HI6.out hb)
    clear hb
    go_wp2_with fail
    refine (HB1.out w7).mono ?_; rintro e w8 ⟨rfl, hb⟩
    have HI8 := Lib.hid (below_step HI7.out hb)
    clear hb
    go_wp2_with fail
    refine (HU2.out w8).mono ?_; rintro e w9 ⟨hb, T2, y2, rfl⟩
    unfold vzero
    have HI9 := Lib.hid (below_step HI8.out hb)
    clear hb
    go_wp2_with fail
    obtain ⟨bY, hbY⟩ : ∃ b, w9.heap.size = b := ⟨_, rfl⟩
    obtain ⟨W10, hW10⟩ : ∃ W, w9.alloc (.cells #[.int .i64 0, .string ⟨#[]⟩, .bool false, .int .u64 0, .slice none 0 0, .slice none 0 0, .string ⟨#[]⟩, .string ⟨#[]⟩] 27) = W := ⟨_, rfl⟩
    have HI10 : Hid (Below W6.heap.size W6 W10) := Lib.hid (by rw [← hW10]; exact below_step HI9.out (below_new _ _))
    have HY10 : Hid (W10.heap[bY]? = some (.cells #[.int .i64 0, .string ⟨#[]⟩, .bool false, .int .u64 0, .slice none 0 0, .slice none 0 0, .string ⟨#[]⟩, .string ⟨#[]⟩] 27 (0, 0))) := Lib.hid (by rw [← hW10, ← hbY]; exact heap_alloc_new _ _)
    have HX10 : Hid (W10.heap[bx]? = some (.cells #[.int .i64 0, .string ⟨#[]⟩, .bool false, .int .u64 0, .slice none 0 0, .slice none 0 0, .string ⟨#[]⟩, .string ⟨#[]⟩] 27 (0, 0))) := Lib.hid ((HI10.out.block _ (row_lt HX6.out)).trans HX6.out)
    rw [hW10, hbY]
    clear hW10 hbY
    refine (HTX.out W10).mono ?_; rintro e w' ⟨rfl, rfl⟩
    rw [HV.out]
    go_wp2_with fail
    have HD10 := Lib.hid (below_step HC6.out HI10.out)
    refine (HN3.out W10).mono ?_; rintro e w11 ⟨rfl, hb⟩
    have HD11 := Lib.hid (below_step HD10.out hb)
    clear hb
    go_wp2_with fail
    refine (HON.out w11).mono ?_; rintro e w12 ⟨rfl, hb⟩
    have HD12 := Lib.hid (below_step HD11.out hb)
    clear hb
    go_wp2_with fail
    refine (HL1.out w12).mono ?_; rintro e w13 ⟨rfl, hb⟩
    have HD13 := Lib.hid (below_step HD12.out hb)
    clear hb
    go_wp2_with fail
    rw [HOO.out]
    refine (HL2.out w13).mono ?_; rintro e w14 ⟨rfl, hb⟩
    have HD14 := Lib.hid (below_step HD13.out hb)
    clear hb
    go_wp2_with fail
    refine (HZ.out w14).mono ?_; rintro e w15 ⟨hb, cs, rfl, hrel⟩
    rw [VRel] at hrel
    obtain ⟨lz, lcz, mz, mcz, rfl, hrs, _⟩ := hrel
    obtain ⟨gz, oz, rfl, _, hgz, hcz⟩ := vrels_one (n := n) (i := 2) hrs rfl
    have HD15 := Lib.hid (below_step HD14.out hb)
    have HCZ := Lib.hid hcz
    clear hb hrs hcz
    unfold strV
    go_wp2_with fail
    obtain ⟨bz, hbz⟩ : ∃ b, w15.heap.size = b := ⟨_, rfl⟩
    obtain ⟨W16, hW16⟩ : ∃ W, w15.alloc (.cells #[.int .i64 5, .string ⟨#[]⟩, .bool false, .int .u64 0, .slice (some ⟨gz, oz, none⟩) 3 lcz, .slice mz 0 mcz, .string ⟨#[]⟩, .string ⟨#[]⟩] 27) = W := ⟨_, rfl⟩
    have HJ16 : Hid (Below w15.heap.size w15 W16) := Lib.hid (by rw [← hW16]; exact below_new _ _)
    have HZ16 : Hid (W16.heap[bz]? = some (.cells #[.int .i64 5, .string ⟨#[]⟩, .bool false, .int .u64 0, .slice (some ⟨gz, oz, none⟩) 3 lcz, .slice mz 0 mcz, .string ⟨#[]⟩, .string ⟨#[]⟩] 27 (0, 0))) := Lib.hid (by rw [← hW16, ← hbz]; exact heap_alloc_new _ _)
    have HS16 : Hid (w15.heap.size ≤ W16.heap.size) := Lib.hid HJ16.out.size
    have HK16 : Hid (Below W16.heap.size W16 W16) := Lib.hid (Below.refl _ _)
    rw [hW16, hbz]
    clear hW16 hbz
    refine (HL1.out W16).mono ?_; rintro e w17 ⟨rfl, hb⟩
    have HK17 := Lib.hid (below_step HK16.out hb)
    clear hb
    go_wp2_with fail
    refine (HN2.out w17).mono ?_; rintro e w18 ⟨rfl, hb⟩
    have HK18 := Lib.hid (below_step HK17.out hb)
    clear hb
    go_wp2_with fail
    refine (HL1.out w18).mono ?_; rintro e w19 ⟨rfl, hb⟩
    have HK19 := Lib.hid (below_step HK18.out hb)
    clear hb
    go_wp2_with fail
    refine (HW.out w19).mono ?_; rintro e w20 ⟨hb, cs, rfl, hrel⟩
    rw [VRel] at hrel
    obtain ⟨lw, lcw, mw, mcw, rfl, _⟩ := hrel
    have HK20 := Lib.hid (below_step HK19.out hb)
    clear hb
    unfold strV
    go_wp2_with fail
    obtain ⟨bw, hbw⟩ : ∃ b, w20.heap.size = b := ⟨_, rfl⟩
    obtain ⟨W21, hW21⟩ : ∃ W, w20.alloc (.cells #[.int .i64 5, .string ⟨#[]⟩, .bool false, .int .u64 0, .slice lw 1 lcw, .slice mw 0 mcw, .string ⟨#[]⟩, .string ⟨#[]⟩] 27) = W := ⟨_, rfl⟩
    have HK21 : Hid (Below W16.heap.size W16 W21) := Lib.hid (by rw [← hW21]; exact below_step HK20.out (below_new _ _))
    have HW21 : Hid (W21.heap[bw]? = some (.cells #[.int .i64 5, .string ⟨#[]⟩, .bool false, .int .u64 0, .slice lw 1 lcw, .slice mw 0 mcw, .string ⟨#[]⟩, .string ⟨#[]⟩] 27 (0, 0))) := Lib.hid (by rw [← hW21, ← hbw]; exact heap_alloc_new _ _)
    rw [hW21, hbw]
    clear hW21 hbw
    have HALL := Lib.hid (below_step HD15.out (below_step HJ16.out HK21.out))
    refine (first8 W21 (HG.out.below HALL.out)).mono ?_; rintro e w22 ⟨rfl, hb⟩
    have HK22 := Lib.hid (below_step HK21.out hb)
    have HEND := Lib.hid (below_step HALL.out hb)
    have hz0 : w22.cell? ⟨bz, 0, none⟩ = some (.int .i64 5) := row_cell ((HK22.out.block _ (row_lt HZ16.out)).trans HZ16.out) (j := 0) rfl
    have hz4 : w22.cell? ⟨bz, 4, none⟩ = some (.slice (some ⟨gz, oz, none⟩) 3 lcz) := row_cell ((HK22.out.block _ (row_lt HZ16.out)).trans HZ16.out) (j := 4) rfl
    have hw0 : w22.cell? ⟨bw, 0, none⟩ = some (.int .i64 5) := row_cell ((hb.block _ (row_lt HW21.out)).trans HW21.out) (j := 0) rfl
    have hw2 : w22.cell? ⟨bw, 2, none⟩ = some (.bool false) := row_cell ((hb.block _ (row_lt HW21.out)).trans HW21.out) (j := 2) rfl
    have hw4 : w22.cell? ⟨bw, 4, none⟩ = some (.slice lw 1 lcw) := row_cell ((hb.block _ (row_lt HW21.out)).trans HW21.out) (j := 4) rfl
    have hzn : w22.cell? ⟨gz, oz + 8 * (0 + 2) + 3, none⟩ = some (.int .u64 (n : Int)) := by
      have h1 := HJ16.out.cell (p := ⟨gz, oz + 8 * (0 + 2) + 3, none⟩) hgz
      have h2 := HK22.out.cell (p := ⟨gz, oz + 8 * (0 + 2) + 3, none⟩) (by have := HS16.out; show gz < _; omega)
      rw [h2, h1]
      exact HCZ.out
    have hzn2 : w22.cell? ⟨gz, oz + 16 + 3, none⟩ = some (.int .u64 (n : Int)) := hzn
    have hzn3 : w22.cell? ⟨gz, oz + 2 * 8 + 3, none⟩ = some (.int .u64 (n : Int)) := hzn
    clear hb hzn
    go_wp2_with fail
    go_ret
    exact ⟨rfl, HEND.out⟩
set_option maxRecDepth 1000000 in
set_option maxHeartbeats 8000000 in
theorem last_any (s t : ByteArray) (n : Int) (w : World) (hn : 0 ≤ n ∧ n < 18446744073709551616) (hg : Glob w) :
    Calls Tryz.prog 8 #[.string s, .string t, .int .u64 n] w fun e w' => e = .returned (.bool true) ∧ Below w.heap.size w w' := by
  obtain ⟨m, rfl⟩ : ∃ m : Nat, n = (m : Int) := ⟨n.toNat, by omega⟩
  by_cases hc : s.size ≤ 1000 ∧ t.size ≤ 1000
  · exact last_walk s t m w hc.1 hc.2 (by omega) hg
  · have main : ∀ (b1 b2 : Bool), decide ((1000 : Int) < (s.size : Int)) = b1 → decide ((1000 : Int) < (t.size : Int)) = b2 → (b1 || b2) = true → Calls Tryz.prog 8 #[.string s, .string t, .int .u64 (m : Int)] w fun e w' => e = .returned (.bool true) ∧ Below w.heap.size w w' := by
      intro b1 b2 h1 h2 hb
      have HG := Lib.hid hg
      clear hc hg hn
      cases b1 <;> cases b2 <;> try cases hb
      all_goals go_enter Tryz.func8, Tryz.ntmps8
      all_goals go_wp2_with fail
      all_goals refine (first8 w HG.out).mono ?_
      all_goals rintro e w1 ⟨rfl, hb1⟩
      all_goals have HB1 := Lib.hid hb1
      all_goals clear hb1
      all_goals go_wp2_with fail
      all_goals refine (first8 w1 (HG.out.below HB1.out)).mono ?_
      all_goals rintro e w2 ⟨rfl, hb2⟩
      all_goals have HB2 := Lib.hid (below_step HB1.out hb2)
      all_goals clear hb2
      all_goals go_wp2_with fail
      all_goals go_ret
      all_goals exact ⟨rfl, HB2.out⟩
    refine main _ _ rfl rfl ?_
    rw [Bool.or_eq_true, decide_eq_true_iff, decide_eq_true_iff]
    omega
end Go.Proofs.YteknippgiljgeaaGreatDoor
