/-
  hyglaw14.BucketsDeep.
-/
import Derived.Test.YtdokbooggbiciaaGreatDoorBukRef
import Derived.Test.YtdokbooggbiciaaGreatDoorNest
import Derived.Test.YtdokbooggbiciaaGreatDoorDoor
namespace Go.Proofs.YtdokbooggbiciaaGreatDoor
open Go.RowKit

theorem ub_bad {s : ByteArray} {d : Int} {c : Nat} (w : World) (hs : s.size ≤ 1000000) (hb : bread s.data.toList d = .error c) :
    Calls Tryz.prog 7 #[.string s, .int .i64 d] w fun e w' => Below w.heap.size w w' ∧ ∃ T y, e = .returned (.tuple #[.agg #[.int .i32 0, .slice none 0 0, .string ⟨#[]⟩], .iface T y]) ∧ EC w' (.iface T y) c := by
  refine (ub_any s d w hs).mono ?_
  rintro e w' ⟨h1, hcase⟩
  rw [hb] at hcase
  obtain ⟨v, q, rfl, hq, hew⟩ := hcase
  obtain ⟨T, y, rfl⟩ := hew.iface
  exact ⟨h1, T, y, rfl, hew.ec⟩
theorem ub_good {s : ByteArray} {d : Int} {x : Bk} {u : List UInt8} {S : ByteArray} (w : World) (hs : s.size ≤ 1000000) (hb : bread s.data.toList d = .ok (x, u)) (hS : (⟨u.toArray⟩ : ByteArray) = S) :
    Calls Tryz.prog 7 #[.string s, .int .i64 d] w fun e w' => Below w.heap.size w w' ∧ ∃ ao cap, e = .returned (.tuple #[.agg #[.int .i32 x.off, .slice ao x.cs.length cap, .string S], .nilIface]) := by
  refine (ub_any s d w hs).mono ?_
  rintro e w' ⟨h1, hcase⟩
  rw [hb] at hcase
  obtain ⟨v, rfl, hown⟩ := hcase
  obtain ⟨ao, cap, rfl⟩ := own_slice hown
  exact ⟨h1, ao, cap, by unfold bukV; rw [hS]⟩
theorem bread_then_err {l t : List UInt8} {d : Int} {c : Nat} {x : Bk × List UInt8} (h : bread l d = .ok x) (ht : wall t d = .error c) : bread (l ++ t) d = .error c := mread_then_err h ht
theorem tag_at (num kind : Nat) (w : World) {T : ByteArray} (h1 : 1 ≤ num) (h2 : num ≤ 536870911) (h3 : kind ≤ 5) (hT : (⟨(vput (8 * num + kind)).toArray⟩ : ByteArray) = T) :
    Calls Tryz.prog 18 #[.int .i64 (num : Int), .int .i64 (kind : Int)] w fun e w' => e = .returned (.string T) ∧ Below w.heap.size w w' := by
  have := tag_any (num : Int) (kind : Int) w (by omega) (by omega) (by omega) (by omega)
  rw [wtag_ok h1 h2 h3, hT] at this
  exact this
set_option maxRecDepth 1000000 in
set_option maxHeartbeats 8000000 in
theorem deep_walk14 (s : ByteArray) (n : Nat) (w : World) (hs : s.size ≤ 6000) (hn : n ≤ 100) (hg : Glob w) :
    Calls Tryz.prog 5 #[.string s, .int .i64 (n : Int)] w fun e w' => e = .returned (.bool true) ∧ Below w.heap.size w w' := by
  have HG := Lib.hid hg
  have HSS := Lib.hid hs
  have HNN := Lib.hid hn
  have HUB := Lib.hid (fun w' => ub_any s (n : Int) w' (by omega))
  have d0 : decide ((6000 : Int) < (s.size : Int)) = false := decide_eq_false (by omega)
  have d1 : decide ((n : Int) < 0) = false := decide_eq_false (by omega)
  have d2 : decide ((100 : Int) < (n : Int)) = false := decide_eq_false (by omega)
  have hTB : ∃ T : ByteArray, (⟨(vput (8 * 90 + 3)).toArray⟩ : ByteArray) = T := ⟨_, rfl⟩
  have hTE : ∃ T : ByteArray, (⟨(vput (8 * 90 + 4)).toArray⟩ : ByteArray) = T := ⟨_, rfl⟩
  have hTC : ∃ T : ByteArray, (⟨(vput (8 * 91 + 3)).toArray⟩ : ByteArray) = T := ⟨_, rfl⟩
  have hTD : ∃ T : ByteArray, (⟨(vput (8 * 91 + 4)).toArray⟩ : ByteArray) = T := ⟨_, rfl⟩
  have hTF : ∃ T : ByteArray, (⟨(vput (8 * 92 + 4)).toArray⟩ : ByteArray) = T := ⟨_, rfl⟩
  obtain ⟨TB, hTB⟩ := hTB
  obtain ⟨TE, hTE⟩ := hTE
  obtain ⟨TC, hTC⟩ := hTC
  obtain ⟨TD, hTD⟩ := hTD
  obtain ⟨TF, hTF⟩ := hTF
  have HTB := Lib.hid (fun w' => tag_at 90 3 w' (by omega) (by omega) (by omega) hTB)
  have HTE := Lib.hid (fun w' => tag_at 90 4 w' (by omega) (by omega) (by omega) hTE)
  have HTC := Lib.hid (fun w' => tag_at 91 3 w' (by omega) (by omega) (by omega) hTC)
  have HTD := Lib.hid (fun w' => tag_at 91 4 w' (by omega) (by omega) (by omega) hTD)
  have HTF := Lib.hid (fun w' => tag_at 92 4 w' (by omega) (by omega) (by omega) hTF)
  have zB : TB.size = 2 := by rw [← hTB]; decide +kernel
  have zE : TE.size = 2 := by rw [← hTE]; decide +kernel
  have zC : TC.size = 2 := by rw [← hTC]; decide +kernel
  have zD : TD.size = 2 := by rw [← hTD]; decide +kernel
  have zF : TF.size = 2 := by rw [← hTF]; decide +kernel
  have lB : Hid (TB.data.toList = vput (8 * 90 + 3)) := Lib.hid (by rw [← hTB])
  have lE : Hid (TE.data.toList = vput (8 * 90 + 4)) := Lib.hid (by rw [← hTE])
  have lC : Hid (TC.data.toList = vput (8 * 91 + 3)) := Lib.hid (by rw [← hTC])
  have lD : Hid (TD.data.toList = vput (8 * 91 + 4)) := Lib.hid (by rw [← hTD])
  have lF : Hid (TF.data.toList = vput (8 * 92 + 4)) := Lib.hid (by rw [← hTF])
  have HZ := Lib.hid (And.intro zB (And.intro zE (And.intro zC (And.intro zD zF))))
  clear hg hTB hTE hTC hTD hTF zB zE zC zD zF
  go_enter Tryz.func5, Tryz.ntmps5
  go_wp2_with fail
  refine (first14 w).mono ?_; rintro e w1 ⟨rfl, hb1⟩
  have HB1 := Lib.hid hb1
  clear hb1
  go_wp2_with fail
  refine (HUB.out w1).mono ?_; intro e w2 hpost
  obtain ⟨hb2, hcase⟩ := hpost
  have HB2 := Lib.hid (below_step HB1.out hb2)
  clear hb2 HUB
  cases hbr : bread s.data.toList (n : Int) with
  | error c =>
    rw [hbr] at hcase
    obtain ⟨v, q, rfl, hq, hew⟩ := hcase
    obtain ⟨T, y, rfl⟩ := hew.iface
    clear hew hq hbr
    unfold bukV
    go_wp2_with fail
    obtain ⟨W3, hW3⟩ : ∃ W, w2.alloc (.cells #[.int .i32 ((⟨0, []⟩ : Bk).off), .slice none 0 0, .string ⟨([] : List UInt8).toArray⟩] 25) = W := ⟨_, rfl⟩
    have HB3 : Hid (Below w.heap.size w W3) := Lib.hid (by rw [← hW3]; exact below_step HB2.out (below_new _ _))
    first | rw [hW3] | skip
    refine (first14 _).mono ?_; rintro e w4 ⟨rfl, hb4⟩
    have HB4 := Lib.hid hb4
    clear hb4
    go_wp2_with fail
    go_ret
    exact ⟨rfl, below_step (by first | exact HB3.out | exact (hW3 ▸ HB3.out)) HB4.out⟩
  | ok xu =>
    obtain ⟨x, u⟩ := xu
    rw [hbr] at hcase
    obtain ⟨v, rfl, hown⟩ := hcase
    obtain ⟨ao, cap, rfl⟩ := own_slice hown
    have HUL : Hid (u.length ≤ s.size) := Lib.hid (by have := bread_unk hbr; have h5 : s.data.toList.length = s.size := (by simp); omega)
    obtain ⟨S, hS⟩ : ∃ S : ByteArray, (⟨u.toArray⟩ : ByteArray) = S := ⟨_, rfl⟩
    have HSD : Hid (S.data.toList = u) := Lib.hid (by rw [← hS])
    have hSz : S.size ≤ 6000 := by have h1 : S.size = u.length := by rw [← HSD.out]; simp
                                   have := HUL.out; omega
    have HT := gnest_read (tk := btk) (step := bstep) ⟨0, []⟩ (fun r hr => by unfold btk; simp [hr]) n (d := (n : Int)) (Int.le_refl _)
    obtain ⟨z, hz, -, -⟩ := bread_join hbr HT
    have HJ := Lib.hid hz
    have HBR := Lib.hid hbr
    unfold bukV
    rw [hS]
    clear hown hbr HT hz hS
    go_wp2_with fail
    obtain ⟨bx, hbx⟩ : ∃ bx, w2.heap.size = bx := ⟨_, rfl⟩
    obtain ⟨W3, hW3⟩ : ∃ W, w2.alloc (.cells #[.int .i32 x.off, .slice ao x.cs.length cap, .string S] 25) = W := ⟨_, rfl⟩
    have HB3 : Hid (Below w.heap.size w W3) := Lib.hid (by rw [← hW3]; exact below_step HB2.out (below_new _ _))
    have HX3 : Hid (W3.heap[bx]? = some (.cells #[.int .i32 x.off, .slice ao x.cs.length cap, .string S] 25 (0, 0))) := Lib.hid (by rw [← hW3, ← hbx]; exact heap_alloc_new _ _)
    rw [hW3, hbx]
    clear hW3 hbx
    go_loopg [7, 8] n (fun k sv i wr => ∃ (j : Nat) (U : ByteArray), j + k = n ∧ i = .int .i64 (j : Int) ∧ sv = .string U ∧ Hid (U.data.toList = gnest j) ∧ Below W3.heap.size W3 wr)
    case atStart => exact ⟨0, ⟨#[]⟩, by omega, rfl, rfl, Lib.hid rfl, Below.refl _ _⟩
    case round =>
      obtain ⟨j, U, hj, rfl, rfl, HU, hbr⟩ := hrel
      have HB := Lib.hid hbr
      have HJJ := Lib.hid hj
      have hjn : j ≤ 100 := by have := HNN.out; omega
      have hUz : U.size = 4 * j := by have h1 : U.size = (gnest j).length := by rw [← HU.out]; simp
                                      rw [h1, gnest_len]
      have hUs : U.size ≤ 400 := by omega
      clear hj hbr hUz
      by_cases hlt : j < n
      · have q1 : ¬ 9223372036854775807 < TB.size + U.size := by have := HZ.out; omega
        have q2 : ¬ 9223372036854775807 < (TB ++ U).size + TE.size := by rw [ByteArray.size_append]; have := HZ.out; omega
        go_wp2_with fail
        refine (HTB.out wr).mono ?_; rintro e w4 ⟨rfl, hb4⟩
        have HB4 := Lib.hid (below_step HB.out hb4)
        clear hb4
        go_wp2_with fail
        refine (HTE.out w4).mono ?_; rintro e w5 ⟨rfl, hb5⟩
        have HB5 := Lib.hid (below_step HB4.out hb5)
        clear hb5
        go_wp2_with fail
        have hj := HJJ.out
        go_roundg (gk - 1)
        case measure => omega
        case rel => exact ⟨j + 1, TB ++ U ++ TE, by omega, by simp, rfl, Lib.hid (by rw [gnest]; simp [lB.out, lE.out, HU.out]), HB5.out⟩
      · have hjn2 : j = n := by have := HJJ.out; omega
        have HX4 : Hid (wr.heap[bx]? = some (.cells #[.int .i32 x.off, .slice ao x.cs.length cap, .string S] 25 (0, 0))) := Lib.hid ((HB.out.block _ (row_lt HX3.out)).trans HX3.out)
        rw [hjn2] at HU
        have zz := HZ.out
        have z1 : (s ++ U).size = s.size + U.size := ByteArray.size_append ..
        have z2 : (s ++ TC).size = s.size + TC.size := ByteArray.size_append ..
        have z3 : (s ++ TC ++ U).size = s.size + TC.size + U.size := by rw [ByteArray.size_append, z2]
        have z4 : (s ++ TC ++ U ++ TD).size = s.size + TC.size + U.size + TD.size := by rw [ByteArray.size_append, z3]
        have z5 : (s ++ TB).size = s.size + TB.size := ByteArray.size_append ..
        have z6 : (s ++ TB ++ TF).size = s.size + TB.size + TF.size := by rw [ByteArray.size_append, z5]
        have e1 : (s ++ U).data.toList = s.data.toList ++ gnest n := by simp [HU.out]
        have e2 : (s ++ TC ++ U ++ TD).data.toList = s.data.toList ++ (vput (8 * 91 + 3) ++ (gnest n ++ vput (8 * 91 + 4))) := by simp [HU.out, lC.out, lD.out]
        have e3 : (s ++ TB).data.toList = s.data.toList ++ vput (8 * 90 + 3) := by simp [lB.out]
        have e4 : (s ++ TB ++ TF).data.toList = s.data.toList ++ (vput (8 * 90 + 3) ++ vput (8 * 92 + 4)) := by simp [lB.out, lF.out]
        obtain ⟨c3, hc3⟩ := gnest_open (n : Int)
        obtain ⟨c4, hc4⟩ := gnest_other (n : Int)
        have hSU : (⟨(u ++ gnest n).toArray⟩ : ByteArray) = S ++ U := ByteArray.ext (Array.ext' (by simp [HSD.out, HU.out]))
        have H1 := Lib.hid (fun w' => ub_good (s := s ++ U) (d := (n : Int)) w' (by omega) (by rw [e1]; exact HJ.out) hSU)
        have H2 := Lib.hid (fun w' => ub_bad (s := s ++ TC ++ U ++ TD) (d := (n : Int)) w' (by omega) (by rw [e2]; exact bread_then_err HBR.out (gnest_too n _ (Int.le_refl _))))
        have H3 := Lib.hid (fun w' => ub_bad (s := s ++ TB) (d := (n : Int)) w' (by omega) (by rw [e3]; exact bread_then_err HBR.out hc3))
        have H4 := Lib.hid (fun w' => ub_bad (s := s ++ TB ++ TF) (d := (n : Int)) w' (by omega) (by rw [e4]; exact bread_then_err HBR.out hc4))
        have q1 : ¬ 9223372036854775807 < s.size + U.size := by omega
        have q2 : ¬ 9223372036854775807 < s.size + TC.size := by omega
        have q3 : ¬ 9223372036854775807 < (s ++ TC).size + U.size := by omega
        have q4 : ¬ 9223372036854775807 < (s ++ TC ++ U).size + TD.size := by omega
        have q5 : ¬ 9223372036854775807 < s.size + TB.size := by omega
        have q6 : ¬ 9223372036854775807 < (s ++ TB).size + TF.size := by omega
        have q7 : ¬ 9223372036854775807 < S.size + U.size := by omega
        have HB4 := Lib.hid (below_step HB3.out HB.out)
        clear e1 e2 e3 e4 z1 z2 z3 z4 z5 z6 zz hc3 hc4 hSU hjn2
        go_wp2_with fail
        refine (H1.out wr).mono ?_; rintro e w5 ⟨hb, bo, bcap, rfl⟩
        have HB5 := Lib.hid (below_step HB4.out hb)
        have HX5 : Hid (w5.heap[bx]? = some (.cells #[.int .i32 x.off, .slice ao x.cs.length cap, .string S] 25 (0, 0))) := Lib.hid ((hb.block _ (row_lt HX4.out)).trans HX4.out)
        clear hb
        go_wp2_with fail
        obtain ⟨bY, hbY⟩ : ∃ bx, w5.heap.size = bx := ⟨_, rfl⟩
        obtain ⟨W6, hW6⟩ : ∃ W, w5.alloc (.cells #[.int .i32 z.off, .slice bo z.cs.length bcap, .string (S ++ U)] 25) = W := ⟨_, rfl⟩
        have HB6 : Hid (Below w.heap.size w W6) := Lib.hid (by rw [← hW6]; exact below_step HB5.out (below_new _ _))
        have HD6 : Hid (bx < bY ∧ W6.heap[bx]? = some (.cells #[.int .i32 x.off, .slice ao x.cs.length cap, .string S] 25 (0, 0)) ∧ W6.heap[bY]? = some (.cells #[.int .i32 z.off, .slice bo z.cs.length bcap, .string (S ++ U)] 25 (0, 0))) := Lib.hid (by rw [← hW6, ← hbY]; exact ⟨row_lt HX5.out, (Below.heap_alloc _ _ _ (row_lt HX5.out)).trans HX5.out, heap_alloc_new _ _⟩)
        rw [hW6, hbY]
        clear hW6 hbY
        refine (HTC.out W6).mono ?_; rintro e w7 ⟨rfl, hb7⟩
        have HB67 := Lib.hid hb7
        clear hb7
        go_wp2_with fail
        refine (HTD.out w7).mono ?_; rintro e w8 ⟨rfl, hb8⟩
        have HB68 := Lib.hid (below_step HB67.out hb8)
        clear hb8
        go_wp2_with fail
        refine (H2.out w8).mono ?_; rintro e w9 ⟨hb9, T2, y2, rfl, hec⟩
        have HB69 := Lib.hid (below_step HB68.out hb9)
        have HEC := Lib.hid hec
        clear hb9 hec
        go_wp2_with fail
        obtain ⟨W10, hW10⟩ : ∃ W, w9.alloc (.cells #[.int .i32 0, .slice none 0 0, .string ⟨#[]⟩] 25) = W := ⟨_, rfl⟩
        have HBA : Hid (Below w9.heap.size w9 W10) := Lib.hid (by rw [← hW10]; exact below_new _ _)
        rw [hW10]
        clear hW10
        refine (HTB.out W10).mono ?_; rintro e w11 ⟨rfl, hb11⟩
        have HBB := Lib.hid (below_step HBA.out hb11)
        clear hb11
        go_wp2_with fail
        refine (H3.out w11).mono ?_; rintro e w12 ⟨hb12, T3, y3, rfl, _⟩
        have HBC := Lib.hid (below_step HBB.out hb12)
        clear hb12
        go_wp2_with fail
        obtain ⟨W13, hW13⟩ : ∃ W, w12.alloc (.cells #[.int .i32 0, .slice none 0 0, .string ⟨#[]⟩] 25) = W := ⟨_, rfl⟩
        have HBD : Hid (Below w9.heap.size w9 W13) := Lib.hid (by rw [← hW13]; exact below_step HBC.out (below_new _ _))
        rw [hW13]
        clear hW13
        refine (HTB.out W13).mono ?_; rintro e w14 ⟨rfl, hb14⟩
        have HBE := Lib.hid (below_step HBD.out hb14)
        clear hb14
        go_wp2_with fail
        refine (HTF.out w14).mono ?_; rintro e w15 ⟨rfl, hb15⟩
        have HBF := Lib.hid (below_step HBE.out hb15)
        clear hb15
        go_wp2_with fail
        refine (H4.out w15).mono ?_; rintro e w16 ⟨hb16, T4, y4, rfl, _⟩
        have HBG := Lib.hid (below_step HBF.out hb16)
        clear hb16
        go_wp2_with fail
        obtain ⟨W17, hW17⟩ : ∃ W, w16.alloc (.cells #[.int .i32 0, .slice none 0 0, .string ⟨#[]⟩] 25) = W := ⟨_, rfl⟩
        have HBH : Hid (Below w9.heap.size w9 W17) := Lib.hid (by rw [← hW17]; exact below_step HBG.out (below_new _ _))
        rw [hW17]
        clear hW17
        refine (first14 W17).mono ?_; rintro e w18 ⟨rfl, hb18⟩
        have HBI := Lib.hid (below_step HBH.out hb18)
        have HBJ := Lib.hid (below_step HB69.out HBI.out)
        have HEC2 := Lib.hid (HEC.out.below HBI.out)
        have hca : w18.cell? ⟨bx, 2, none⟩ = some (.string S) := row_cell ((HBJ.out.block _ (row_lt HD6.out.2.1)).trans HD6.out.2.1) (j := 2) rfl
        have hcb : w18.cell? ⟨bY, 2, none⟩ = some (.string (S ++ U)) := row_cell ((HBJ.out.block _ (row_lt HD6.out.2.2)).trans HD6.out.2.2) (j := 2) rfl
        have HGG := Lib.hid (HG.out.below (below_step HB6.out HBJ.out))
        clear hb18
        go_wp2_with fail
        obtain ⟨ws, he⟩ := HEC2.out
        refine (code_any ws _ _ w18 he (root_code _) HGG.out).mono ?_; rintro e w19 ⟨rfl, hb19⟩
        rw [show codeOf (codeV ((6 : Nat) : Int)) = 6 from rfl]
        have HBK := Lib.hid (below_step HBJ.out hb19)
        clear hb19 he
        go_wp2_with fail
        go_ret
        exact ⟨rfl, below_step HB6.out HBK.out⟩
set_option maxRecDepth 1000000 in
set_option maxHeartbeats 8000000 in
theorem deep_any14 (s : ByteArray) (d : Int) (w : World) (hg : Glob w) :
    Calls Tryz.prog 5 #[.string s, .int .i64 d] w fun e w' => e = .returned (.bool true) ∧ Below w.heap.size w w' := by
  by_cases hc : s.size ≤ 6000 ∧ 0 ≤ d ∧ d ≤ 100
  · obtain ⟨n, rfl⟩ : ∃ n : Nat, d = (n : Int) := ⟨d.toNat, by omega⟩
    exact deep_walk14 s n w hc.1 (by omega) hg
  · have main : ∀ (b1 b2 b3 : Bool), decide ((6000 : Int) < (s.size : Int)) = b1 → decide (d < 0) = b2 → decide ((100 : Int) < d) = b3 → (b1 || b2 || b3) = true → Calls Tryz.prog 5 #[.string s, .int .i64 d] w fun e w' => e = .returned (.bool true) ∧ Below w.heap.size w w' := by
      intro b1 b2 b3 h1 h2 h3 hb
      clear hc
      cases b1 <;> cases b2 <;> cases b3 <;> try cases hb
      all_goals go_enter Tryz.func5, Tryz.ntmps5
      all_goals go_wp2_with fail
      all_goals refine (first14 w).mono ?_
      all_goals rintro e w1 ⟨rfl, hb1⟩
      all_goals have HB1 := Lib.hid hb1
      all_goals clear hb1
      all_goals go_wp2_with fail
      all_goals refine (first14 w1).mono ?_
      all_goals rintro e w2 ⟨rfl, hb2⟩
      all_goals have HB2 := Lib.hid (below_step HB1.out hb2)
      all_goals clear hb2
      all_goals go_wp2_with fail
      all_goals go_ret
      all_goals exact ⟨rfl, HB2.out⟩
    refine main _ _ _ rfl rfl rfl ?_
    rw [Bool.or_eq_true, Bool.or_eq_true, decide_eq_true_iff, decide_eq_true_iff, decide_eq_true_iff]
    omega
end Go.Proofs.YtdokbooggbiciaaGreatDoor
