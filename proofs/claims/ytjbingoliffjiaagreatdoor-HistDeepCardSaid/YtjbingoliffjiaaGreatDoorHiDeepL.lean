/-
  hyglaw13.HistDeep.
-/
import Derived.Test.YtjbingoliffjiaaGreatDoorHiFirst
import Derived.Test.YtjbingoliffjiaaGreatDoorDeepT
set_option maxRecDepth 1000000
set_option maxHeartbeats 16000000
namespace Go.Proofs.YtjbingoliffjiaaGreatDoor
open Go.RowKit
theorem hideep_L1 (s : ByteArray) (d : Int) (w : World) (h1 : 6000 < s.size) :
 Calls Tryz.prog 7 #[.string s, .int .i64 d] w fun e w' => e = .returned (.bool true) ∧ Below w.heap.size w w' := by
 have q0 : decide ((6000 : Int) < (s.size : Int)) = true := decide_eq_true (by omega)
 clear h1
 have hb : Below w.heap.size w w := Below.refl _ _
 have H1 := Lib.hid (Fx.nil w)
 have H2 := Lib.hid (H1.out.base (hb))
 clear H1
 clear hb
 go_enter Tryz.func7, Tryz.ntmps7
 go_wp2_with fail
 refine (first13 w).mono ?_; rintro e w1 ⟨rfl, hb⟩
 have H3 := Lib.hid (H2.out.below hb)
 clear hb H2
 go_wp2_with fail
 refine (first13 w1).mono ?_; rintro e w2 ⟨rfl, hb⟩
 have H4 := Lib.hid (H3.out.below hb)
 clear hb H3
 go_wp2_with fail
 go_ret
 exact ⟨rfl, H4.out.is.1⟩
theorem hideep_L2 (s : ByteArray) (d : Int) (w : World) (h1 : ¬ 6000 < s.size) (h2 : d < 0) :
 Calls Tryz.prog 7 #[.string s, .int .i64 d] w fun e w' => e = .returned (.bool true) ∧ Below w.heap.size w w' := by
 have q0 : decide ((6000 : Int) < (s.size : Int)) = false := decide_eq_false (by omega)
 have q1 : decide (d < 0) = true := decide_eq_true h2
 clear h1 h2
 have hb : Below w.heap.size w w := Below.refl _ _
 have H1 := Lib.hid (Fx.nil w)
 have H2 := Lib.hid (H1.out.base (hb))
 clear H1
 clear hb
 go_enter Tryz.func7, Tryz.ntmps7
 go_wp2_with fail
 refine (first13 w).mono ?_; rintro e w1 ⟨rfl, hb⟩
 have H3 := Lib.hid (H2.out.below hb)
 clear hb H2
 go_wp2_with fail
 refine (first13 w1).mono ?_; rintro e w2 ⟨rfl, hb⟩
 have H4 := Lib.hid (H3.out.below hb)
 clear hb H3
 go_wp2_with fail
 go_ret
 exact ⟨rfl, H4.out.is.1⟩
theorem hideep_L3 (s : ByteArray) (d : Int) (w : World) (h1 : ¬ 6000 < s.size) (h2 : ¬ d < 0) (h3 : 100 < d) :
 Calls Tryz.prog 7 #[.string s, .int .i64 d] w fun e w' => e = .returned (.bool true) ∧ Below w.heap.size w w' := by
 have q0 : decide ((6000 : Int) < (s.size : Int)) = false := decide_eq_false (by omega)
 have q1 : decide (d < 0) = false := decide_eq_false h2
 have q2 : decide ((100 : Int) < d) = true := decide_eq_true h3
 clear h1 h2 h3
 have hb : Below w.heap.size w w := Below.refl _ _
 have H1 := Lib.hid (Fx.nil w)
 have H2 := Lib.hid (H1.out.base (hb))
 clear H1
 clear hb
 go_enter Tryz.func7, Tryz.ntmps7
 go_wp2_with fail
 refine (first13 w).mono ?_; rintro e w1 ⟨rfl, hb⟩
 have H3 := Lib.hid (H2.out.below hb)
 clear hb H2
 go_wp2_with fail
 refine (first13 w1).mono ?_; rintro e w2 ⟨rfl, hb⟩
 have H4 := Lib.hid (H3.out.below hb)
 clear hb H3
 go_wp2_with fail
 go_ret
 exact ⟨rfl, H4.out.is.1⟩
theorem hideep_A (s : ByteArray) (n' : Nat) (w : World) (hs : s.size ≤ 6000) (hn : n' ≤ 100) {c : Nat} (hx : hird s.data.toList (n' : Int) = .error c) :
 Calls Tryz.prog 7 #[.string s, .int .i64 (n' : Int)] w fun e w' => e = .returned (.bool true) ∧ Below w.heap.size w w' := by
 have d0 : decide ((6000 : Int) < (s.size : Int)) = false := decide_eq_false (by omega)
 have d1 : decide ((n' : Int) < 0) = false := decide_eq_false (by omega)
 have d2 : decide ((100 : Int) < (n' : Int)) = false := decide_eq_false (by omega)
 have HS1 := Lib.hid (fun w' => hi_un s (n' : Int) w' (by omega) (by omega))
 rw [hx] at HS1
 clear hs hn hx
 have hb : Below w.heap.size w w := Below.refl _ _
 have H1 := Lib.hid (Fx.nil w)
 have H2 := Lib.hid (H1.out.base (hb))
 clear H1
 clear hb
 go_enter Tryz.func7, Tryz.ntmps7
 go_wp2_with fail
 refine (first13 w).mono ?_; rintro e w1 ⟨rfl, hb⟩
 have H3 := Lib.hid (H2.out.below hb)
 clear hb H2
 go_wp2_with fail
 refine (HS1.out w1).mono ?_; rintro e w2 ⟨hb, v1, q1, rfl, _, hew⟩
 obtain ⟨T1, y1, rfl⟩ := hew.iface
 clear HS1
 unfold hizero
 have H4 := Lib.hid (H3.out.below hb)
 clear hb H3
 clear hew
 go_wp2_with fail
 obtain ⟨blr1, hbl⟩ : ∃ b, w2.heap.size = b := ⟨_, rfl⟩
 obtain ⟨W3, hW⟩ : ∃ W, w2.alloc (.cells #[.slice none 0 0, .int .u64 0, .int .u64 0, .int .u64 0, .bool false, .int .u64 0, .bool false, .int .u64 0, .bool false, .int .u64 0, .slice none 0 0, .slice none 0 0, .slice none 0 0, .int .u32 0, .string ⟨#[]⟩] 50) = W := ⟨_, rfl⟩
 have hb : Below w2.heap.size w2 W3 := by rw [← hW]; exact below_new _ _
 have hr : W3.heap[blr1]? = some (.cells #[.slice none 0 0, .int .u64 0, .int .u64 0, .int .u64 0, .bool false, .int .u64 0, .bool false, .int .u64 0, .bool false, .int .u64 0, .slice none 0 0, .slice none 0 0, .slice none 0 0, .int .u32 0, .string ⟨#[]⟩] 50 (0, 0)) := by rw [← hW, ← hbl]; exact new_row _ _ _
 rw [hW, hbl]
 clear hW hbl
 have H5 := Lib.hid (H4.out.below hb)
 clear hb H4
 have H6 := Lib.hid (H5.out.row (hr))
 clear H5
 clear hr
 refine (first13 W3).mono ?_; rintro e w4 ⟨rfl, hb⟩
 have H7 := Lib.hid (H6.out.below hb)
 clear hb H6
 go_wp2_with fail
 go_ret
 exact ⟨rfl, H7.out.is.2.1⟩
theorem hideep_C (s : ByteArray) (n' : Nat) (w : World) (hs : s.size ≤ 6000) (hn : n' ≤ 100) (hg : Glob w) {x : Hi} (hx : hird s.data.toList (n' : Int) = .ok x) :
 Calls Tryz.prog 7 #[.string s, .int .i64 (n' : Int)] w fun e w' => e = .returned (.bool true) ∧ Below w.heap.size w w' := by
 have d0 : decide ((6000 : Int) < (s.size : Int)) = false := decide_eq_false (by omega)
 have d1 : decide ((n' : Int) < 0) = false := decide_eq_false (by omega)
 have d2 : decide ((100 : Int) < (n' : Int)) = false := decide_eq_false (by omega)
 have HS1 := Lib.hid (fun w' => hi_un s (n' : Int) w' (by omega) (by omega))
 rw [hx] at HS1
 obtain ⟨⟨TB, TE, TC, TD, TF⟩, HTB, HTE, HTC, HTD, HTF, hz, lB, lE, lC, lD, lF⟩ := deep_tags
 dsimp only at HTB HTE HTC HTD HTF hz lB lE lC lD lF
 have HTB := Lib.hid HTB
 have HTE := Lib.hid HTE
 have HTC := Lib.hid HTC
 have HTD := Lib.hid HTD
 have HTF := Lib.hid HTF
 have HZ := Lib.hid hz
 have lB := Lib.hid lB
 have lE := Lib.hid lE
 have lC := Lib.hid lC
 have lD := Lib.hid lD
 have lF := Lib.hid lF
 have HSS := Lib.hid hs
 have HNN := Lib.hid hn
 have HG := Lib.hid hg
 obtain ⟨⟨a, ⟨t, ⟨k, ⟨⟨ph, pn⟩, ⟨nc, ⟨nb, ⟨es, ⟨l, ⟨f, ⟨⟨mh, mn⟩, ⟨gh, gn⟩⟩⟩⟩⟩⟩⟩⟩⟩⟩⟩, u⟩ := x
 obtain ⟨Xu, eu⟩ : ∃ X : ByteArray, (⟨u.toArray⟩ : ByteArray) = X := ⟨_, rfl⟩
 have HNu := Lib.hid eu
 clear eu
 have HSD : Hid (Xu.data.toList = u) := Lib.hid (by rw [← HNu.out])
 have hSz : Xu.size ≤ 6000 := by
  have h1 : Xu.size = u.length := by rw [← HSD.out]; simp
  have h2 := mread_unk (σ := Nat × Nat × Nat × (Bool × Nat) × List Nat × List Nat × List Ex × List KV × Nat × (Bool × Nat) × Bool × Nat) hx
  have h3 : s.data.toList.length = s.size := by simp
  omega
 have HX := Lib.hid hx
 clear hg hx hz
 have hb : Below w.heap.size w w := Below.refl _ _
 have H1 := Lib.hid (Fx.nil w)
 have H2 := Lib.hid (H1.out.base (hb))
 clear H1
 clear hb
 go_enter Tryz.func7, Tryz.ntmps7
 go_wp2_with fail
 refine (first13 w).mono ?_; rintro e w1 ⟨rfl, hb⟩
 have H3 := Lib.hid (H2.out.below hb)
 clear hb H2
 go_wp2_with fail
 refine (HS1.out w1).mono ?_; rintro e w2 ⟨hb, cs, rfl, hrel⟩
 clear HS1
 have hr2 := hrel
 obtain ⟨lo1, lc1, nco1, ncc1, nbo1, nbc1, eo1, ec1, rfl, _, _, _, _⟩ := hr2
 dsimp only [strV]
 rw [HNu.out]
 have H4 := Lib.hid (H3.out.below hb)
 clear hb H3
 clear hrel
 go_wp2_with fail
 obtain ⟨blr1, hbl⟩ : ∃ b, w2.heap.size = b := ⟨_, rfl⟩
 obtain ⟨W3, hW⟩ : ∃ W, w2.alloc (.cells #[.slice lo1 l.length lc1, .int .u64 (a : Int), .int .u64 (t : Int), .int .u64 (k : Int), .bool ph, .int .u64 (pn : Int), .bool mh, .int .u64 (mn : Int), .bool gh, .int .u64 (gn : Int), .slice nco1 nc.length ncc1, .slice nbo1 nb.length nbc1, .slice eo1 es.length ec1, .int .u32 (f : Int), .string Xu] 50) = W := ⟨_, rfl⟩
 have hb : Below w2.heap.size w2 W3 := by rw [← hW]; exact below_new _ _
 have hr : W3.heap[blr1]? = some (.cells #[.slice lo1 l.length lc1, .int .u64 (a : Int), .int .u64 (t : Int), .int .u64 (k : Int), .bool ph, .int .u64 (pn : Int), .bool mh, .int .u64 (mn : Int), .bool gh, .int .u64 (gn : Int), .slice nco1 nc.length ncc1, .slice nbo1 nb.length nbc1, .slice eo1 es.length ec1, .int .u32 (f : Int), .string Xu] 50 (0, 0)) := by rw [← hW, ← hbl]; exact new_row _ _ _
 rw [hW, hbl]
 clear hW hbl
 have H5 := Lib.hid (H4.out.below hb)
 clear hb H4
 have H6 := Lib.hid (H5.out.row (hr))
 clear H5
 clear hr
 go_loopg [7, 8] n' (fun k' sv i wr => ∃ (j : Nat) (U : ByteArray), j + k' = n' ∧ i = .int .i64 (j : Int) ∧ sv = .string U ∧ Hid (U.data.toList = gnest j) ∧ Below W3.heap.size W3 wr)
 case atStart => exact ⟨0, ⟨#[]⟩, by omega, rfl, rfl, Lib.hid rfl, Below.refl _ _⟩
 case round =>
  obtain ⟨j, U, hj, rfl, rfl, HU, hb⟩ := hrel
  have HB := Lib.hid hb
  have HJJ := Lib.hid hj
  have hjn : j ≤ 100 := by have := HNN.out; omega
  have hUz : U.size = 4 * j := by
   have h1 : U.size = (gnest j).length := by rw [← HU.out]; simp
   rw [h1, gnest_len]
  have hUs : U.size ≤ 400 := by omega
  clear hj hb hUz
  by_cases hlt : j < n'
  · have q1 : ¬ 9223372036854775807 < TB.size + U.size := by have := HZ.out; omega
    have q2 : ¬ 9223372036854775807 < (TB ++ U).size + TE.size := by rw [ByteArray.size_append]; have := HZ.out; omega
    go_wp2_with fail
    refine (HTB.out wr).mono ?_; rintro e w4 ⟨rfl, hb4⟩
    have HB4 := Lib.hid (below_step HB.out hb4)
    clear hb4
    go_wp2_with fail
    refine (HTE.out w4).mono ?_; rintro e w5 ⟨rfl, hb5⟩
    have HB5 := Lib.hid (below_step HB4.out hb5)
    clear hb5
    go_wp2_with fail
    have hj := HJJ.out
    go_roundg (gk - 1)
    case measure => omega
    case rel => exact ⟨j + 1, TB ++ U ++ TE, by omega, by simp, rfl, Lib.hid (by rw [gnest]; simp [lB.out, lE.out, HU.out]), HB5.out⟩
  · have hjn2 : j = n' := by have := HJJ.out; omega
    rw [hjn2] at HU
    have hb := HB.out
    have H7 := Lib.hid (H6.out.below hb)
    clear hb H6
    have zz := HZ.out
    obtain ⟨X1, hX1⟩ : ∃ X, s ++ U = X := ⟨_, rfl⟩
    obtain ⟨X2, hX2⟩ : ∃ X, s ++ TC ++ U ++ TD = X := ⟨_, rfl⟩
    obtain ⟨X3, hX3⟩ : ∃ X, s ++ TB = X := ⟨_, rfl⟩
    obtain ⟨X4, hX4⟩ : ∃ X, s ++ TB ++ TF = X := ⟨_, rfl⟩
    have z1 : X1.size = s.size + U.size := by rw [← hX1]; exact ByteArray.size_append ..
    have z2 : (s ++ TC).size = s.size + TC.size := ByteArray.size_append ..
    have z3 : (s ++ TC ++ U).size = s.size + TC.size + U.size := by rw [ByteArray.size_append, z2]
    have z4 : X2.size = s.size + TC.size + U.size + TD.size := by rw [← hX2, ByteArray.size_append, z3]
    have z5 : X3.size = s.size + TB.size := by rw [← hX3]; exact ByteArray.size_append ..
    have z6 : X4.size = s.size + TB.size + TF.size := by rw [← hX4, ByteArray.size_append, hX3, z5]
    have e1 : X1.data.toList = s.data.toList ++ gnest n' := by rw [← hX1]; simp [HU.out]
    have e2 : X2.data.toList = s.data.toList ++ (vput (8 * 91 + 3) ++ (gnest n' ++ vput (8 * 91 + 4))) := by rw [← hX2]; simp [HU.out, lC.out, lD.out]
    have e3 : X3.data.toList = s.data.toList ++ vput (8 * 90 + 3) := by rw [← hX3]; simp [lB.out]
    have e4 : X4.data.toList = s.data.toList ++ (vput (8 * 90 + 3) ++ vput (8 * 92 + 4)) := by rw [← hX4]; simp [lB.out, lF.out]
    obtain ⟨c3, hc3⟩ := gnest_open (n' : Int)
    obtain ⟨c4, hc4⟩ := gnest_other (n' : Int)
    obtain ⟨SU, hSU⟩ : ∃ X : ByteArray, (⟨(u ++ gnest n').toArray⟩ : ByteArray) = X := ⟨_, rfl⟩
    have hSE : SU = Xu ++ U := by rw [← hSU]; exact ByteArray.ext (Array.ext' (by simp [HSD.out, HU.out]))
    have hSq : (SU.toList == (Xu ++ U).toList) = true := by rw [hSE]; simp
    have HS1 := Lib.hid (fun w' => hi_un X1 (n' : Int) w' (by omega) (by omega))
    have HS2 := Lib.hid (fun w' => hi_un X2 (n' : Int) w' (by omega) (by omega))
    have HS3 := Lib.hid (fun w' => hi_un X3 (n' : Int) w' (by omega) (by omega))
    have HS4 := Lib.hid (fun w' => hi_un X4 (n' : Int) w' (by omega) (by omega))
    rw [e1, show hird (s.data.toList ++ gnest n') n' = .ok ((a, (t, (k, ((ph, pn), (nc, (nb, (es, (l, (f, ((mh, mn), (gh, gn))))))))))), u ++ gnest n') from mread_nest (σ := Nat × Nat × Nat × (Bool × Nat) × List Nat × List Nat × List Ex × List KV × Nat × (Bool × Nat) × Bool × Nat) hi_tk90 n' (Int.le_refl _) HX.out] at HS1
    rw [e2, show hird _ n' = .error _ from mread_nest_no (σ := Nat × Nat × Nat × (Bool × Nat) × List Nat × List Nat × List Ex × List KV × Nat × (Bool × Nat) × Bool × Nat) HX.out (gnest_too n' _ (Int.le_refl _))] at HS2
    rw [e3, show hird _ n' = .error _ from mread_nest_no (σ := Nat × Nat × Nat × (Bool × Nat) × List Nat × List Nat × List Ex × List KV × Nat × (Bool × Nat) × Bool × Nat) HX.out hc3] at HS3
    rw [e4, show hird _ n' = .error _ from mread_nest_no (σ := Nat × Nat × Nat × (Bool × Nat) × List Nat × List Nat × List Ex × List KV × Nat × (Bool × Nat) × Bool × Nat) HX.out hc4] at HS4
    have q1 : ¬ 9223372036854775807 < s.size + U.size := by omega
    have q2 : ¬ 9223372036854775807 < s.size + TC.size := by omega
    have q3 : ¬ 9223372036854775807 < (s ++ TC).size + U.size := by omega
    have q4 : ¬ 9223372036854775807 < (s ++ TC ++ U).size + TD.size := by omega
    have q5 : ¬ 9223372036854775807 < s.size + TB.size := by omega
    have q6 : ¬ 9223372036854775807 < X3.size + TF.size := by omega
    have q7 : ¬ 9223372036854775807 < Xu.size + U.size := by omega
    have HX1 := Lib.hid hX1
    have HX2 := Lib.hid hX2
    have HX3 := Lib.hid hX3
    have HX4 := Lib.hid hX4
    have HSQN := Lib.hid hSU
    rw [hX3] at hX4
    have HX4B := Lib.hid hX4
    clear e1 e2 e3 e4 z1 z2 z3 z4 z5 z6 zz hc3 hc4 hSU hSE hjn2 hX1 hX2 hX3 hX4
    go_wp2_with fail
    rw [HX1.out]
    refine (HS1.out wr).mono ?_; rintro e w5 ⟨hb, cs, rfl, hrel⟩
    clear HS1
    have hr2 := hrel
    obtain ⟨lo2, lc2, nco2, ncc2, nbo2, nbc2, eo2, ec2, rfl, _, _, _, _⟩ := hr2
    dsimp only [strV]
    rw [HSQN.out]
    have H8 := Lib.hid (H7.out.below hb)
    clear hb H7
    clear hrel
    go_wp2_with fail
    obtain ⟨blr2, hbl⟩ : ∃ b, w5.heap.size = b := ⟨_, rfl⟩
    obtain ⟨W6, hW⟩ : ∃ W, w5.alloc (.cells #[.slice lo2 l.length lc2, .int .u64 (a : Int), .int .u64 (t : Int), .int .u64 (k : Int), .bool ph, .int .u64 (pn : Int), .bool mh, .int .u64 (mn : Int), .bool gh, .int .u64 (gn : Int), .slice nco2 nc.length ncc2, .slice nbo2 nb.length nbc2, .slice eo2 es.length ec2, .int .u32 (f : Int), .string SU] 50) = W := ⟨_, rfl⟩
    have hb : Below w5.heap.size w5 W6 := by rw [← hW]; exact below_new _ _
    have hr : W6.heap[blr2]? = some (.cells #[.slice lo2 l.length lc2, .int .u64 (a : Int), .int .u64 (t : Int), .int .u64 (k : Int), .bool ph, .int .u64 (pn : Int), .bool mh, .int .u64 (mn : Int), .bool gh, .int .u64 (gn : Int), .slice nco2 nc.length ncc2, .slice nbo2 nb.length nbc2, .slice eo2 es.length ec2, .int .u32 (f : Int), .string SU] 50 (0, 0)) := by rw [← hW, ← hbl]; exact new_row _ _ _
    rw [hW, hbl]
    clear hW hbl
    have H9 := Lib.hid (H8.out.below hb)
    clear hb H8
    have H10 := Lib.hid (H9.out.row (hr))
    clear H9
    clear hr
    refine (HTC.out W6).mono ?_; rintro e w7 ⟨rfl, hb⟩
    have H11 := Lib.hid (H10.out.below hb)
    clear hb H10
    go_wp2_with fail
    refine (HTD.out w7).mono ?_; rintro e w8 ⟨rfl, hb⟩
    have H12 := Lib.hid (H11.out.below hb)
    clear hb H11
    go_wp2_with fail
    rw [HX2.out]
    refine (HS2.out w8).mono ?_; rintro e w9 ⟨hb, v3, q3, rfl, _, hew⟩
    obtain ⟨T3, y3, rfl⟩ := hew.iface
    clear HS2
    unfold hizero
    have H13 := Lib.hid (H12.out.below hb)
    clear hb H12
    have H14 := Lib.hid (H13.out.ew (hew))
    clear H13
    clear hew
    go_wp2_with fail
    obtain ⟨Wa, hW⟩ : ∃ W, w9.alloc (.cells #[.slice none 0 0, .int .u64 0, .int .u64 0, .int .u64 0, .bool false, .int .u64 0, .bool false, .int .u64 0, .bool false, .int .u64 0, .slice none 0 0, .slice none 0 0, .slice none 0 0, .int .u32 0, .string ⟨#[]⟩] 50) = W := ⟨_, rfl⟩
    have hb : Below w9.heap.size w9 Wa := by rw [← hW]; exact below_new _ _
    rw [hW]
    clear hW
    have H15 := Lib.hid (H14.out.below hb)
    clear hb H14
    refine (HTB.out Wa).mono ?_; rintro e wb ⟨rfl, hb⟩
    have H16 := Lib.hid (H15.out.below hb)
    clear hb H15
    go_wp2_with fail
    rw [HX3.out]
    refine (HS3.out wb).mono ?_; rintro e wc ⟨hb, v4, q4, rfl, _, hew⟩
    obtain ⟨T4, y4, rfl⟩ := hew.iface
    clear HS3
    unfold hizero
    have H17 := Lib.hid (H16.out.below hb)
    clear hb H16
    clear hew
    go_wp2_with fail
    obtain ⟨Wd, hW⟩ : ∃ W, wc.alloc (.cells #[.slice none 0 0, .int .u64 0, .int .u64 0, .int .u64 0, .bool false, .int .u64 0, .bool false, .int .u64 0, .bool false, .int .u64 0, .slice none 0 0, .slice none 0 0, .slice none 0 0, .int .u32 0, .string ⟨#[]⟩] 50) = W := ⟨_, rfl⟩
    have hb : Below wc.heap.size wc Wd := by rw [← hW]; exact below_new _ _
    rw [hW]
    clear hW
    have H18 := Lib.hid (H17.out.below hb)
    clear hb H17
    refine (HTB.out Wd).mono ?_; rintro e we ⟨rfl, hb⟩
    have H19 := Lib.hid (H18.out.below hb)
    clear hb H18
    go_wp2_with fail
    try rw [HX3.out]
    refine (HTF.out we).mono ?_; rintro e wf ⟨rfl, hb⟩
    have H20 := Lib.hid (H19.out.below hb)
    clear hb H19
    go_wp2_with fail
    first | rw [HX4B.out] | rw [HX4.out]
    refine (HS4.out wf).mono ?_; rintro e wg ⟨hb, v5, q5, rfl, _, hew⟩
    obtain ⟨T5, y5, rfl⟩ := hew.iface
    clear HS4
    unfold hizero
    have H21 := Lib.hid (H20.out.below hb)
    clear hb H20
    clear hew
    go_wp2_with fail
    obtain ⟨Wh, hW⟩ : ∃ W, wg.alloc (.cells #[.slice none 0 0, .int .u64 0, .int .u64 0, .int .u64 0, .bool false, .int .u64 0, .bool false, .int .u64 0, .bool false, .int .u64 0, .slice none 0 0, .slice none 0 0, .slice none 0 0, .int .u32 0, .string ⟨#[]⟩] 50) = W := ⟨_, rfl⟩
    have hb : Below wg.heap.size wg Wh := by rw [← hW]; exact below_new _ _
    rw [hW]
    clear hW
    have H22 := Lib.hid (H21.out.below hb)
    clear hb H21
    refine (first13 Wh).mono ?_; rintro e wi ⟨rfl, hb⟩
    have H23 := Lib.hid (H22.out.below hb)
    clear hb H22
    have ca : wi.cell? ⟨blr1, 14, none⟩ = some (.string Xu) := row_cell (H23.out.is.2.2.1) (j := 14) rfl
    have cb : wi.cell? ⟨blr2, 14, none⟩ = some (.string SU) := row_cell (H23.out.is.2.1) (j := 14) rfl
    go_wp2_with fail
    obtain ⟨ws, he⟩ := (H23.out.is.1).ec
    refine (code_any ws _ _ wi he (root_code _) (HG.out.below (H23.out.is.2.2.2.1))).mono ?_; rintro e wj ⟨rfl, hb⟩
    rw [show codeOf (codeV ((6 : Nat) : Int)) = 6 from rfl]
    have H24 := Lib.hid (H23.out.below hb)
    clear hb H23
    clear he ca cb
    go_wp2_with fail
    go_ret
    exact ⟨rfl, H24.out.is.2.2.2.1⟩
theorem hideep_any (s : ByteArray) (d : Int) (w : World) (hg : Glob w) :
 Calls Tryz.prog 7 #[.string s, .int .i64 d] w fun e w' => e = .returned (.bool true) ∧ Below w.heap.size w w' := by
 by_cases h1 : 6000 < s.size
 · exact hideep_L1 s d w h1
 by_cases h2 : d < 0
 · exact hideep_L2 s d w h1 h2
 by_cases h3 : 100 < d
 · exact hideep_L3 s d w h1 h2 h3
 obtain ⟨n', rfl⟩ := Int.eq_ofNat_of_zero_le (show 0 ≤ d by omega)
 cases hx : hird s.data.toList (n' : Int) with
 | error c => exact hideep_A s n' w (by omega) (by omega) hx
 | ok x => exact hideep_C s n' w (by omega) (by omega) hg hx
end Go.Proofs.YtjbingoliffjiaaGreatDoor
