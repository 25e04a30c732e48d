/-
  hyglaw8.ValueSame.
-/
import Derived.Test.YteknippgiljgeaaGreatDoorValSame
import Derived.Test.YteknippgiljgeaaGreatDoorValFew
import Derived.Test.YteknippgiljgeaaGreatDoorFirst8
import Derived.Test.YteknippgiljgeaaGreatDoorDoor
namespace Go.Proofs.YteknippgiljgeaaGreatDoor
open Go.RowKit

def AB (w : World) (g : Nat) (ca cb : List Value) : Prop := w.heap[g]? = some (.cells ca.toArray 27 (0, 0)) ∧ w.heap[g + 1]? = some (.cells cb.toArray 27 (0, 0))
theorem AB.below {w w' : World} {g : Nat} {ca cb : List Value} (h : AB w g ca cb) (hb : Below w.heap.size w w') : AB w' g ca cb := ⟨(hb.block _ (row_lt h.1)).trans h.1, (hb.block _ (row_lt h.2)).trans h.2⟩
def KAB (w : World) (ga oa : Nat) (ca : List Value) (gb ob : Nat) (cb : List Value) : Prop := Cells w ga oa ca ∧ Cells w gb ob cb
set_option maxRecDepth 1000000 in
set_option maxHeartbeats 16000000 in
theorem vsame_any (x y : Val) (l m : List KV) (ca cb : List Value) (lo mo : Option Addr) (lc mc : Nat) (w : World) (hg : Glob w) (hxl : vlim x) (hxf : vfit x) (hx : VRel w (fun k => k < w.heap.size) x ca) (hyl : vlim y) (hyf : vfit y) (hy : VRel w (fun k => k < w.heap.size) y cb)
    (hll : l.length ≤ 9223372036854775807) (hl1 : kslim l) (hl2 : ksfit l) (hl : KRels w (fun k => k < w.heap.size) l lo 0) (hml : m.length ≤ 9223372036854775807) (hm1 : kslim m) (hm2 : ksfit m) (hm : KRels w (fun k => k < w.heap.size) m mo 0) :
    Calls Tryz.prog 5 #[.agg ca.toArray, .agg cb.toArray, .slice lo l.length lc, .slice mo m.length mc] w fun e w' => e = .returned (.bool true) ∧ Below w.heap.size w w' := by
  have HG := Lib.hid hg
  have HX := Lib.hid hx
  have HY := Lib.hid hy
  have HL := Lib.hid hl
  have HM := Lib.hid hm
  have HXL := Lib.hid hxl
  have HXF := Lib.hid hxf
  have HYL := Lib.hid hyl
  have HYF := Lib.hid hyf
  have HL1 := Lib.hid hl1
  have HL2 := Lib.hid hl2
  have HM1 := Lib.hid hm1
  have HM2 := Lib.hid hm2
  obtain ⟨k1, S1, b1, n1, lo1, ln1, lc1, mo1, mn1, mc1, I1, U1, rfl⟩ := hx.form
  obtain ⟨k2, S2, b2, n2, lo2, ln2, lc2, mo2, mn2, mc2, I2, U2, rfl⟩ := hy.form
  clear hg hxl hxf hx hyl hyf hy hl1 hl2 hl hm1 hm2 hm
  obtain ⟨W, hW⟩ : ∃ W, (w.alloc (.cells #[.int .i64 k1, .string S1, .bool b1, .int .u64 n1, .slice lo1 ln1 lc1, .slice mo1 mn1 mc1, .string I1, .string U1] 27)).alloc (.cells #[.int .i64 k2, .string S2, .bool b2, .int .u64 n2, .slice lo2 ln2 lc2, .slice mo2 mn2 mc2, .string I2, .string U2] 27) = W := ⟨_, rfl⟩
  have HB0 : Hid (Below w.heap.size w W) := Lib.hid (by rw [← hW]; exact below_step (below_new _ _) (below_new _ _))
  have HAB : Hid (AB W w.heap.size [.int .i64 k1, .string S1, .bool b1, .int .u64 n1, .slice lo1 ln1 lc1, .slice mo1 mn1 mc1, .string I1, .string U1] [.int .i64 k2, .string S2, .bool b2, .int .u64 n2, .slice lo2 ln2 lc2, .slice mo2 mn2 mc2, .string I2, .string U2]) := Lib.hid ⟨by rw [← hW]; exact (Below.heap_alloc _ _ _ (by simp)).trans (heap_alloc_new w _), by rw [← hW]; have := heap_alloc_new (w.alloc (.cells #[.int .i64 k1, .string S1, .bool b1, .int .u64 n1, .slice lo1 ln1 lc1, .slice mo1 mn1 mc1, .string I1, .string U1] 27)) (.cells #[.int .i64 k2, .string S2, .bool b2, .int .u64 n2, .slice lo2 ln2 lc2, .slice mo2 mn2 mc2, .string I2, .string U2] 27); simpa using this⟩
  have HW := Lib.hid hW
  clear hW
  go_enter Tryz.func5, Tryz.ntmps5
  go_wp2_with fail
  rw [HW.out]
  refine (first8 W (HG.out.below HB0.out)).mono ?_; rintro e w1 ⟨rfl, hb⟩
  have HB1 := Lib.hid (below_step HB0.out hb)
  have HAB1 := Lib.hid (HAB.out.below hb)
  clear hb
  have ra0 : w1.cell? ⟨w.heap.size, 0, none⟩ = some (.int .i64 k1) := row_cell HAB1.out.1 (j := 0) rfl
  have ra1 : w1.cell? ⟨w.heap.size, 1, none⟩ = some (.string S1) := row_cell HAB1.out.1 (j := 1) rfl
  have ra2 : w1.cell? ⟨w.heap.size, 2, none⟩ = some (.bool b1) := row_cell HAB1.out.1 (j := 2) rfl
  have ra3 : w1.cell? ⟨w.heap.size, 3, none⟩ = some (.int .u64 n1) := row_cell HAB1.out.1 (j := 3) rfl
  have ra4 : w1.cell? ⟨w.heap.size, 4, none⟩ = some (.slice lo1 ln1 lc1) := row_cell HAB1.out.1 (j := 4) rfl
  have ra5 : w1.cell? ⟨w.heap.size, 5, none⟩ = some (.slice mo1 mn1 mc1) := row_cell HAB1.out.1 (j := 5) rfl
  have ra6 : w1.cell? ⟨w.heap.size, 6, none⟩ = some (.string I1) := row_cell HAB1.out.1 (j := 6) rfl
  have ra7 : w1.cell? ⟨w.heap.size, 7, none⟩ = some (.string U1) := row_cell HAB1.out.1 (j := 7) rfl
  have rb0 : w1.cell? ⟨w.heap.size + 1, 0, none⟩ = some (.int .i64 k2) := row_cell HAB1.out.2 (j := 0) rfl
  have rb1 : w1.cell? ⟨w.heap.size + 1, 1, none⟩ = some (.string S2) := row_cell HAB1.out.2 (j := 1) rfl
  have rb2 : w1.cell? ⟨w.heap.size + 1, 2, none⟩ = some (.bool b2) := row_cell HAB1.out.2 (j := 2) rfl
  have rb3 : w1.cell? ⟨w.heap.size + 1, 3, none⟩ = some (.int .u64 n2) := row_cell HAB1.out.2 (j := 3) rfl
  have rb4 : w1.cell? ⟨w.heap.size + 1, 4, none⟩ = some (.slice lo2 ln2 lc2) := row_cell HAB1.out.2 (j := 4) rfl
  have rb5 : w1.cell? ⟨w.heap.size + 1, 5, none⟩ = some (.slice mo2 mn2 mc2) := row_cell HAB1.out.2 (j := 5) rfl
  have rb6 : w1.cell? ⟨w.heap.size + 1, 6, none⟩ = some (.string I2) := row_cell HAB1.out.2 (j := 6) rfl
  have rb7 : w1.cell? ⟨w.heap.size + 1, 7, none⟩ = some (.string U2) := row_cell HAB1.out.2 (j := 7) rfl
  go_wp2_with fail
  refine (fewv_any x [.int .i64 k1, .string S1, .bool b1, .int .u64 n1, .slice lo1 ln1 lc1, .slice mo1 mn1 mc1, .string I1, .string U1] _ w1 HXL.out HXF.out (HX.out.below HB1.out)).mono ?_; intro e w2 hpost
  obtain ⟨hb, bb, rfl, _⟩ := hpost
  have HB2 := Lib.hid (below_step HB1.out hb)
  have HAB2 := Lib.hid (HAB1.out.below hb)
  clear hb ra0 rb0 ra1 rb1 ra2 rb2 ra3 rb3 ra4 rb4 ra5 rb5 ra6 rb6 ra7 rb7
  cases bb with
  | false =>
    go_wp2_with fail
    refine (first8 w2 (HG.out.below HB2.out)).mono ?_; rintro e w9 ⟨rfl, hb⟩
    have HB9 := Lib.hid (below_step HB2.out hb)
    clear hb
    go_wp2_with fail
    go_ret
    exact ⟨rfl, HB9.out⟩
  | true =>
  have ra0 : w2.cell? ⟨w.heap.size, 0, none⟩ = some (.int .i64 k1) := row_cell HAB2.out.1 (j := 0) rfl
  have ra1 : w2.cell? ⟨w.heap.size, 1, none⟩ = some (.string S1) := row_cell HAB2.out.1 (j := 1) rfl
  have ra2 : w2.cell? ⟨w.heap.size, 2, none⟩ = some (.bool b1) := row_cell HAB2.out.1 (j := 2) rfl
  have ra3 : w2.cell? ⟨w.heap.size, 3, none⟩ = some (.int .u64 n1) := row_cell HAB2.out.1 (j := 3) rfl
  have ra4 : w2.cell? ⟨w.heap.size, 4, none⟩ = some (.slice lo1 ln1 lc1) := row_cell HAB2.out.1 (j := 4) rfl
  have ra5 : w2.cell? ⟨w.heap.size, 5, none⟩ = some (.slice mo1 mn1 mc1) := row_cell HAB2.out.1 (j := 5) rfl
  have ra6 : w2.cell? ⟨w.heap.size, 6, none⟩ = some (.string I1) := row_cell HAB2.out.1 (j := 6) rfl
  have ra7 : w2.cell? ⟨w.heap.size, 7, none⟩ = some (.string U1) := row_cell HAB2.out.1 (j := 7) rfl
  have rb0 : w2.cell? ⟨w.heap.size + 1, 0, none⟩ = some (.int .i64 k2) := row_cell HAB2.out.2 (j := 0) rfl
  have rb1 : w2.cell? ⟨w.heap.size + 1, 1, none⟩ = some (.string S2) := row_cell HAB2.out.2 (j := 1) rfl
  have rb2 : w2.cell? ⟨w.heap.size + 1, 2, none⟩ = some (.bool b2) := row_cell HAB2.out.2 (j := 2) rfl
  have rb3 : w2.cell? ⟨w.heap.size + 1, 3, none⟩ = some (.int .u64 n2) := row_cell HAB2.out.2 (j := 3) rfl
  have rb4 : w2.cell? ⟨w.heap.size + 1, 4, none⟩ = some (.slice lo2 ln2 lc2) := row_cell HAB2.out.2 (j := 4) rfl
  have rb5 : w2.cell? ⟨w.heap.size + 1, 5, none⟩ = some (.slice mo2 mn2 mc2) := row_cell HAB2.out.2 (j := 5) rfl
  have rb6 : w2.cell? ⟨w.heap.size + 1, 6, none⟩ = some (.string I2) := row_cell HAB2.out.2 (j := 6) rfl
  have rb7 : w2.cell? ⟨w.heap.size + 1, 7, none⟩ = some (.string U2) := row_cell HAB2.out.2 (j := 7) rfl
  go_wp2_with fail
  refine (fewv_any y [.int .i64 k2, .string S2, .bool b2, .int .u64 n2, .slice lo2 ln2 lc2, .slice mo2 mn2 mc2, .string I2, .string U2] _ w2 HYL.out HYF.out (HY.out.below HB2.out)).mono ?_; intro e w3 hpost
  obtain ⟨hb, bb, rfl, _⟩ := hpost
  have HB3 := Lib.hid (below_step HB2.out hb)
  have HAB3 := Lib.hid (HAB2.out.below hb)
  clear hb ra0 rb0 ra1 rb1 ra2 rb2 ra3 rb3 ra4 rb4 ra5 rb5 ra6 rb6 ra7 rb7
  cases bb with
  | false =>
    go_wp2_with fail
    refine (first8 w3 (HG.out.below HB3.out)).mono ?_; rintro e w9 ⟨rfl, hb⟩
    have HB9 := Lib.hid (below_step HB3.out hb)
    clear hb
    go_wp2_with fail
    go_ret
    exact ⟨rfl, HB9.out⟩
  | true =>
  go_wp2_with fail
  refine (fewk_any l lo lc _ w3 hll HL1.out HL2.out (HL.out.below HB3.out)).mono ?_; intro e w4 hpost
  obtain ⟨hb, bb, rfl, _⟩ := hpost
  have HB4 := Lib.hid (below_step HB3.out hb)
  have HAB4 := Lib.hid (HAB3.out.below hb)
  clear hb
  cases bb with
  | false =>
    go_wp2_with fail
    refine (first8 w4 (HG.out.below HB4.out)).mono ?_; rintro e w9 ⟨rfl, hb⟩
    have HB9 := Lib.hid (below_step HB4.out hb)
    clear hb
    go_wp2_with fail
    go_ret
    exact ⟨rfl, HB9.out⟩
  | true =>
  go_wp2_with fail
  refine (fewk_any m mo mc _ w4 hml HM1.out HM2.out (HM.out.below HB4.out)).mono ?_; intro e w5 hpost
  obtain ⟨hb, bb, rfl, _⟩ := hpost
  have HB5 := Lib.hid (below_step HB4.out hb)
  have HAB5 := Lib.hid (HAB4.out.below hb)
  clear hb
  cases bb with
  | false =>
    go_wp2_with fail
    refine (first8 w5 (HG.out.below HB5.out)).mono ?_; rintro e w9 ⟨rfl, hb⟩
    have HB9 := Lib.hid (below_step HB5.out hb)
    clear hb
    go_wp2_with fail
    go_ret
    exact ⟨rfl, HB9.out⟩
  | true =>
  obtain ⟨r1, HR1⟩ : ∃ r, Hid (alike x y = r) := ⟨_, Lib.hid rfl⟩
  obtain ⟨r2, HR2⟩ : ∃ r, Hid (alike l m = r) := ⟨_, Lib.hid rfl⟩
  by_cases hlp : 0 < l.length
  case neg =>
    go_wp2_with fail
    obtain ⟨D5, hD⟩ : ∃ D, w5.drew = D := ⟨_, rfl⟩
    have HBD5 : Hid (Below w5.heap.size w5 D5) := Lib.hid (by rw [← hD]; exact (Below.refl _ _).drew)
    have hne : Nonempty {w' : World // (fun _ => True) w'} := ⟨⟨w5, trivial⟩⟩
    refine wp_region_seq (S := fun _ => True) [(0, true), (1, true), (2, true), (3, true), (4, true), (5, true), (6, true), (7, true), (8, true), (9, true), (10, true), (11, true), (12, true), (13, true), (14, true), (16, true), (17, true), (18, true), (19, true), (20, true), (21, true), (15, false), (22, false), (23, true), (24, true)] (by kernel_rfl) (by kernel_rfl) (by kernel_rfl) (by kernel_rfl) trivial ?_
    rw [hD]
    clear hD
    iterate 21 (refine seq_take _ rfl (fun K2 hK => ?_); go_simp; (first | refine hK _ ?_ | refine ⟨_, fun _ _ => rfl, hK _ ?_⟩ | (refine ⟨undef, by rw [if_neg (by simp [undef])], ?_⟩; refine hK _ ?_)); clear hK K2)
    refine seq_come _ rfl (fun K2 hK => ?_); go_simp
    (first | refine hK.out _ _ trivial ?_ | (rw [if_neg (by simp [undef])]; refine hK.out _ _ trivial ?_)); clear hK K2
    refine seq_come _ rfl (fun K2 hK => ?_); go_simp
    (first | refine hK.out _ _ trivial ?_ | (rw [if_neg (by simp [undef])]; refine hK.out _ _ trivial ?_)); clear hK K2
    iterate 2 (refine seq_take _ rfl (fun K2 hK => ?_); go_simp; (first | refine hK _ ?_ | refine ⟨_, fun _ _ => rfl, hK _ ?_⟩ | (refine ⟨undef, by rw [if_neg (by simp [undef])], ?_⟩; refine hK _ ?_)); clear hK K2)
    refine seq_done ?_
    clear hne
    have HB6 := Lib.hid (below_step HB5.out HBD5.out)
    have HAB6 := Lib.hid (HAB5.out.below HBD5.out)
    go_wp2_with fail
    obtain ⟨D7, hD⟩ : ∃ D, D5.drew = D := ⟨_, rfl⟩
    have HBD7 : Hid (Below D5.heap.size D5 D7) := Lib.hid (by rw [← hD]; exact (Below.refl _ _).drew)
    have hS : AB D7 w.heap.size [.int .i64 k1, .string S1, .bool b1, .int .u64 n1, .slice lo1 ln1 lc1, .slice mo1 mn1 mc1, .string I1, .string U1] [.int .i64 k2, .string S2, .bool b2, .int .u64 n2, .slice lo2 ln2 lc2, .slice mo2 mn2 mc2, .string I2, .string U2] := HAB6.out.below HBD7.out
    have HB7 := Lib.hid (below_step HB6.out HBD7.out)
    have hne : Nonempty {w' : World // AB w' w.heap.size [.int .i64 k1, .string S1, .bool b1, .int .u64 n1, .slice lo1 ln1 lc1, .slice mo1 mn1 mc1, .string I1, .string U1] [.int .i64 k2, .string S2, .bool b2, .int .u64 n2, .slice lo2 ln2 lc2, .slice mo2 mn2 mc2, .string I2, .string U2]} := ⟨⟨_, hS⟩⟩
    have ea0 : ∀ a : World, AB a w.heap.size [.int .i64 k1, .string S1, .bool b1, .int .u64 n1, .slice lo1 ln1 lc1, .slice mo1 mn1 mc1, .string I1, .string U1] [.int .i64 k2, .string S2, .bool b2, .int .u64 n2, .slice lo2 ln2 lc2, .slice mo2 mn2 mc2, .string I2, .string U2] → a.cell? ⟨w.heap.size, 0, none⟩ = some (.int .i64 k1) := fun a ha => row_cell ha.1 (j := 0) rfl
    have eb0 : ∀ a : World, AB a w.heap.size [.int .i64 k1, .string S1, .bool b1, .int .u64 n1, .slice lo1 ln1 lc1, .slice mo1 mn1 mc1, .string I1, .string U1] [.int .i64 k2, .string S2, .bool b2, .int .u64 n2, .slice lo2 ln2 lc2, .slice mo2 mn2 mc2, .string I2, .string U2] → a.cell? ⟨w.heap.size + 1, 0, none⟩ = some (.int .i64 k2) := fun a ha => row_cell ha.2 (j := 0) rfl
    have ea1 : ∀ a : World, AB a w.heap.size [.int .i64 k1, .string S1, .bool b1, .int .u64 n1, .slice lo1 ln1 lc1, .slice mo1 mn1 mc1, .string I1, .string U1] [.int .i64 k2, .string S2, .bool b2, .int .u64 n2, .slice lo2 ln2 lc2, .slice mo2 mn2 mc2, .string I2, .string U2] → a.cell? ⟨w.heap.size, 1, none⟩ = some (.string S1) := fun a ha => row_cell ha.1 (j := 1) rfl
    have eb1 : ∀ a : World, AB a w.heap.size [.int .i64 k1, .string S1, .bool b1, .int .u64 n1, .slice lo1 ln1 lc1, .slice mo1 mn1 mc1, .string I1, .string U1] [.int .i64 k2, .string S2, .bool b2, .int .u64 n2, .slice lo2 ln2 lc2, .slice mo2 mn2 mc2, .string I2, .string U2] → a.cell? ⟨w.heap.size + 1, 1, none⟩ = some (.string S2) := fun a ha => row_cell ha.2 (j := 1) rfl
    have ea2 : ∀ a : World, AB a w.heap.size [.int .i64 k1, .string S1, .bool b1, .int .u64 n1, .slice lo1 ln1 lc1, .slice mo1 mn1 mc1, .string I1, .string U1] [.int .i64 k2, .string S2, .bool b2, .int .u64 n2, .slice lo2 ln2 lc2, .slice mo2 mn2 mc2, .string I2, .string U2] → a.cell? ⟨w.heap.size, 2, none⟩ = some (.bool b1) := fun a ha => row_cell ha.1 (j := 2) rfl
    have eb2 : ∀ a : World, AB a w.heap.size [.int .i64 k1, .string S1, .bool b1, .int .u64 n1, .slice lo1 ln1 lc1, .slice mo1 mn1 mc1, .string I1, .string U1] [.int .i64 k2, .string S2, .bool b2, .int .u64 n2, .slice lo2 ln2 lc2, .slice mo2 mn2 mc2, .string I2, .string U2] → a.cell? ⟨w.heap.size + 1, 2, none⟩ = some (.bool b2) := fun a ha => row_cell ha.2 (j := 2) rfl
    have ea3 : ∀ a : World, AB a w.heap.size [.int .i64 k1, .string S1, .bool b1, .int .u64 n1, .slice lo1 ln1 lc1, .slice mo1 mn1 mc1, .string I1, .string U1] [.int .i64 k2, .string S2, .bool b2, .int .u64 n2, .slice lo2 ln2 lc2, .slice mo2 mn2 mc2, .string I2, .string U2] → a.cell? ⟨w.heap.size, 3, none⟩ = some (.int .u64 n1) := fun a ha => row_cell ha.1 (j := 3) rfl
    have eb3 : ∀ a : World, AB a w.heap.size [.int .i64 k1, .string S1, .bool b1, .int .u64 n1, .slice lo1 ln1 lc1, .slice mo1 mn1 mc1, .string I1, .string U1] [.int .i64 k2, .string S2, .bool b2, .int .u64 n2, .slice lo2 ln2 lc2, .slice mo2 mn2 mc2, .string I2, .string U2] → a.cell? ⟨w.heap.size + 1, 3, none⟩ = some (.int .u64 n2) := fun a ha => row_cell ha.2 (j := 3) rfl
    have ea4 : ∀ a : World, AB a w.heap.size [.int .i64 k1, .string S1, .bool b1, .int .u64 n1, .slice lo1 ln1 lc1, .slice mo1 mn1 mc1, .string I1, .string U1] [.int .i64 k2, .string S2, .bool b2, .int .u64 n2, .slice lo2 ln2 lc2, .slice mo2 mn2 mc2, .string I2, .string U2] → a.cell? ⟨w.heap.size, 4, none⟩ = some (.slice lo1 ln1 lc1) := fun a ha => row_cell ha.1 (j := 4) rfl
    have eb4 : ∀ a : World, AB a w.heap.size [.int .i64 k1, .string S1, .bool b1, .int .u64 n1, .slice lo1 ln1 lc1, .slice mo1 mn1 mc1, .string I1, .string U1] [.int .i64 k2, .string S2, .bool b2, .int .u64 n2, .slice lo2 ln2 lc2, .slice mo2 mn2 mc2, .string I2, .string U2] → a.cell? ⟨w.heap.size + 1, 4, none⟩ = some (.slice lo2 ln2 lc2) := fun a ha => row_cell ha.2 (j := 4) rfl
    have ea5 : ∀ a : World, AB a w.heap.size [.int .i64 k1, .string S1, .bool b1, .int .u64 n1, .slice lo1 ln1 lc1, .slice mo1 mn1 mc1, .string I1, .string U1] [.int .i64 k2, .string S2, .bool b2, .int .u64 n2, .slice lo2 ln2 lc2, .slice mo2 mn2 mc2, .string I2, .string U2] → a.cell? ⟨w.heap.size, 5, none⟩ = some (.slice mo1 mn1 mc1) := fun a ha => row_cell ha.1 (j := 5) rfl
    have eb5 : ∀ a : World, AB a w.heap.size [.int .i64 k1, .string S1, .bool b1, .int .u64 n1, .slice lo1 ln1 lc1, .slice mo1 mn1 mc1, .string I1, .string U1] [.int .i64 k2, .string S2, .bool b2, .int .u64 n2, .slice lo2 ln2 lc2, .slice mo2 mn2 mc2, .string I2, .string U2] → a.cell? ⟨w.heap.size + 1, 5, none⟩ = some (.slice mo2 mn2 mc2) := fun a ha => row_cell ha.2 (j := 5) rfl
    have ea6 : ∀ a : World, AB a w.heap.size [.int .i64 k1, .string S1, .bool b1, .int .u64 n1, .slice lo1 ln1 lc1, .slice mo1 mn1 mc1, .string I1, .string U1] [.int .i64 k2, .string S2, .bool b2, .int .u64 n2, .slice lo2 ln2 lc2, .slice mo2 mn2 mc2, .string I2, .string U2] → a.cell? ⟨w.heap.size, 6, none⟩ = some (.string I1) := fun a ha => row_cell ha.1 (j := 6) rfl
    have eb6 : ∀ a : World, AB a w.heap.size [.int .i64 k1, .string S1, .bool b1, .int .u64 n1, .slice lo1 ln1 lc1, .slice mo1 mn1 mc1, .string I1, .string U1] [.int .i64 k2, .string S2, .bool b2, .int .u64 n2, .slice lo2 ln2 lc2, .slice mo2 mn2 mc2, .string I2, .string U2] → a.cell? ⟨w.heap.size + 1, 6, none⟩ = some (.string I2) := fun a ha => row_cell ha.2 (j := 6) rfl
    have ea7 : ∀ a : World, AB a w.heap.size [.int .i64 k1, .string S1, .bool b1, .int .u64 n1, .slice lo1 ln1 lc1, .slice mo1 mn1 mc1, .string I1, .string U1] [.int .i64 k2, .string S2, .bool b2, .int .u64 n2, .slice lo2 ln2 lc2, .slice mo2 mn2 mc2, .string I2, .string U2] → a.cell? ⟨w.heap.size, 7, none⟩ = some (.string U1) := fun a ha => row_cell ha.1 (j := 7) rfl
    have eb7 : ∀ a : World, AB a w.heap.size [.int .i64 k1, .string S1, .bool b1, .int .u64 n1, .slice lo1 ln1 lc1, .slice mo1 mn1 mc1, .string I1, .string U1] [.int .i64 k2, .string S2, .bool b2, .int .u64 n2, .slice lo2 ln2 lc2, .slice mo2 mn2 mc2, .string I2, .string U2] → a.cell? ⟨w.heap.size + 1, 7, none⟩ = some (.string U2) := fun a ha => row_cell ha.2 (j := 7) rfl
    refine wp_region_seq (S := fun w' => AB w' w.heap.size [.int .i64 k1, .string S1, .bool b1, .int .u64 n1, .slice lo1 ln1 lc1, .slice mo1 mn1 mc1, .string I1, .string U1] [.int .i64 k2, .string S2, .bool b2, .int .u64 n2, .slice lo2 ln2 lc2, .slice mo2 mn2 mc2, .string I2, .string U2]) [(0, false), (1, true), (2, true), (3, true), (5, true), (6, true), (4, false), (7, false), (8, true), (9, true), (10, true), (11, true), (12, true), (14, true), (15, true), (13, false), (16, false), (17, true), (18, true), (19, true), (20, true), (21, true), (22, false), (23, true), (24, true), (25, true), (26, true), (27, false), (28, true), (29, true)] (by kernel_rfl) (by kernel_rfl) (by kernel_rfl) (by kernel_rfl) (by rw [hD]; exact hS) ?_
    rw [hD]
    clear hD
    refine seq_come _ rfl (fun K2 hK => ?_); go_simp
    refine (first8 D7 (HG.out.below HB7.out)).mono ?_; rintro e t1 ⟨rfl, hb⟩
    have HBt1 := Lib.hid (below_step HB7.out hb)
    have hS_t1 : AB t1 w.heap.size [.int .i64 k1, .string S1, .bool b1, .int .u64 n1, .slice lo1 ln1 lc1, .slice mo1 mn1 mc1, .string I1, .string U1] [.int .i64 k2, .string S2, .bool b2, .int .u64 n2, .slice lo2 ln2 lc2, .slice mo2 mn2 mc2, .string I2, .string U2] := hS.below hb
    go_simp; refine hK.out _ _ hS_t1 ?_; clear hK K2 hb
    iterate 1 (refine seq_take _ rfl (fun K2 hK => ?_); go_simp; (first | refine hK _ ?_ | refine ⟨_, fun _ _ => rfl, hK _ ?_⟩ | (refine ⟨undef, by rw [if_neg (by simp [undef])], ?_⟩; refine hK _ ?_)); clear hK K2)
    refine seq_take _ rfl (fun K2 hK => ?_); go_simp
    refine ⟨.agg #[.int .i64 k1, .string S1, .bool b1, .int .u64 n1, .slice lo1 ln1 lc1, .slice mo1 mn1 mc1, .string I1, .string U1], fun a ha => by simp only [ea0 a ha, ea1 a ha, ea2 a ha, ea3 a ha, ea4 a ha, ea5 a ha, ea6 a ha, ea7 a ha, Result.andThen], hK _ ?_⟩
    clear hK K2
    refine seq_take _ rfl (fun K2 hK => ?_); go_simp
    refine ⟨.agg #[.int .i64 k2, .string S2, .bool b2, .int .u64 n2, .slice lo2 ln2 lc2, .slice mo2 mn2 mc2, .string I2, .string U2], fun a ha => by simp only [eb0 a ha, eb1 a ha, eb2 a ha, eb3 a ha, eb4 a ha, eb5 a ha, eb6 a ha, eb7 a ha, Result.andThen], hK _ ?_⟩
    clear hK K2
    refine seq_take _ rfl (fun K2 hK => ?_); go_simp
    refine ⟨.agg #[.int .i64 k1, .string S1, .bool b1, .int .u64 n1, .slice lo1 ln1 lc1, .slice mo1 mn1 mc1, .string I1, .string U1], fun a ha => by simp only [ea0 a ha, ea1 a ha, ea2 a ha, ea3 a ha, ea4 a ha, ea5 a ha, ea6 a ha, ea7 a ha, Result.andThen], hK _ ?_⟩
    clear hK K2
    refine seq_take _ rfl (fun K2 hK => ?_); go_simp
    refine ⟨.agg #[.int .i64 k2, .string S2, .bool b2, .int .u64 n2, .slice lo2 ln2 lc2, .slice mo2 mn2 mc2, .string I2, .string U2], fun a ha => by simp only [eb0 a ha, eb1 a ha, eb2 a ha, eb3 a ha, eb4 a ha, eb5 a ha, eb6 a ha, eb7 a ha, Result.andThen], hK _ ?_⟩
    clear hK K2
    refine seq_come _ rfl (fun K2 hK => ?_); go_simp
    refine ((val_same x) y [.int .i64 k1, .string S1, .bool b1, .int .u64 n1, .slice lo1 ln1 lc1, .slice mo1 mn1 mc1, .string I1, .string U1] [.int .i64 k2, .string S2, .bool b2, .int .u64 n2, .slice lo2 ln2 lc2, .slice mo2 mn2 mc2, .string I2, .string U2] _ _ t1 HXL.out (HX.out.below HBt1.out) (HY.out.below HBt1.out)).mono ?_; rintro e t2 ⟨rfl, hb⟩
    rw [HR1.out]
    have HBt2 := Lib.hid (below_step HBt1.out hb)
    have hS_t2 : AB t2 w.heap.size [.int .i64 k1, .string S1, .bool b1, .int .u64 n1, .slice lo1 ln1 lc1, .slice mo1 mn1 mc1, .string I1, .string U1] [.int .i64 k2, .string S2, .bool b2, .int .u64 n2, .slice lo2 ln2 lc2, .slice mo2 mn2 mc2, .string I2, .string U2] := hS_t1.below hb
    go_simp; refine hK.out _ _ hS_t2 ?_; clear hK K2 hb
    refine seq_come _ rfl (fun K2 hK => ?_); go_simp
    refine ((hval_same x) y [.int .i64 k1, .string S1, .bool b1, .int .u64 n1, .slice lo1 ln1 lc1, .slice mo1 mn1 mc1, .string I1, .string U1] [.int .i64 k2, .string S2, .bool b2, .int .u64 n2, .slice lo2 ln2 lc2, .slice mo2 mn2 mc2, .string I2, .string U2] _ _ t2 HXL.out (HX.out.below HBt2.out) (HY.out.below HBt2.out)).mono ?_; rintro e t3 ⟨rfl, hb⟩
    rw [HR1.out]
    have HBt3 := Lib.hid (below_step HBt2.out hb)
    have hS_t3 : AB t3 w.heap.size [.int .i64 k1, .string S1, .bool b1, .int .u64 n1, .slice lo1 ln1 lc1, .slice mo1 mn1 mc1, .string I1, .string U1] [.int .i64 k2, .string S2, .bool b2, .int .u64 n2, .slice lo2 ln2 lc2, .slice mo2 mn2 mc2, .string I2, .string U2] := hS_t2.below hb
    go_simp; refine hK.out _ _ hS_t3 ?_; clear hK K2 hb
    iterate 7 (refine seq_take _ rfl (fun K2 hK => ?_); go_simp; (first | refine hK _ ?_ | refine ⟨_, fun _ _ => rfl, hK _ ?_⟩ | (refine ⟨undef, by rw [if_neg (by simp [undef])], ?_⟩; refine hK _ ?_)); clear hK K2)
    refine seq_come _ rfl (fun K2 hK => ?_); go_simp
    refine ((keys_same l) m _ _ _ _ _ _ t3 hll HL1.out (HL.out.below HBt3.out) (HM.out.below HBt3.out)).mono ?_; rintro e t4 ⟨rfl, hb⟩
    rw [HR2.out]
    have HBt4 := Lib.hid (below_step HBt3.out hb)
    have hS_t4 : AB t4 w.heap.size [.int .i64 k1, .string S1, .bool b1, .int .u64 n1, .slice lo1 ln1 lc1, .slice mo1 mn1 mc1, .string I1, .string U1] [.int .i64 k2, .string S2, .bool b2, .int .u64 n2, .slice lo2 ln2 lc2, .slice mo2 mn2 mc2, .string I2, .string U2] := hS_t3.below hb
    go_simp; refine hK.out _ _ hS_t4 ?_; clear hK K2 hb
    refine seq_come _ rfl (fun K2 hK => ?_); go_simp
    refine ((hkeys_same l) m _ _ _ _ _ _ t4 hll HL1.out (HL.out.below HBt4.out) (HM.out.below HBt4.out)).mono ?_; rintro e t5 ⟨rfl, hb⟩
    rw [HR2.out]
    have HBt5 := Lib.hid (below_step HBt4.out hb)
    have hS_t5 : AB t5 w.heap.size [.int .i64 k1, .string S1, .bool b1, .int .u64 n1, .slice lo1 ln1 lc1, .slice mo1 mn1 mc1, .string I1, .string U1] [.int .i64 k2, .string S2, .bool b2, .int .u64 n2, .slice lo2 ln2 lc2, .slice mo2 mn2 mc2, .string I2, .string U2] := hS_t4.below hb
    go_simp; refine hK.out _ _ hS_t5 ?_; clear hK K2 hb
    iterate 3 (refine seq_take _ rfl (fun K2 hK => ?_); go_simp; (first | refine hK _ ?_ | refine ⟨_, fun _ _ => rfl, hK _ ?_⟩ | (refine ⟨undef, by rw [if_neg (by simp [undef])], ?_⟩; refine hK _ ?_)); clear hK K2)
    refine seq_take _ rfl (fun K2 hK => ?_); go_simp
    refine ⟨.agg #[.int .i64 k1, .string S1, .bool b1, .int .u64 n1, .slice lo1 ln1 lc1, .slice mo1 mn1 mc1, .string I1, .string U1], fun a ha => by simp only [ea0 a ha, ea1 a ha, ea2 a ha, ea3 a ha, ea4 a ha, ea5 a ha, ea6 a ha, ea7 a ha, Result.andThen], hK _ ?_⟩
    clear hK K2
    refine seq_take _ rfl (fun K2 hK => ?_); go_simp
    refine ⟨.agg #[.int .i64 k1, .string S1, .bool b1, .int .u64 n1, .slice lo1 ln1 lc1, .slice mo1 mn1 mc1, .string I1, .string U1], fun a ha => by simp only [ea0 a ha, ea1 a ha, ea2 a ha, ea3 a ha, ea4 a ha, ea5 a ha, ea6 a ha, ea7 a ha, Result.andThen], hK _ ?_⟩
    clear hK K2
    refine seq_come _ rfl (fun K2 hK => ?_); go_simp
    refine ((val_same x) x [.int .i64 k1, .string S1, .bool b1, .int .u64 n1, .slice lo1 ln1 lc1, .slice mo1 mn1 mc1, .string I1, .string U1] [.int .i64 k1, .string S1, .bool b1, .int .u64 n1, .slice lo1 ln1 lc1, .slice mo1 mn1 mc1, .string I1, .string U1] _ _ t5 HXL.out (HX.out.below HBt5.out) (HX.out.below HBt5.out)).mono ?_; rintro e t6 ⟨rfl, hb⟩
    rw [alike_yes rfl]
    have HBt6 := Lib.hid (below_step HBt5.out hb)
    have hS_t6 : AB t6 w.heap.size [.int .i64 k1, .string S1, .bool b1, .int .u64 n1, .slice lo1 ln1 lc1, .slice mo1 mn1 mc1, .string I1, .string U1] [.int .i64 k2, .string S2, .bool b2, .int .u64 n2, .slice lo2 ln2 lc2, .slice mo2 mn2 mc2, .string I2, .string U2] := hS_t5.below hb
    go_simp; refine hK.out _ _ hS_t6 ?_; clear hK K2 hb
    iterate 4 (refine seq_take _ rfl (fun K2 hK => ?_); go_simp; (first | refine hK _ ?_ | refine ⟨_, fun _ _ => rfl, hK _ ?_⟩ | (refine ⟨undef, by rw [if_neg (by simp [undef])], ?_⟩; refine hK _ ?_)); clear hK K2)
    refine seq_come _ rfl (fun K2 hK => ?_); go_simp
    refine ((keys_same l) l _ _ _ _ _ _ t6 hll HL1.out (HL.out.below HBt6.out) (HL.out.below HBt6.out)).mono ?_; rintro e t7 ⟨rfl, hb⟩
    rw [alike_yes rfl]
    have HBt7 := Lib.hid (below_step HBt6.out hb)
    have hS_t7 : AB t7 w.heap.size [.int .i64 k1, .string S1, .bool b1, .int .u64 n1, .slice lo1 ln1 lc1, .slice mo1 mn1 mc1, .string I1, .string U1] [.int .i64 k2, .string S2, .bool b2, .int .u64 n2, .slice lo2 ln2 lc2, .slice mo2 mn2 mc2, .string I2, .string U2] := hS_t6.below hb
    go_simp; refine hK.out _ _ hS_t7 ?_; clear hK K2 hb
    iterate 2 (refine seq_take _ rfl (fun K2 hK => ?_); go_simp; (first | refine hK _ ?_ | refine ⟨_, fun _ _ => rfl, hK _ ?_⟩ | (refine ⟨undef, by rw [if_neg (by simp [undef])], ?_⟩; refine hK _ ?_)); clear hK K2)
    refine seq_done ?_
    go_wp2_with fail
    go_ret
    exact ⟨rfl, HBt7.out⟩
  by_cases hmp : 0 < m.length
  case neg =>
    go_wp2_with fail
    obtain ⟨D5, hD⟩ : ∃ D, w5.drew = D := ⟨_, rfl⟩
    have HBD5 : Hid (Below w5.heap.size w5 D5) := Lib.hid (by rw [← hD]; exact (Below.refl _ _).drew)
    have hne : Nonempty {w' : World // (fun _ => True) w'} := ⟨⟨w5, trivial⟩⟩
    refine wp_region_seq (S := fun _ => True) [(0, true), (1, true), (2, true), (3, true), (4, true), (5, true), (6, true), (7, true), (8, true), (9, true), (10, true), (11, true), (12, true), (13, true), (14, true), (16, true), (17, true), (18, true), (19, true), (20, true), (21, true), (15, false), (22, false), (23, true), (24, true)] (by kernel_rfl) (by kernel_rfl) (by kernel_rfl) (by kernel_rfl) trivial ?_
    rw [hD]
    clear hD
    iterate 21 (refine seq_take _ rfl (fun K2 hK => ?_); go_simp; (first | refine hK _ ?_ | refine ⟨_, fun _ _ => rfl, hK _ ?_⟩ | (refine ⟨undef, by rw [if_neg (by simp [undef])], ?_⟩; refine hK _ ?_)); clear hK K2)
    refine seq_come _ rfl (fun K2 hK => ?_); go_simp
    (first | refine hK.out _ _ trivial ?_ | (rw [if_neg (by simp [undef])]; refine hK.out _ _ trivial ?_)); clear hK K2
    refine seq_come _ rfl (fun K2 hK => ?_); go_simp
    (first | refine hK.out _ _ trivial ?_ | (rw [if_neg (by simp [undef])]; refine hK.out _ _ trivial ?_)); clear hK K2
    iterate 2 (refine seq_take _ rfl (fun K2 hK => ?_); go_simp; (first | refine hK _ ?_ | refine ⟨_, fun _ _ => rfl, hK _ ?_⟩ | (refine ⟨undef, by rw [if_neg (by simp [undef])], ?_⟩; refine hK _ ?_)); clear hK K2)
    refine seq_done ?_
    clear hne
    have HB6 := Lib.hid (below_step HB5.out HBD5.out)
    have HAB6 := Lib.hid (HAB5.out.below HBD5.out)
    go_wp2_with fail
    obtain ⟨D7, hD⟩ : ∃ D, D5.drew = D := ⟨_, rfl⟩
    have HBD7 : Hid (Below D5.heap.size D5 D7) := Lib.hid (by rw [← hD]; exact (Below.refl _ _).drew)
    have hS : AB D7 w.heap.size [.int .i64 k1, .string S1, .bool b1, .int .u64 n1, .slice lo1 ln1 lc1, .slice mo1 mn1 mc1, .string I1, .string U1] [.int .i64 k2, .string S2, .bool b2, .int .u64 n2, .slice lo2 ln2 lc2, .slice mo2 mn2 mc2, .string I2, .string U2] := HAB6.out.below HBD7.out
    have HB7 := Lib.hid (below_step HB6.out HBD7.out)
    have hne : Nonempty {w' : World // AB w' w.heap.size [.int .i64 k1, .string S1, .bool b1, .int .u64 n1, .slice lo1 ln1 lc1, .slice mo1 mn1 mc1, .string I1, .string U1] [.int .i64 k2, .string S2, .bool b2, .int .u64 n2, .slice lo2 ln2 lc2, .slice mo2 mn2 mc2, .string I2, .string U2]} := ⟨⟨_, hS⟩⟩
    have ea0 : ∀ a : World, AB a w.heap.size [.int .i64 k1, .string S1, .bool b1, .int .u64 n1, .slice lo1 ln1 lc1, .slice mo1 mn1 mc1, .string I1, .string U1] [.int .i64 k2, .string S2, .bool b2, .int .u64 n2, .slice lo2 ln2 lc2, .slice mo2 mn2 mc2, .string I2, .string U2] → a.cell? ⟨w.heap.size, 0, none⟩ = some (.int .i64 k1) := fun a ha => row_cell ha.1 (j := 0) rfl
    have eb0 : ∀ a : World, AB a w.heap.size [.int .i64 k1, .string S1, .bool b1, .int .u64 n1, .slice lo1 ln1 lc1, .slice mo1 mn1 mc1, .string I1, .string U1] [.int .i64 k2, .string S2, .bool b2, .int .u64 n2, .slice lo2 ln2 lc2, .slice mo2 mn2 mc2, .string I2, .string U2] → a.cell? ⟨w.heap.size + 1, 0, none⟩ = some (.int .i64 k2) := fun a ha => row_cell ha.2 (j := 0) rfl
    have ea1 : ∀ a : World, AB a w.heap.size [.int .i64 k1, .string S1, .bool b1, .int .u64 n1, .slice lo1 ln1 lc1, .slice mo1 mn1 mc1, .string I1, .string U1] [.int .i64 k2, .string S2, .bool b2, .int .u64 n2, .slice lo2 ln2 lc2, .slice mo2 mn2 mc2, .string I2, .string U2] → a.cell? ⟨w.heap.size, 1, none⟩ = some (.string S1) := fun a ha => row_cell ha.1 (j := 1) rfl
    have eb1 : ∀ a : World, AB a w.heap.size [.int .i64 k1, .string S1, .bool b1, .int .u64 n1, .slice lo1 ln1 lc1, .slice mo1 mn1 mc1, .string I1, .string U1] [.int .i64 k2, .string S2, .bool b2, .int .u64 n2, .slice lo2 ln2 lc2, .slice mo2 mn2 mc2, .string I2, .string U2] → a.cell? ⟨w.heap.size + 1, 1, none⟩ = some (.string S2) := fun a ha => row_cell ha.2 (j := 1) rfl
    have ea2 : ∀ a : World, AB a w.heap.size [.int .i64 k1, .string S1, .bool b1, .int .u64 n1, .slice lo1 ln1 lc1, .slice mo1 mn1 mc1, .string I1, .string U1] [.int .i64 k2, .string S2, .bool b2, .int .u64 n2, .slice lo2 ln2 lc2, .slice mo2 mn2 mc2, .string I2, .string U2] → a.cell? ⟨w.heap.size, 2, none⟩ = some (.bool b1) := fun a ha => row_cell ha.1 (j := 2) rfl
    have eb2 : ∀ a : World, AB a w.heap.size [.int .i64 k1, .string S1, .bool b1, .int .u64 n1, .slice lo1 ln1 lc1, .slice mo1 mn1 mc1, .string I1, .string U1] [.int .i64 k2, .string S2, .bool b2, .int .u64 n2, .slice lo2 ln2 lc2, .slice mo2 mn2 mc2, .string I2, .string U2] → a.cell? ⟨w.heap.size + 1, 2, none⟩ = some (.bool b2) := fun a ha => row_cell ha.2 (j := 2) rfl
    have ea3 : ∀ a : World, AB a w.heap.size [.int .i64 k1, .string S1, .bool b1, .int .u64 n1, .slice lo1 ln1 lc1, .slice mo1 mn1 mc1, .string I1, .string U1] [.int .i64 k2, .string S2, .bool b2, .int .u64 n2, .slice lo2 ln2 lc2, .slice mo2 mn2 mc2, .string I2, .string U2] → a.cell? ⟨w.heap.size, 3, none⟩ = some (.int .u64 n1) := fun a ha => row_cell ha.1 (j := 3) rfl
    have eb3 : ∀ a : World, AB a w.heap.size [.int .i64 k1, .string S1, .bool b1, .int .u64 n1, .slice lo1 ln1 lc1, .slice mo1 mn1 mc1, .string I1, .string U1] [.int .i64 k2, .string S2, .bool b2, .int .u64 n2, .slice lo2 ln2 lc2, .slice mo2 mn2 mc2, .string I2, .string U2] → a.cell? ⟨w.heap.size + 1, 3, none⟩ = some (.int .u64 n2) := fun a ha => row_cell ha.2 (j := 3) rfl
    have ea4 : ∀ a : World, AB a w.heap.size [.int .i64 k1, .string S1, .bool b1, .int .u64 n1, .slice lo1 ln1 lc1, .slice mo1 mn1 mc1, .string I1, .string U1] [.int .i64 k2, .string S2, .bool b2, .int .u64 n2, .slice lo2 ln2 lc2, .slice mo2 mn2 mc2, .string I2, .string U2] → a.cell? ⟨w.heap.size, 4, none⟩ = some (.slice lo1 ln1 lc1) := fun a ha => row_cell ha.1 (j := 4) rfl
    have eb4 : ∀ a : World, AB a w.heap.size [.int .i64 k1, .string S1, .bool b1, .int .u64 n1, .slice lo1 ln1 lc1, .slice mo1 mn1 mc1, .string I1, .string U1] [.int .i64 k2, .string S2, .bool b2, .int .u64 n2, .slice lo2 ln2 lc2, .slice mo2 mn2 mc2, .string I2, .string U2] → a.cell? ⟨w.heap.size + 1, 4, none⟩ = some (.slice lo2 ln2 lc2) := fun a ha => row_cell ha.2 (j := 4) rfl
    have ea5 : ∀ a : World, AB a w.heap.size [.int .i64 k1, .string S1, .bool b1, .int .u64 n1, .slice lo1 ln1 lc1, .slice mo1 mn1 mc1, .string I1, .string U1] [.int .i64 k2, .string S2, .bool b2, .int .u64 n2, .slice lo2 ln2 lc2, .slice mo2 mn2 mc2, .string I2, .string U2] → a.cell? ⟨w.heap.size, 5, none⟩ = some (.slice mo1 mn1 mc1) := fun a ha => row_cell ha.1 (j := 5) rfl
    have eb5 : ∀ a : World, AB a w.heap.size [.int .i64 k1, .string S1, .bool b1, .int .u64 n1, .slice lo1 ln1 lc1, .slice mo1 mn1 mc1, .string I1, .string U1] [.int .i64 k2, .string S2, .bool b2, .int .u64 n2, .slice lo2 ln2 lc2, .slice mo2 mn2 mc2, .string I2, .string U2] → a.cell? ⟨w.heap.size + 1, 5, none⟩ = some (.slice mo2 mn2 mc2) := fun a ha => row_cell ha.2 (j := 5) rfl
    have ea6 : ∀ a : World, AB a w.heap.size [.int .i64 k1, .string S1, .bool b1, .int .u64 n1, .slice lo1 ln1 lc1, .slice mo1 mn1 mc1, .string I1, .string U1] [.int .i64 k2, .string S2, .bool b2, .int .u64 n2, .slice lo2 ln2 lc2, .slice mo2 mn2 mc2, .string I2, .string U2] → a.cell? ⟨w.heap.size, 6, none⟩ = some (.string I1) := fun a ha => row_cell ha.1 (j := 6) rfl
    have eb6 : ∀ a : World, AB a w.heap.size [.int .i64 k1, .string S1, .bool b1, .int .u64 n1, .slice lo1 ln1 lc1, .slice mo1 mn1 mc1, .string I1, .string U1] [.int .i64 k2, .string S2, .bool b2, .int .u64 n2, .slice lo2 ln2 lc2, .slice mo2 mn2 mc2, .string I2, .string U2] → a.cell? ⟨w.heap.size + 1, 6, none⟩ = some (.string I2) := fun a ha => row_cell ha.2 (j := 6) rfl
    have ea7 : ∀ a : World, AB a w.heap.size [.int .i64 k1, .string S1, .bool b1, .int .u64 n1, .slice lo1 ln1 lc1, .slice mo1 mn1 mc1, .string I1, .string U1] [.int .i64 k2, .string S2, .bool b2, .int .u64 n2, .slice lo2 ln2 lc2, .slice mo2 mn2 mc2, .string I2, .string U2] → a.cell? ⟨w.heap.size, 7, none⟩ = some (.string U1) := fun a ha => row_cell ha.1 (j := 7) rfl
    have eb7 : ∀ a : World, AB a w.heap.size [.int .i64 k1, .string S1, .bool b1, .int .u64 n1, .slice lo1 ln1 lc1, .slice mo1 mn1 mc1, .string I1, .string U1] [.int .i64 k2, .string S2, .bool b2, .int .u64 n2, .slice lo2 ln2 lc2, .slice mo2 mn2 mc2, .string I2, .string U2] → a.cell? ⟨w.heap.size + 1, 7, none⟩ = some (.string U2) := fun a ha => row_cell ha.2 (j := 7) rfl
    refine wp_region_seq (S := fun w' => AB w' w.heap.size [.int .i64 k1, .string S1, .bool b1, .int .u64 n1, .slice lo1 ln1 lc1, .slice mo1 mn1 mc1, .string I1, .string U1] [.int .i64 k2, .string S2, .bool b2, .int .u64 n2, .slice lo2 ln2 lc2, .slice mo2 mn2 mc2, .string I2, .string U2]) [(0, false), (1, true), (2, true), (3, true), (5, true), (6, true), (4, false), (7, false), (8, true), (9, true), (10, true), (11, true), (12, true), (14, true), (15, true), (13, false), (16, false), (17, true), (18, true), (19, true), (20, true), (21, true), (22, false), (23, true), (24, true), (25, true), (26, true), (27, false), (28, true), (29, true)] (by kernel_rfl) (by kernel_rfl) (by kernel_rfl) (by kernel_rfl) (by rw [hD]; exact hS) ?_
    rw [hD]
    clear hD
    refine seq_come _ rfl (fun K2 hK => ?_); go_simp
    refine (first8 D7 (HG.out.below HB7.out)).mono ?_; rintro e t1 ⟨rfl, hb⟩
    have HBt1 := Lib.hid (below_step HB7.out hb)
    have hS_t1 : AB t1 w.heap.size [.int .i64 k1, .string S1, .bool b1, .int .u64 n1, .slice lo1 ln1 lc1, .slice mo1 mn1 mc1, .string I1, .string U1] [.int .i64 k2, .string S2, .bool b2, .int .u64 n2, .slice lo2 ln2 lc2, .slice mo2 mn2 mc2, .string I2, .string U2] := hS.below hb
    go_simp; refine hK.out _ _ hS_t1 ?_; clear hK K2 hb
    iterate 1 (refine seq_take _ rfl (fun K2 hK => ?_); go_simp; (first | refine hK _ ?_ | refine ⟨_, fun _ _ => rfl, hK _ ?_⟩ | (refine ⟨undef, by rw [if_neg (by simp [undef])], ?_⟩; refine hK _ ?_)); clear hK K2)
    refine seq_take _ rfl (fun K2 hK => ?_); go_simp
    refine ⟨.agg #[.int .i64 k1, .string S1, .bool b1, .int .u64 n1, .slice lo1 ln1 lc1, .slice mo1 mn1 mc1, .string I1, .string U1], fun a ha => by simp only [ea0 a ha, ea1 a ha, ea2 a ha, ea3 a ha, ea4 a ha, ea5 a ha, ea6 a ha, ea7 a ha, Result.andThen], hK _ ?_⟩
    clear hK K2
    refine seq_take _ rfl (fun K2 hK => ?_); go_simp
    refine ⟨.agg #[.int .i64 k2, .string S2, .bool b2, .int .u64 n2, .slice lo2 ln2 lc2, .slice mo2 mn2 mc2, .string I2, .string U2], fun a ha => by simp only [eb0 a ha, eb1 a ha, eb2 a ha, eb3 a ha, eb4 a ha, eb5 a ha, eb6 a ha, eb7 a ha, Result.andThen], hK _ ?_⟩
    clear hK K2
    refine seq_take _ rfl (fun K2 hK => ?_); go_simp
    refine ⟨.agg #[.int .i64 k1, .string S1, .bool b1, .int .u64 n1, .slice lo1 ln1 lc1, .slice mo1 mn1 mc1, .string I1, .string U1], fun a ha => by simp only [ea0 a ha, ea1 a ha, ea2 a ha, ea3 a ha, ea4 a ha, ea5 a ha, ea6 a ha, ea7 a ha, Result.andThen], hK _ ?_⟩
    clear hK K2
    refine seq_take _ rfl (fun K2 hK => ?_); go_simp
    refine ⟨.agg #[.int .i64 k2, .string S2, .bool b2, .int .u64 n2, .slice lo2 ln2 lc2, .slice mo2 mn2 mc2, .string I2, .string U2], fun a ha => by simp only [eb0 a ha, eb1 a ha, eb2 a ha, eb3 a ha, eb4 a ha, eb5 a ha, eb6 a ha, eb7 a ha, Result.andThen], hK _ ?_⟩
    clear hK K2
    refine seq_come _ rfl (fun K2 hK => ?_); go_simp
    refine ((val_same x) y [.int .i64 k1, .string S1, .bool b1, .int .u64 n1, .slice lo1 ln1 lc1, .slice mo1 mn1 mc1, .string I1, .string U1] [.int .i64 k2, .string S2, .bool b2, .int .u64 n2, .slice lo2 ln2 lc2, .slice mo2 mn2 mc2, .string I2, .string U2] _ _ t1 HXL.out (HX.out.below HBt1.out) (HY.out.below HBt1.out)).mono ?_; rintro e t2 ⟨rfl, hb⟩
    rw [HR1.out]
    have HBt2 := Lib.hid (below_step HBt1.out hb)
    have hS_t2 : AB t2 w.heap.size [.int .i64 k1, .string S1, .bool b1, .int .u64 n1, .slice lo1 ln1 lc1, .slice mo1 mn1 mc1, .string I1, .string U1] [.int .i64 k2, .string S2, .bool b2, .int .u64 n2, .slice lo2 ln2 lc2, .slice mo2 mn2 mc2, .string I2, .string U2] := hS_t1.below hb
    go_simp; refine hK.out _ _ hS_t2 ?_; clear hK K2 hb
    refine seq_come _ rfl (fun K2 hK => ?_); go_simp
    refine ((hval_same x) y [.int .i64 k1, .string S1, .bool b1, .int .u64 n1, .slice lo1 ln1 lc1, .slice mo1 mn1 mc1, .string I1, .string U1] [.int .i64 k2, .string S2, .bool b2, .int .u64 n2, .slice lo2 ln2 lc2, .slice mo2 mn2 mc2, .string I2, .string U2] _ _ t2 HXL.out (HX.out.below HBt2.out) (HY.out.below HBt2.out)).mono ?_; rintro e t3 ⟨rfl, hb⟩
    rw [HR1.out]
    have HBt3 := Lib.hid (below_step HBt2.out hb)
    have hS_t3 : AB t3 w.heap.size [.int .i64 k1, .string S1, .bool b1, .int .u64 n1, .slice lo1 ln1 lc1, .slice mo1 mn1 mc1, .string I1, .string U1] [.int .i64 k2, .string S2, .bool b2, .int .u64 n2, .slice lo2 ln2 lc2, .slice mo2 mn2 mc2, .string I2, .string U2] := hS_t2.below hb
    go_simp; refine hK.out _ _ hS_t3 ?_; clear hK K2 hb
    iterate 7 (refine seq_take _ rfl (fun K2 hK => ?_); go_simp; (first | refine hK _ ?_ | refine ⟨_, fun _ _ => rfl, hK _ ?_⟩ | (refine ⟨undef, by rw [if_neg (by simp [undef])], ?_⟩; refine hK _ ?_)); clear hK K2)
    refine seq_come _ rfl (fun K2 hK => ?_); go_simp
    refine ((keys_same l) m _ _ _ _ _ _ t3 hll HL1.out (HL.out.below HBt3.out) (HM.out.below HBt3.out)).mono ?_; rintro e t4 ⟨rfl, hb⟩
    rw [HR2.out]
    have HBt4 := Lib.hid (below_step HBt3.out hb)
    have hS_t4 : AB t4 w.heap.size [.int .i64 k1, .string S1, .bool b1, .int .u64 n1, .slice lo1 ln1 lc1, .slice mo1 mn1 mc1, .string I1, .string U1] [.int .i64 k2, .string S2, .bool b2, .int .u64 n2, .slice lo2 ln2 lc2, .slice mo2 mn2 mc2, .string I2, .string U2] := hS_t3.below hb
    go_simp; refine hK.out _ _ hS_t4 ?_; clear hK K2 hb
    refine seq_come _ rfl (fun K2 hK => ?_); go_simp
    refine ((hkeys_same l) m _ _ _ _ _ _ t4 hll HL1.out (HL.out.below HBt4.out) (HM.out.below HBt4.out)).mono ?_; rintro e t5 ⟨rfl, hb⟩
    rw [HR2.out]
    have HBt5 := Lib.hid (below_step HBt4.out hb)
    have hS_t5 : AB t5 w.heap.size [.int .i64 k1, .string S1, .bool b1, .int .u64 n1, .slice lo1 ln1 lc1, .slice mo1 mn1 mc1, .string I1, .string U1] [.int .i64 k2, .string S2, .bool b2, .int .u64 n2, .slice lo2 ln2 lc2, .slice mo2 mn2 mc2, .string I2, .string U2] := hS_t4.below hb
    go_simp; refine hK.out _ _ hS_t5 ?_; clear hK K2 hb
    iterate 3 (refine seq_take _ rfl (fun K2 hK => ?_); go_simp; (first | refine hK _ ?_ | refine ⟨_, fun _ _ => rfl, hK _ ?_⟩ | (refine ⟨undef, by rw [if_neg (by simp [undef])], ?_⟩; refine hK _ ?_)); clear hK K2)
    refine seq_take _ rfl (fun K2 hK => ?_); go_simp
    refine ⟨.agg #[.int .i64 k1, .string S1, .bool b1, .int .u64 n1, .slice lo1 ln1 lc1, .slice mo1 mn1 mc1, .string I1, .string U1], fun a ha => by simp only [ea0 a ha, ea1 a ha, ea2 a ha, ea3 a ha, ea4 a ha, ea5 a ha, ea6 a ha, ea7 a ha, Result.andThen], hK _ ?_⟩
    clear hK K2
    refine seq_take _ rfl (fun K2 hK => ?_); go_simp
    refine ⟨.agg #[.int .i64 k1, .string S1, .bool b1, .int .u64 n1, .slice lo1 ln1 lc1, .slice mo1 mn1 mc1, .string I1, .string U1], fun a ha => by simp only [ea0 a ha, ea1 a ha, ea2 a ha, ea3 a ha, ea4 a ha, ea5 a ha, ea6 a ha, ea7 a ha, Result.andThen], hK _ ?_⟩
    clear hK K2
    refine seq_come _ rfl (fun K2 hK => ?_); go_simp
    refine ((val_same x) x [.int .i64 k1, .string S1, .bool b1, .int .u64 n1, .slice lo1 ln1 lc1, .slice mo1 mn1 mc1, .string I1, .string U1] [.int .i64 k1, .string S1, .bool b1, .int .u64 n1, .slice lo1 ln1 lc1, .slice mo1 mn1 mc1, .string I1, .string U1] _ _ t5 HXL.out (HX.out.below HBt5.out) (HX.out.below HBt5.out)).mono ?_; rintro e t6 ⟨rfl, hb⟩
    rw [alike_yes rfl]
    have HBt6 := Lib.hid (below_step HBt5.out hb)
    have hS_t6 : AB t6 w.heap.size [.int .i64 k1, .string S1, .bool b1, .int .u64 n1, .slice lo1 ln1 lc1, .slice mo1 mn1 mc1, .string I1, .string U1] [.int .i64 k2, .string S2, .bool b2, .int .u64 n2, .slice lo2 ln2 lc2, .slice mo2 mn2 mc2, .string I2, .string U2] := hS_t5.below hb
    go_simp; refine hK.out _ _ hS_t6 ?_; clear hK K2 hb
    iterate 4 (refine seq_take _ rfl (fun K2 hK => ?_); go_simp; (first | refine hK _ ?_ | refine ⟨_, fun _ _ => rfl, hK _ ?_⟩ | (refine ⟨undef, by rw [if_neg (by simp [undef])], ?_⟩; refine hK _ ?_)); clear hK K2)
    refine seq_come _ rfl (fun K2 hK => ?_); go_simp
    refine ((keys_same l) l _ _ _ _ _ _ t6 hll HL1.out (HL.out.below HBt6.out) (HL.out.below HBt6.out)).mono ?_; rintro e t7 ⟨rfl, hb⟩
    rw [alike_yes rfl]
    have HBt7 := Lib.hid (below_step HBt6.out hb)
    have hS_t7 : AB t7 w.heap.size [.int .i64 k1, .string S1, .bool b1, .int .u64 n1, .slice lo1 ln1 lc1, .slice mo1 mn1 mc1, .string I1, .string U1] [.int .i64 k2, .string S2, .bool b2, .int .u64 n2, .slice lo2 ln2 lc2, .slice mo2 mn2 mc2, .string I2, .string U2] := hS_t6.below hb
    go_simp; refine hK.out _ _ hS_t7 ?_; clear hK K2 hb
    iterate 2 (refine seq_take _ rfl (fun K2 hK => ?_); go_simp; (first | refine hK _ ?_ | refine ⟨_, fun _ _ => rfl, hK _ ?_⟩ | (refine ⟨undef, by rw [if_neg (by simp [undef])], ?_⟩; refine hK _ ?_)); clear hK K2)
    refine seq_done ?_
    go_wp2_with fail
    go_ret
    exact ⟨rfl, HBt7.out⟩
  obtain ⟨ga, oa, ka, rfl, hga, hka, hrka⟩ := krels_at0 (HL.out.below HB5.out) 0 hlp
  obtain ⟨gb, ob, kb, rfl, hgb, hkb, hrkb⟩ := krels_at0 (HM.out.below HB5.out) 0 hmp
  have HRKA := Lib.hid hrka
  have HRKB := Lib.hid hrkb
  obtain ⟨K3, h3, k3, S3, b3, n3, lo3, ln3, lc3, mo3, mn3, mc3, I3, U3, Y3, rfl⟩ := hrka.form
  obtain ⟨K4, h4, k4, S4, b4, n4, lo4, ln4, lc4, mo4, mn4, mc4, I4, U4, Y4, rfl⟩ := hrkb.form
  have HKA : Hid (Cells w5 ga oa [.string K3, .bool h3, .int .i64 k3, .string S3, .bool b3, .int .u64 n3, .slice lo3 ln3 lc3, .slice mo3 mn3 mc3, .string I3, .string U3, .string Y3]) := Lib.hid (by simpa using hka)
  have HKB : Hid (Cells w5 gb ob [.string K4, .bool h4, .int .i64 k4, .string S4, .bool b4, .int .u64 n4, .slice lo4 ln4 lc4, .slice mo4 mn4 mc4, .string I4, .string U4, .string Y4]) := Lib.hid (by simpa using hkb)
  clear hrka hrkb hka hkb
  obtain ⟨r3, HR3⟩ : ∃ r, Hid (alike l[0] m[0] = r) := ⟨_, Lib.hid rfl⟩
  go_wp2_with fail
  obtain ⟨D5, hD⟩ : ∃ D, w5.drew = D := ⟨_, rfl⟩
  have HBD5 : Hid (Below w5.heap.size w5 D5) := Lib.hid (by rw [← hD]; exact (Below.refl _ _).drew)
  have hS : KAB D5 ga oa [.string K3, .bool h3, .int .i64 k3, .string S3, .bool b3, .int .u64 n3, .slice lo3 ln3 lc3, .slice mo3 mn3 mc3, .string I3, .string U3, .string Y3] gb ob [.string K4, .bool h4, .int .i64 k4, .string S4, .bool b4, .int .u64 n4, .slice lo4 ln4 lc4, .slice mo4 mn4 mc4, .string I4, .string U4, .string Y4] := ⟨HKA.out.below HBD5.out hga, HKB.out.below HBD5.out hgb⟩
  have hne : Nonempty {w' : World // KAB w' ga oa [.string K3, .bool h3, .int .i64 k3, .string S3, .bool b3, .int .u64 n3, .slice lo3 ln3 lc3, .slice mo3 mn3 mc3, .string I3, .string U3, .string Y3] gb ob [.string K4, .bool h4, .int .i64 k4, .string S4, .bool b4, .int .u64 n4, .slice lo4 ln4 lc4, .slice mo4 mn4 mc4, .string I4, .string U4, .string Y4]} := ⟨⟨_, hS⟩⟩
  have ea0 : ∀ a : World, KAB a ga oa [.string K3, .bool h3, .int .i64 k3, .string S3, .bool b3, .int .u64 n3, .slice lo3 ln3 lc3, .slice mo3 mn3 mc3, .string I3, .string U3, .string Y3] gb ob [.string K4, .bool h4, .int .i64 k4, .string S4, .bool b4, .int .u64 n4, .slice lo4 ln4 lc4, .slice mo4 mn4 mc4, .string I4, .string U4, .string Y4] → a.cell? ⟨ga, oa, none⟩ = some (.string K3) := fun a ha => by have := ha.1 0 (by simp); simpa using this
  have eb0 : ∀ a : World, KAB a ga oa [.string K3, .bool h3, .int .i64 k3, .string S3, .bool b3, .int .u64 n3, .slice lo3 ln3 lc3, .slice mo3 mn3 mc3, .string I3, .string U3, .string Y3] gb ob [.string K4, .bool h4, .int .i64 k4, .string S4, .bool b4, .int .u64 n4, .slice lo4 ln4 lc4, .slice mo4 mn4 mc4, .string I4, .string U4, .string Y4] → a.cell? ⟨gb, ob, none⟩ = some (.string K4) := fun a ha => by have := ha.2 0 (by simp); simpa using this
  have ea1 : ∀ a : World, KAB a ga oa [.string K3, .bool h3, .int .i64 k3, .string S3, .bool b3, .int .u64 n3, .slice lo3 ln3 lc3, .slice mo3 mn3 mc3, .string I3, .string U3, .string Y3] gb ob [.string K4, .bool h4, .int .i64 k4, .string S4, .bool b4, .int .u64 n4, .slice lo4 ln4 lc4, .slice mo4 mn4 mc4, .string I4, .string U4, .string Y4] → a.cell? ⟨ga, oa + 1, none⟩ = some (.bool h3) := fun a ha => by have := ha.1 1 (by simp); simpa using this
  have eb1 : ∀ a : World, KAB a ga oa [.string K3, .bool h3, .int .i64 k3, .string S3, .bool b3, .int .u64 n3, .slice lo3 ln3 lc3, .slice mo3 mn3 mc3, .string I3, .string U3, .string Y3] gb ob [.string K4, .bool h4, .int .i64 k4, .string S4, .bool b4, .int .u64 n4, .slice lo4 ln4 lc4, .slice mo4 mn4 mc4, .string I4, .string U4, .string Y4] → a.cell? ⟨gb, ob + 1, none⟩ = some (.bool h4) := fun a ha => by have := ha.2 1 (by simp); simpa using this
  have ea2 : ∀ a : World, KAB a ga oa [.string K3, .bool h3, .int .i64 k3, .string S3, .bool b3, .int .u64 n3, .slice lo3 ln3 lc3, .slice mo3 mn3 mc3, .string I3, .string U3, .string Y3] gb ob [.string K4, .bool h4, .int .i64 k4, .string S4, .bool b4, .int .u64 n4, .slice lo4 ln4 lc4, .slice mo4 mn4 mc4, .string I4, .string U4, .string Y4] → a.cell? ⟨ga, oa + 2, none⟩ = some (.int .i64 k3) := fun a ha => by have := ha.1 2 (by simp); simpa using this
  have eb2 : ∀ a : World, KAB a ga oa [.string K3, .bool h3, .int .i64 k3, .string S3, .bool b3, .int .u64 n3, .slice lo3 ln3 lc3, .slice mo3 mn3 mc3, .string I3, .string U3, .string Y3] gb ob [.string K4, .bool h4, .int .i64 k4, .string S4, .bool b4, .int .u64 n4, .slice lo4 ln4 lc4, .slice mo4 mn4 mc4, .string I4, .string U4, .string Y4] → a.cell? ⟨gb, ob + 2, none⟩ = some (.int .i64 k4) := fun a ha => by have := ha.2 2 (by simp); simpa using this
  have ea3 : ∀ a : World, KAB a ga oa [.string K3, .bool h3, .int .i64 k3, .string S3, .bool b3, .int .u64 n3, .slice lo3 ln3 lc3, .slice mo3 mn3 mc3, .string I3, .string U3, .string Y3] gb ob [.string K4, .bool h4, .int .i64 k4, .string S4, .bool b4, .int .u64 n4, .slice lo4 ln4 lc4, .slice mo4 mn4 mc4, .string I4, .string U4, .string Y4] → a.cell? ⟨ga, oa + 3, none⟩ = some (.string S3) := fun a ha => by have := ha.1 3 (by simp); simpa using this
  have eb3 : ∀ a : World, KAB a ga oa [.string K3, .bool h3, .int .i64 k3, .string S3, .bool b3, .int .u64 n3, .slice lo3 ln3 lc3, .slice mo3 mn3 mc3, .string I3, .string U3, .string Y3] gb ob [.string K4, .bool h4, .int .i64 k4, .string S4, .bool b4, .int .u64 n4, .slice lo4 ln4 lc4, .slice mo4 mn4 mc4, .string I4, .string U4, .string Y4] → a.cell? ⟨gb, ob + 3, none⟩ = some (.string S4) := fun a ha => by have := ha.2 3 (by simp); simpa using this
  have ea4 : ∀ a : World, KAB a ga oa [.string K3, .bool h3, .int .i64 k3, .string S3, .bool b3, .int .u64 n3, .slice lo3 ln3 lc3, .slice mo3 mn3 mc3, .string I3, .string U3, .string Y3] gb ob [.string K4, .bool h4, .int .i64 k4, .string S4, .bool b4, .int .u64 n4, .slice lo4 ln4 lc4, .slice mo4 mn4 mc4, .string I4, .string U4, .string Y4] → a.cell? ⟨ga, oa + 4, none⟩ = some (.bool b3) := fun a ha => by have := ha.1 4 (by simp); simpa using this
  have eb4 : ∀ a : World, KAB a ga oa [.string K3, .bool h3, .int .i64 k3, .string S3, .bool b3, .int .u64 n3, .slice lo3 ln3 lc3, .slice mo3 mn3 mc3, .string I3, .string U3, .string Y3] gb ob [.string K4, .bool h4, .int .i64 k4, .string S4, .bool b4, .int .u64 n4, .slice lo4 ln4 lc4, .slice mo4 mn4 mc4, .string I4, .string U4, .string Y4] → a.cell? ⟨gb, ob + 4, none⟩ = some (.bool b4) := fun a ha => by have := ha.2 4 (by simp); simpa using this
  have ea5 : ∀ a : World, KAB a ga oa [.string K3, .bool h3, .int .i64 k3, .string S3, .bool b3, .int .u64 n3, .slice lo3 ln3 lc3, .slice mo3 mn3 mc3, .string I3, .string U3, .string Y3] gb ob [.string K4, .bool h4, .int .i64 k4, .string S4, .bool b4, .int .u64 n4, .slice lo4 ln4 lc4, .slice mo4 mn4 mc4, .string I4, .string U4, .string Y4] → a.cell? ⟨ga, oa + 5, none⟩ = some (.int .u64 n3) := fun a ha => by have := ha.1 5 (by simp); simpa using this
  have eb5 : ∀ a : World, KAB a ga oa [.string K3, .bool h3, .int .i64 k3, .string S3, .bool b3, .int .u64 n3, .slice lo3 ln3 lc3, .slice mo3 mn3 mc3, .string I3, .string U3, .string Y3] gb ob [.string K4, .bool h4, .int .i64 k4, .string S4, .bool b4, .int .u64 n4, .slice lo4 ln4 lc4, .slice mo4 mn4 mc4, .string I4, .string U4, .string Y4] → a.cell? ⟨gb, ob + 5, none⟩ = some (.int .u64 n4) := fun a ha => by have := ha.2 5 (by simp); simpa using this
  have ea6 : ∀ a : World, KAB a ga oa [.string K3, .bool h3, .int .i64 k3, .string S3, .bool b3, .int .u64 n3, .slice lo3 ln3 lc3, .slice mo3 mn3 mc3, .string I3, .string U3, .string Y3] gb ob [.string K4, .bool h4, .int .i64 k4, .string S4, .bool b4, .int .u64 n4, .slice lo4 ln4 lc4, .slice mo4 mn4 mc4, .string I4, .string U4, .string Y4] → a.cell? ⟨ga, oa + 6, none⟩ = some (.slice lo3 ln3 lc3) := fun a ha => by have := ha.1 6 (by simp); simpa using this
  have eb6 : ∀ a : World, KAB a ga oa [.string K3, .bool h3, .int .i64 k3, .string S3, .bool b3, .int .u64 n3, .slice lo3 ln3 lc3, .slice mo3 mn3 mc3, .string I3, .string U3, .string Y3] gb ob [.string K4, .bool h4, .int .i64 k4, .string S4, .bool b4, .int .u64 n4, .slice lo4 ln4 lc4, .slice mo4 mn4 mc4, .string I4, .string U4, .string Y4] → a.cell? ⟨gb, ob + 6, none⟩ = some (.slice lo4 ln4 lc4) := fun a ha => by have := ha.2 6 (by simp); simpa using this
  have ea7 : ∀ a : World, KAB a ga oa [.string K3, .bool h3, .int .i64 k3, .string S3, .bool b3, .int .u64 n3, .slice lo3 ln3 lc3, .slice mo3 mn3 mc3, .string I3, .string U3, .string Y3] gb ob [.string K4, .bool h4, .int .i64 k4, .string S4, .bool b4, .int .u64 n4, .slice lo4 ln4 lc4, .slice mo4 mn4 mc4, .string I4, .string U4, .string Y4] → a.cell? ⟨ga, oa + 7, none⟩ = some (.slice mo3 mn3 mc3) := fun a ha => by have := ha.1 7 (by simp); simpa using this
  have eb7 : ∀ a : World, KAB a ga oa [.string K3, .bool h3, .int .i64 k3, .string S3, .bool b3, .int .u64 n3, .slice lo3 ln3 lc3, .slice mo3 mn3 mc3, .string I3, .string U3, .string Y3] gb ob [.string K4, .bool h4, .int .i64 k4, .string S4, .bool b4, .int .u64 n4, .slice lo4 ln4 lc4, .slice mo4 mn4 mc4, .string I4, .string U4, .string Y4] → a.cell? ⟨gb, ob + 7, none⟩ = some (.slice mo4 mn4 mc4) := fun a ha => by have := ha.2 7 (by simp); simpa using this
  have ea8 : ∀ a : World, KAB a ga oa [.string K3, .bool h3, .int .i64 k3, .string S3, .bool b3, .int .u64 n3, .slice lo3 ln3 lc3, .slice mo3 mn3 mc3, .string I3, .string U3, .string Y3] gb ob [.string K4, .bool h4, .int .i64 k4, .string S4, .bool b4, .int .u64 n4, .slice lo4 ln4 lc4, .slice mo4 mn4 mc4, .string I4, .string U4, .string Y4] → a.cell? ⟨ga, oa + 8, none⟩ = some (.string I3) := fun a ha => by have := ha.1 8 (by simp); simpa using this
  have eb8 : ∀ a : World, KAB a ga oa [.string K3, .bool h3, .int .i64 k3, .string S3, .bool b3, .int .u64 n3, .slice lo3 ln3 lc3, .slice mo3 mn3 mc3, .string I3, .string U3, .string Y3] gb ob [.string K4, .bool h4, .int .i64 k4, .string S4, .bool b4, .int .u64 n4, .slice lo4 ln4 lc4, .slice mo4 mn4 mc4, .string I4, .string U4, .string Y4] → a.cell? ⟨gb, ob + 8, none⟩ = some (.string I4) := fun a ha => by have := ha.2 8 (by simp); simpa using this
  have ea9 : ∀ a : World, KAB a ga oa [.string K3, .bool h3, .int .i64 k3, .string S3, .bool b3, .int .u64 n3, .slice lo3 ln3 lc3, .slice mo3 mn3 mc3, .string I3, .string U3, .string Y3] gb ob [.string K4, .bool h4, .int .i64 k4, .string S4, .bool b4, .int .u64 n4, .slice lo4 ln4 lc4, .slice mo4 mn4 mc4, .string I4, .string U4, .string Y4] → a.cell? ⟨ga, oa + 9, none⟩ = some (.string U3) := fun a ha => by have := ha.1 9 (by simp); simpa using this
  have eb9 : ∀ a : World, KAB a ga oa [.string K3, .bool h3, .int .i64 k3, .string S3, .bool b3, .int .u64 n3, .slice lo3 ln3 lc3, .slice mo3 mn3 mc3, .string I3, .string U3, .string Y3] gb ob [.string K4, .bool h4, .int .i64 k4, .string S4, .bool b4, .int .u64 n4, .slice lo4 ln4 lc4, .slice mo4 mn4 mc4, .string I4, .string U4, .string Y4] → a.cell? ⟨gb, ob + 9, none⟩ = some (.string U4) := fun a ha => by have := ha.2 9 (by simp); simpa using this
  have ea10 : ∀ a : World, KAB a ga oa [.string K3, .bool h3, .int .i64 k3, .string S3, .bool b3, .int .u64 n3, .slice lo3 ln3 lc3, .slice mo3 mn3 mc3, .string I3, .string U3, .string Y3] gb ob [.string K4, .bool h4, .int .i64 k4, .string S4, .bool b4, .int .u64 n4, .slice lo4 ln4 lc4, .slice mo4 mn4 mc4, .string I4, .string U4, .string Y4] → a.cell? ⟨ga, oa + 10, none⟩ = some (.string Y3) := fun a ha => by have := ha.1 10 (by simp); simpa using this
  have eb10 : ∀ a : World, KAB a ga oa [.string K3, .bool h3, .int .i64 k3, .string S3, .bool b3, .int .u64 n3, .slice lo3 ln3 lc3, .slice mo3 mn3 mc3, .string I3, .string U3, .string Y3] gb ob [.string K4, .bool h4, .int .i64 k4, .string S4, .bool b4, .int .u64 n4, .slice lo4 ln4 lc4, .slice mo4 mn4 mc4, .string I4, .string U4, .string Y4] → a.cell? ⟨gb, ob + 10, none⟩ = some (.string Y4) := fun a ha => by have := ha.2 10 (by simp); simpa using this
  refine wp_region_seq (S := fun w' => KAB w' ga oa [.string K3, .bool h3, .int .i64 k3, .string S3, .bool b3, .int .u64 n3, .slice lo3 ln3 lc3, .slice mo3 mn3 mc3, .string I3, .string U3, .string Y3] gb ob [.string K4, .bool h4, .int .i64 k4, .string S4, .bool b4, .int .u64 n4, .slice lo4 ln4 lc4, .slice mo4 mn4 mc4, .string I4, .string U4, .string Y4]) [(0, true), (1, true), (2, true), (3, true), (4, true), (5, true), (6, true), (7, true), (8, true), (9, true), (10, true), (11, true), (12, true), (13, true), (14, true), (16, true), (17, true), (18, true), (19, true), (20, true), (21, true), (15, false), (22, false), (23, true), (24, true)] (by kernel_rfl) (by kernel_rfl) (by kernel_rfl) (by kernel_rfl) (by rw [hD]; exact hS) ?_
  rw [hD]
  clear hD
  iterate 10 (refine seq_take _ rfl (fun K2 hK => ?_); go_simp; (first | refine hK _ ?_ | refine ⟨_, fun _ _ => rfl, hK _ ?_⟩ | (refine ⟨undef, by rw [if_neg (by simp [undef])], ?_⟩; refine hK _ ?_)); clear hK K2)
  refine seq_take _ rfl (fun K2 hK => ?_); go_simp
  (first | refine hK _ ?_ | refine ⟨.pointer (some ⟨ga, oa, none⟩), fun _ _ => if_pos (by omega), hK _ ?_⟩)
  clear hK K2
  refine seq_take _ rfl (fun K2 hK => ?_); go_simp
  refine ⟨.agg #[.string K3, .bool h3, .int .i64 k3, .string S3, .bool b3, .int .u64 n3, .slice lo3 ln3 lc3, .slice mo3 mn3 mc3, .string I3, .string U3, .string Y3], fun a ha => by simp only [ea0 a ha, ea1 a ha, ea2 a ha, ea3 a ha, ea4 a ha, ea5 a ha, ea6 a ha, ea7 a ha, ea8 a ha, ea9 a ha, ea10 a ha, Result.andThen], hK _ ?_⟩
  clear hK K2
  iterate 1 (refine seq_take _ rfl (fun K2 hK => ?_); go_simp; (first | refine hK _ ?_ | refine ⟨_, fun _ _ => rfl, hK _ ?_⟩ | (refine ⟨undef, by rw [if_neg (by simp [undef])], ?_⟩; refine hK _ ?_)); clear hK K2)
  refine seq_take _ rfl (fun K2 hK => ?_); go_simp
  (first | refine hK _ ?_ | refine ⟨.pointer (some ⟨gb, ob, none⟩), fun _ _ => if_pos (by omega), hK _ ?_⟩)
  clear hK K2
  refine seq_take _ rfl (fun K2 hK => ?_); go_simp
  refine ⟨.agg #[.string K4, .bool h4, .int .i64 k4, .string S4, .bool b4, .int .u64 n4, .slice lo4 ln4 lc4, .slice mo4 mn4 mc4, .string I4, .string U4, .string Y4], fun a ha => by simp only [eb0 a ha, eb1 a ha, eb2 a ha, eb3 a ha, eb4 a ha, eb5 a ha, eb6 a ha, eb7 a ha, eb8 a ha, eb9 a ha, eb10 a ha, Result.andThen], hK _ ?_⟩
  clear hK K2
  iterate 1 (refine seq_take _ rfl (fun K2 hK => ?_); go_simp; (first | refine hK _ ?_ | refine ⟨_, fun _ _ => rfl, hK _ ?_⟩ | (refine ⟨undef, by rw [if_neg (by simp [undef])], ?_⟩; refine hK _ ?_)); clear hK K2)
  refine seq_take _ rfl (fun K2 hK => ?_); go_simp
  (first | refine hK _ ?_ | refine ⟨.pointer (some ⟨ga, oa, none⟩), fun _ _ => if_pos (by omega), hK _ ?_⟩)
  clear hK K2
  refine seq_take _ rfl (fun K2 hK => ?_); go_simp
  refine ⟨.agg #[.string K3, .bool h3, .int .i64 k3, .string S3, .bool b3, .int .u64 n3, .slice lo3 ln3 lc3, .slice mo3 mn3 mc3, .string I3, .string U3, .string Y3], fun a ha => by simp only [ea0 a ha, ea1 a ha, ea2 a ha, ea3 a ha, ea4 a ha, ea5 a ha, ea6 a ha, ea7 a ha, ea8 a ha, ea9 a ha, ea10 a ha, Result.andThen], hK _ ?_⟩
  clear hK K2
  iterate 1 (refine seq_take _ rfl (fun K2 hK => ?_); go_simp; (first | refine hK _ ?_ | refine ⟨_, fun _ _ => rfl, hK _ ?_⟩ | (refine ⟨undef, by rw [if_neg (by simp [undef])], ?_⟩; refine hK _ ?_)); clear hK K2)
  refine seq_take _ rfl (fun K2 hK => ?_); go_simp
  (first | refine hK _ ?_ | refine ⟨.pointer (some ⟨gb, ob, none⟩), fun _ _ => if_pos (by omega), hK _ ?_⟩)
  clear hK K2
  refine seq_take _ rfl (fun K2 hK => ?_); go_simp
  refine ⟨.agg #[.string K4, .bool h4, .int .i64 k4, .string S4, .bool b4, .int .u64 n4, .slice lo4 ln4 lc4, .slice mo4 mn4 mc4, .string I4, .string U4, .string Y4], fun a ha => by simp only [eb0 a ha, eb1 a ha, eb2 a ha, eb3 a ha, eb4 a ha, eb5 a ha, eb6 a ha, eb7 a ha, eb8 a ha, eb9 a ha, eb10 a ha, Result.andThen], hK _ ?_⟩
  clear hK K2
  refine seq_come _ rfl (fun K2 hK => ?_); go_simp
  refine ((key_same l[0]) m[0] [.string K3, .bool h3, .int .i64 k3, .string S3, .bool b3, .int .u64 n3, .slice lo3 ln3 lc3, .slice mo3 mn3 mc3, .string I3, .string U3, .string Y3] [.string K4, .bool h4, .int .i64 k4, .string S4, .bool b4, .int .u64 n4, .slice lo4 ln4 lc4, .slice mo4 mn4 mc4, .string I4, .string U4, .string Y4] _ _ D5 (kslim_at HL1.out _ (List.getElem_mem hlp)) (HRKA.out.below HBD5.out) (HRKB.out.below HBD5.out)).mono ?_; rintro e w6a ⟨rfl, hb⟩
  rw [HR3.out]
  have HB56 := Lib.hid (below_step HBD5.out hb)
  have hS_w6a : KAB w6a ga oa [.string K3, .bool h3, .int .i64 k3, .string S3, .bool b3, .int .u64 n3, .slice lo3 ln3 lc3, .slice mo3 mn3 mc3, .string I3, .string U3, .string Y3] gb ob [.string K4, .bool h4, .int .i64 k4, .string S4, .bool b4, .int .u64 n4, .slice lo4 ln4 lc4, .slice mo4 mn4 mc4, .string I4, .string U4, .string Y4] := ⟨HKA.out.below HB56.out hga, HKB.out.below HB56.out hgb⟩
  go_simp; refine hK.out _ _ hS_w6a ?_; clear hK K2 hb
  refine seq_come _ rfl (fun K2 hK => ?_); go_simp
  refine ((hkey_same l[0]) m[0] [.string K3, .bool h3, .int .i64 k3, .string S3, .bool b3, .int .u64 n3, .slice lo3 ln3 lc3, .slice mo3 mn3 mc3, .string I3, .string U3, .string Y3] [.string K4, .bool h4, .int .i64 k4, .string S4, .bool b4, .int .u64 n4, .slice lo4 ln4 lc4, .slice mo4 mn4 mc4, .string I4, .string U4, .string Y4] _ _ w6a (kslim_at HL1.out _ (List.getElem_mem hlp)) (HRKA.out.below HB56.out) (HRKB.out.below HB56.out)).mono ?_; rintro e w6b ⟨rfl, hb⟩
  rw [HR3.out]
  have HB57 := Lib.hid (below_step HB56.out hb)
  have hS_w6b : KAB w6b ga oa [.string K3, .bool h3, .int .i64 k3, .string S3, .bool b3, .int .u64 n3, .slice lo3 ln3 lc3, .slice mo3 mn3 mc3, .string I3, .string U3, .string Y3] gb ob [.string K4, .bool h4, .int .i64 k4, .string S4, .bool b4, .int .u64 n4, .slice lo4 ln4 lc4, .slice mo4 mn4 mc4, .string I4, .string U4, .string Y4] := ⟨HKA.out.below HB57.out hga, HKB.out.below HB57.out hgb⟩
  go_simp; refine hK.out _ _ hS_w6b ?_; clear hK K2 hb
  iterate 2 (refine seq_take _ rfl (fun K2 hK => ?_); go_simp; (first | refine hK _ ?_ | refine ⟨_, fun _ _ => rfl, hK _ ?_⟩ | (refine ⟨undef, by rw [if_neg (by simp [undef])], ?_⟩; refine hK _ ?_)); clear hK K2)
  refine seq_done ?_
  clear hne hS hS_w6a hS_w6b ea0 eb0 ea1 eb1 ea2 eb2 ea3 eb3 ea4 eb4 ea5 eb5 ea6 eb6 ea7 eb7 ea8 eb8 ea9 eb9 ea10 eb10
  have HB6 := Lib.hid (below_step HB5.out HB57.out)
  have HAB6 := Lib.hid (HAB5.out.below HB57.out)
  go_wp2_with fail
  obtain ⟨D7, hD⟩ : ∃ D, w6b.drew = D := ⟨_, rfl⟩
  have HBD7 : Hid (Below w6b.heap.size w6b D7) := Lib.hid (by rw [← hD]; exact (Below.refl _ _).drew)
  have hS : AB D7 w.heap.size [.int .i64 k1, .string S1, .bool b1, .int .u64 n1, .slice lo1 ln1 lc1, .slice mo1 mn1 mc1, .string I1, .string U1] [.int .i64 k2, .string S2, .bool b2, .int .u64 n2, .slice lo2 ln2 lc2, .slice mo2 mn2 mc2, .string I2, .string U2] := HAB6.out.below HBD7.out
  have HB7 := Lib.hid (below_step HB6.out HBD7.out)
  have hne : Nonempty {w' : World // AB w' w.heap.size [.int .i64 k1, .string S1, .bool b1, .int .u64 n1, .slice lo1 ln1 lc1, .slice mo1 mn1 mc1, .string I1, .string U1] [.int .i64 k2, .string S2, .bool b2, .int .u64 n2, .slice lo2 ln2 lc2, .slice mo2 mn2 mc2, .string I2, .string U2]} := ⟨⟨_, hS⟩⟩
  have ea0 : ∀ a : World, AB a w.heap.size [.int .i64 k1, .string S1, .bool b1, .int .u64 n1, .slice lo1 ln1 lc1, .slice mo1 mn1 mc1, .string I1, .string U1] [.int .i64 k2, .string S2, .bool b2, .int .u64 n2, .slice lo2 ln2 lc2, .slice mo2 mn2 mc2, .string I2, .string U2] → a.cell? ⟨w.heap.size, 0, none⟩ = some (.int .i64 k1) := fun a ha => row_cell ha.1 (j := 0) rfl
  have eb0 : ∀ a : World, AB a w.heap.size [.int .i64 k1, .string S1, .bool b1, .int .u64 n1, .slice lo1 ln1 lc1, .slice mo1 mn1 mc1, .string I1, .string U1] [.int .i64 k2, .string S2, .bool b2, .int .u64 n2, .slice lo2 ln2 lc2, .slice mo2 mn2 mc2, .string I2, .string U2] → a.cell? ⟨w.heap.size + 1, 0, none⟩ = some (.int .i64 k2) := fun a ha => row_cell ha.2 (j := 0) rfl
  have ea1 : ∀ a : World, AB a w.heap.size [.int .i64 k1, .string S1, .bool b1, .int .u64 n1, .slice lo1 ln1 lc1, .slice mo1 mn1 mc1, .string I1, .string U1] [.int .i64 k2, .string S2, .bool b2, .int .u64 n2, .slice lo2 ln2 lc2, .slice mo2 mn2 mc2, .string I2, .string U2] → a.cell? ⟨w.heap.size, 1, none⟩ = some (.string S1) := fun a ha => row_cell ha.1 (j := 1) rfl
  have eb1 : ∀ a : World, AB a w.heap.size [.int .i64 k1, .string S1, .bool b1, .int .u64 n1, .slice lo1 ln1 lc1, .slice mo1 mn1 mc1, .string I1, .string U1] [.int .i64 k2, .string S2, .bool b2, .int .u64 n2, .slice lo2 ln2 lc2, .slice mo2 mn2 mc2, .string I2, .string U2] → a.cell? ⟨w.heap.size + 1, 1, none⟩ = some (.string S2) := fun a ha => row_cell ha.2 (j := 1) rfl
  have ea2 : ∀ a : World, AB a w.heap.size [.int .i64 k1, .string S1, .bool b1, .int .u64 n1, .slice lo1 ln1 lc1, .slice mo1 mn1 mc1, .string I1, .string U1] [.int .i64 k2, .string S2, .bool b2, .int .u64 n2, .slice lo2 ln2 lc2, .slice mo2 mn2 mc2, .string I2, .string U2] → a.cell? ⟨w.heap.size, 2, none⟩ = some (.bool b1) := fun a ha => row_cell ha.1 (j := 2) rfl
  have eb2 : ∀ a : World, AB a w.heap.size [.int .i64 k1, .string S1, .bool b1, .int .u64 n1, .slice lo1 ln1 lc1, .slice mo1 mn1 mc1, .string I1, .string U1] [.int .i64 k2, .string S2, .bool b2, .int .u64 n2, .slice lo2 ln2 lc2, .slice mo2 mn2 mc2, .string I2, .string U2] → a.cell? ⟨w.heap.size + 1, 2, none⟩ = some (.bool b2) := fun a ha => row_cell ha.2 (j := 2) rfl
  have ea3 : ∀ a : World, AB a w.heap.size [.int .i64 k1, .string S1, .bool b1, .int .u64 n1, .slice lo1 ln1 lc1, .slice mo1 mn1 mc1, .string I1, .string U1] [.int .i64 k2, .string S2, .bool b2, .int .u64 n2, .slice lo2 ln2 lc2, .slice mo2 mn2 mc2, .string I2, .string U2] → a.cell? ⟨w.heap.size, 3, none⟩ = some (.int .u64 n1) := fun a ha => row_cell ha.1 (j := 3) rfl
  have eb3 : ∀ a : World, AB a w.heap.size [.int .i64 k1, .string S1, .bool b1, .int .u64 n1, .slice lo1 ln1 lc1, .slice mo1 mn1 mc1, .string I1, .string U1] [.int .i64 k2, .string S2, .bool b2, .int .u64 n2, .slice lo2 ln2 lc2, .slice mo2 mn2 mc2, .string I2, .string U2] → a.cell? ⟨w.heap.size + 1, 3, none⟩ = some (.int .u64 n2) := fun a ha => row_cell ha.2 (j := 3) rfl
  have ea4 : ∀ a : World, AB a w.heap.size [.int .i64 k1, .string S1, .bool b1, .int .u64 n1, .slice lo1 ln1 lc1, .slice mo1 mn1 mc1, .string I1, .string U1] [.int .i64 k2, .string S2, .bool b2, .int .u64 n2, .slice lo2 ln2 lc2, .slice mo2 mn2 mc2, .string I2, .string U2] → a.cell? ⟨w.heap.size, 4, none⟩ = some (.slice lo1 ln1 lc1) := fun a ha => row_cell ha.1 (j := 4) rfl
  have eb4 : ∀ a : World, AB a w.heap.size [.int .i64 k1, .string S1, .bool b1, .int .u64 n1, .slice lo1 ln1 lc1, .slice mo1 mn1 mc1, .string I1, .string U1] [.int .i64 k2, .string S2, .bool b2, .int .u64 n2, .slice lo2 ln2 lc2, .slice mo2 mn2 mc2, .string I2, .string U2] → a.cell? ⟨w.heap.size + 1, 4, none⟩ = some (.slice lo2 ln2 lc2) := fun a ha => row_cell ha.2 (j := 4) rfl
  have ea5 : ∀ a : World, AB a w.heap.size [.int .i64 k1, .string S1, .bool b1, .int .u64 n1, .slice lo1 ln1 lc1, .slice mo1 mn1 mc1, .string I1, .string U1] [.int .i64 k2, .string S2, .bool b2, .int .u64 n2, .slice lo2 ln2 lc2, .slice mo2 mn2 mc2, .string I2, .string U2] → a.cell? ⟨w.heap.size, 5, none⟩ = some (.slice mo1 mn1 mc1) := fun a ha => row_cell ha.1 (j := 5) rfl
  have eb5 : ∀ a : World, AB a w.heap.size [.int .i64 k1, .string S1, .bool b1, .int .u64 n1, .slice lo1 ln1 lc1, .slice mo1 mn1 mc1, .string I1, .string U1] [.int .i64 k2, .string S2, .bool b2, .int .u64 n2, .slice lo2 ln2 lc2, .slice mo2 mn2 mc2, .string I2, .string U2] → a.cell? ⟨w.heap.size + 1, 5, none⟩ = some (.slice mo2 mn2 mc2) := fun a ha => row_cell ha.2 (j := 5) rfl
  have ea6 : ∀ a : World, AB a w.heap.size [.int .i64 k1, .string S1, .bool b1, .int .u64 n1, .slice lo1 ln1 lc1, .slice mo1 mn1 mc1, .string I1, .string U1] [.int .i64 k2, .string S2, .bool b2, .int .u64 n2, .slice lo2 ln2 lc2, .slice mo2 mn2 mc2, .string I2, .string U2] → a.cell? ⟨w.heap.size, 6, none⟩ = some (.string I1) := fun a ha => row_cell ha.1 (j := 6) rfl
  have eb6 : ∀ a : World, AB a w.heap.size [.int .i64 k1, .string S1, .bool b1, .int .u64 n1, .slice lo1 ln1 lc1, .slice mo1 mn1 mc1, .string I1, .string U1] [.int .i64 k2, .string S2, .bool b2, .int .u64 n2, .slice lo2 ln2 lc2, .slice mo2 mn2 mc2, .string I2, .string U2] → a.cell? ⟨w.heap.size + 1, 6, none⟩ = some (.string I2) := fun a ha => row_cell ha.2 (j := 6) rfl
  have ea7 : ∀ a : World, AB a w.heap.size [.int .i64 k1, .string S1, .bool b1, .int .u64 n1, .slice lo1 ln1 lc1, .slice mo1 mn1 mc1, .string I1, .string U1] [.int .i64 k2, .string S2, .bool b2, .int .u64 n2, .slice lo2 ln2 lc2, .slice mo2 mn2 mc2, .string I2, .string U2] → a.cell? ⟨w.heap.size, 7, none⟩ = some (.string U1) := fun a ha => row_cell ha.1 (j := 7) rfl
  have eb7 : ∀ a : World, AB a w.heap.size [.int .i64 k1, .string S1, .bool b1, .int .u64 n1, .slice lo1 ln1 lc1, .slice mo1 mn1 mc1, .string I1, .string U1] [.int .i64 k2, .string S2, .bool b2, .int .u64 n2, .slice lo2 ln2 lc2, .slice mo2 mn2 mc2, .string I2, .string U2] → a.cell? ⟨w.heap.size + 1, 7, none⟩ = some (.string U2) := fun a ha => row_cell ha.2 (j := 7) rfl
  refine wp_region_seq (S := fun w' => AB w' w.heap.size [.int .i64 k1, .string S1, .bool b1, .int .u64 n1, .slice lo1 ln1 lc1, .slice mo1 mn1 mc1, .string I1, .string U1] [.int .i64 k2, .string S2, .bool b2, .int .u64 n2, .slice lo2 ln2 lc2, .slice mo2 mn2 mc2, .string I2, .string U2]) [(0, false), (1, true), (2, true), (3, true), (5, true), (6, true), (4, false), (7, false), (8, true), (9, true), (10, true), (11, true), (12, true), (14, true), (15, true), (13, false), (16, false), (17, true), (18, true), (19, true), (20, true), (21, true), (22, false), (23, true), (24, true), (25, true), (26, true), (27, false), (28, true), (29, true)] (by kernel_rfl) (by kernel_rfl) (by kernel_rfl) (by kernel_rfl) (by rw [hD]; exact hS) ?_
  rw [hD]
  clear hD
  refine seq_come _ rfl (fun K2 hK => ?_); go_simp
  refine (first8 D7 (HG.out.below HB7.out)).mono ?_; rintro e t1 ⟨rfl, hb⟩
  have HBt1 := Lib.hid (below_step HB7.out hb)
  have hS_t1 : AB t1 w.heap.size [.int .i64 k1, .string S1, .bool b1, .int .u64 n1, .slice lo1 ln1 lc1, .slice mo1 mn1 mc1, .string I1, .string U1] [.int .i64 k2, .string S2, .bool b2, .int .u64 n2, .slice lo2 ln2 lc2, .slice mo2 mn2 mc2, .string I2, .string U2] := hS.below hb
  go_simp; refine hK.out _ _ hS_t1 ?_; clear hK K2 hb
  iterate 1 (refine seq_take _ rfl (fun K2 hK => ?_); go_simp; (first | refine hK _ ?_ | refine ⟨_, fun _ _ => rfl, hK _ ?_⟩ | (refine ⟨undef, by rw [if_neg (by simp [undef])], ?_⟩; refine hK _ ?_)); clear hK K2)
  refine seq_take _ rfl (fun K2 hK => ?_); go_simp
  refine ⟨.agg #[.int .i64 k1, .string S1, .bool b1, .int .u64 n1, .slice lo1 ln1 lc1, .slice mo1 mn1 mc1, .string I1, .string U1], fun a ha => by simp only [ea0 a ha, ea1 a ha, ea2 a ha, ea3 a ha, ea4 a ha, ea5 a ha, ea6 a ha, ea7 a ha, Result.andThen], hK _ ?_⟩
  clear hK K2
  refine seq_take _ rfl (fun K2 hK => ?_); go_simp
  refine ⟨.agg #[.int .i64 k2, .string S2, .bool b2, .int .u64 n2, .slice lo2 ln2 lc2, .slice mo2 mn2 mc2, .string I2, .string U2], fun a ha => by simp only [eb0 a ha, eb1 a ha, eb2 a ha, eb3 a ha, eb4 a ha, eb5 a ha, eb6 a ha, eb7 a ha, Result.andThen], hK _ ?_⟩
  clear hK K2
  refine seq_take _ rfl (fun K2 hK => ?_); go_simp
  refine ⟨.agg #[.int .i64 k1, .string S1, .bool b1, .int .u64 n1, .slice lo1 ln1 lc1, .slice mo1 mn1 mc1, .string I1, .string U1], fun a ha => by simp only [ea0 a ha, ea1 a ha, ea2 a ha, ea3 a ha, ea4 a ha, ea5 a ha, ea6 a ha, ea7 a ha, Result.andThen], hK _ ?_⟩
  clear hK K2
  refine seq_take _ rfl (fun K2 hK => ?_); go_simp
  refine ⟨.agg #[.int .i64 k2, .string S2, .bool b2, .int .u64 n2, .slice lo2 ln2 lc2, .slice mo2 mn2 mc2, .string I2, .string U2], fun a ha => by simp only [eb0 a ha, eb1 a ha, eb2 a ha, eb3 a ha, eb4 a ha, eb5 a ha, eb6 a ha, eb7 a ha, Result.andThen], hK _ ?_⟩
  clear hK K2
  refine seq_come _ rfl (fun K2 hK => ?_); go_simp
  refine ((val_same x) y [.int .i64 k1, .string S1, .bool b1, .int .u64 n1, .slice lo1 ln1 lc1, .slice mo1 mn1 mc1, .string I1, .string U1] [.int .i64 k2, .string S2, .bool b2, .int .u64 n2, .slice lo2 ln2 lc2, .slice mo2 mn2 mc2, .string I2, .string U2] _ _ t1 HXL.out (HX.out.below HBt1.out) (HY.out.below HBt1.out)).mono ?_; rintro e t2 ⟨rfl, hb⟩
  rw [HR1.out]
  have HBt2 := Lib.hid (below_step HBt1.out hb)
  have hS_t2 : AB t2 w.heap.size [.int .i64 k1, .string S1, .bool b1, .int .u64 n1, .slice lo1 ln1 lc1, .slice mo1 mn1 mc1, .string I1, .string U1] [.int .i64 k2, .string S2, .bool b2, .int .u64 n2, .slice lo2 ln2 lc2, .slice mo2 mn2 mc2, .string I2, .string U2] := hS_t1.below hb
  go_simp; refine hK.out _ _ hS_t2 ?_; clear hK K2 hb
  refine seq_come _ rfl (fun K2 hK => ?_); go_simp
  refine ((hval_same x) y [.int .i64 k1, .string S1, .bool b1, .int .u64 n1, .slice lo1 ln1 lc1, .slice mo1 mn1 mc1, .string I1, .string U1] [.int .i64 k2, .string S2, .bool b2, .int .u64 n2, .slice lo2 ln2 lc2, .slice mo2 mn2 mc2, .string I2, .string U2] _ _ t2 HXL.out (HX.out.below HBt2.out) (HY.out.below HBt2.out)).mono ?_; rintro e t3 ⟨rfl, hb⟩
  rw [HR1.out]
  have HBt3 := Lib.hid (below_step HBt2.out hb)
  have hS_t3 : AB t3 w.heap.size [.int .i64 k1, .string S1, .bool b1, .int .u64 n1, .slice lo1 ln1 lc1, .slice mo1 mn1 mc1, .string I1, .string U1] [.int .i64 k2, .string S2, .bool b2, .int .u64 n2, .slice lo2 ln2 lc2, .slice mo2 mn2 mc2, .string I2, .string U2] := hS_t2.below hb
  go_simp; refine hK.out _ _ hS_t3 ?_; clear hK K2 hb
  iterate 7 (refine seq_take _ rfl (fun K2 hK => ?_); go_simp; (first | refine hK _ ?_ | refine ⟨_, fun _ _ => rfl, hK _ ?_⟩ | (refine ⟨undef, by rw [if_neg (by simp [undef])], ?_⟩; refine hK _ ?_)); clear hK K2)
  refine seq_come _ rfl (fun K2 hK => ?_); go_simp
  refine ((keys_same l) m _ _ _ _ _ _ t3 hll HL1.out (HL.out.below HBt3.out) (HM.out.below HBt3.out)).mono ?_; rintro e t4 ⟨rfl, hb⟩
  rw [HR2.out]
  have HBt4 := Lib.hid (below_step HBt3.out hb)
  have hS_t4 : AB t4 w.heap.size [.int .i64 k1, .string S1, .bool b1, .int .u64 n1, .slice lo1 ln1 lc1, .slice mo1 mn1 mc1, .string I1, .string U1] [.int .i64 k2, .string S2, .bool b2, .int .u64 n2, .slice lo2 ln2 lc2, .slice mo2 mn2 mc2, .string I2, .string U2] := hS_t3.below hb
  go_simp; refine hK.out _ _ hS_t4 ?_; clear hK K2 hb
  refine seq_come _ rfl (fun K2 hK => ?_); go_simp
  refine ((hkeys_same l) m _ _ _ _ _ _ t4 hll HL1.out (HL.out.below HBt4.out) (HM.out.below HBt4.out)).mono ?_; rintro e t5 ⟨rfl, hb⟩
  rw [HR2.out]
  have HBt5 := Lib.hid (below_step HBt4.out hb)
  have hS_t5 : AB t5 w.heap.size [.int .i64 k1, .string S1, .bool b1, .int .u64 n1, .slice lo1 ln1 lc1, .slice mo1 mn1 mc1, .string I1, .string U1] [.int .i64 k2, .string S2, .bool b2, .int .u64 n2, .slice lo2 ln2 lc2, .slice mo2 mn2 mc2, .string I2, .string U2] := hS_t4.below hb
  go_simp; refine hK.out _ _ hS_t5 ?_; clear hK K2 hb
  iterate 3 (refine seq_take _ rfl (fun K2 hK => ?_); go_simp; (first | refine hK _ ?_ | refine ⟨_, fun _ _ => rfl, hK _ ?_⟩ | (refine ⟨undef, by rw [if_neg (by simp [undef])], ?_⟩; refine hK _ ?_)); clear hK K2)
  refine seq_take _ rfl (fun K2 hK => ?_); go_simp
  refine ⟨.agg #[.int .i64 k1, .string S1, .bool b1, .int .u64 n1, .slice lo1 ln1 lc1, .slice mo1 mn1 mc1, .string I1, .string U1], fun a ha => by simp only [ea0 a ha, ea1 a ha, ea2 a ha, ea3 a ha, ea4 a ha, ea5 a ha, ea6 a ha, ea7 a ha, Result.andThen], hK _ ?_⟩
  clear hK K2
  refine seq_take _ rfl (fun K2 hK => ?_); go_simp
  refine ⟨.agg #[.int .i64 k1, .string S1, .bool b1, .int .u64 n1, .slice lo1 ln1 lc1, .slice mo1 mn1 mc1, .string I1, .string U1], fun a ha => by simp only [ea0 a ha, ea1 a ha, ea2 a ha, ea3 a ha, ea4 a ha, ea5 a ha, ea6 a ha, ea7 a ha, Result.andThen], hK _ ?_⟩
  clear hK K2
  refine seq_come _ rfl (fun K2 hK => ?_); go_simp
  refine ((val_same x) x [.int .i64 k1, .string S1, .bool b1, .int .u64 n1, .slice lo1 ln1 lc1, .slice mo1 mn1 mc1, .string I1, .string U1] [.int .i64 k1, .string S1, .bool b1, .int .u64 n1, .slice lo1 ln1 lc1, .slice mo1 mn1 mc1, .string I1, .string U1] _ _ t5 HXL.out (HX.out.below HBt5.out) (HX.out.below HBt5.out)).mono ?_; rintro e t6 ⟨rfl, hb⟩
  rw [alike_yes rfl]
  have HBt6 := Lib.hid (below_step HBt5.out hb)
  have hS_t6 : AB t6 w.heap.size [.int .i64 k1, .string S1, .bool b1, .int .u64 n1, .slice lo1 ln1 lc1, .slice mo1 mn1 mc1, .string I1, .string U1] [.int .i64 k2, .string S2, .bool b2, .int .u64 n2, .slice lo2 ln2 lc2, .slice mo2 mn2 mc2, .string I2, .string U2] := hS_t5.below hb
  go_simp; refine hK.out _ _ hS_t6 ?_; clear hK K2 hb
  iterate 4 (refine seq_take _ rfl (fun K2 hK => ?_); go_simp; (first | refine hK _ ?_ | refine ⟨_, fun _ _ => rfl, hK _ ?_⟩ | (refine ⟨undef, by rw [if_neg (by simp [undef])], ?_⟩; refine hK _ ?_)); clear hK K2)
  refine seq_come _ rfl (fun K2 hK => ?_); go_simp
  refine ((keys_same l) l _ _ _ _ _ _ t6 hll HL1.out (HL.out.below HBt6.out) (HL.out.below HBt6.out)).mono ?_; rintro e t7 ⟨rfl, hb⟩
  rw [alike_yes rfl]
  have HBt7 := Lib.hid (below_step HBt6.out hb)
  have hS_t7 : AB t7 w.heap.size [.int .i64 k1, .string S1, .bool b1, .int .u64 n1, .slice lo1 ln1 lc1, .slice mo1 mn1 mc1, .string I1, .string U1] [.int .i64 k2, .string S2, .bool b2, .int .u64 n2, .slice lo2 ln2 lc2, .slice mo2 mn2 mc2, .string I2, .string U2] := hS_t6.below hb
  go_simp; refine hK.out _ _ hS_t7 ?_; clear hK K2 hb
  iterate 2 (refine seq_take _ rfl (fun K2 hK => ?_); go_simp; (first | refine hK _ ?_ | refine ⟨_, fun _ _ => rfl, hK _ ?_⟩ | (refine ⟨undef, by rw [if_neg (by simp [undef])], ?_⟩; refine hK _ ?_)); clear hK K2)
  refine seq_done ?_
  go_wp2_with fail
  go_ret
  exact ⟨rfl, HBt7.out⟩
end Go.Proofs.YteknippgiljgeaaGreatDoor
