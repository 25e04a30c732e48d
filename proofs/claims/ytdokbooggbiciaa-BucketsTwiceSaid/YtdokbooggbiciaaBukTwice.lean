/-
  hyglaw14.BucketsTwice, exph.MayBuckets.
-/
import Derived.Test.YtdokbooggbiciaaBukSame
import Derived.Test.YtdokbooggbiciaaNumsSame
namespace Go.Proofs.Ytdokbooggbiciaa
open Go.RowKit

set_option maxRecDepth 1000000 in
set_option maxHeartbeats 4000000 in
theorem mayB_any (x : Bk) (u : List UInt8) (ao : Option Addr) (cap : Nat) (X : ByteArray) (d : Int) (w : World) (hx : Hid (BkOk x)) (hN : Hid (Nats .u64 w ao x.cs)) (hl : x.cs.length ≤ 100000) (hu : u.length ≤ 1000000) (hX : Hid (X = ⟨u.toArray⟩)) :
    Calls Try.prog 14 #[.agg #[.int .i32 x.off, .slice ao x.cs.length cap, .string X], .int .i64 d] w fun e w' => e = .returned (.bool (bmay u d)) ∧ Below w.heap.size w w' := by
  have hal : Below w.heap.size w (w.alloc (.cells #[.int .i32 x.off, .slice ao x.cs.length cap, .string X] 24)) := below_new _ _
  have HBA := Lib.hid hal
  have HN2 : Hid (Nats .u64 (w.alloc (.cells #[.int .i32 x.off, .slice ao x.cs.length cap, .string X] 24)) ao x.cs) := Lib.hid (hN.out.below hal)
  obtain ⟨W0, hW0⟩ : ∃ W0, w.alloc (.cells #[.int .i32 x.off, .slice ao x.cs.length cap, .string X] 24) = W0 := ⟨_, rfl⟩
  have hrow : W0.heap[w.heap.size]? = some (.cells #[.int .i32 x.off, .slice ao x.cs.length cap, .string X] 24 (0, 0)) := by rw [← hW0]; exact heap_alloc_new w _
  rw [hW0] at HN2 HBA
  have HP := Lib.hid (mb_any x u ao cap X d W0 hx HN2 hl hu hX)
  have HW0 := Lib.hid hW0
  have hc0 : W0.cell? ⟨w.heap.size, 0, none⟩ = some (.int .i32 x.off) := row_cell hrow (j := 0) rfl
  have hc1 : W0.cell? ⟨w.heap.size, 1, none⟩ = some (.slice ao x.cs.length cap) := row_cell hrow (j := 1) rfl
  have hc2 : W0.cell? ⟨w.heap.size, 2, none⟩ = some (.string X) := row_cell hrow (j := 2) rfl
  clear hW0 hal hrow hN hx
  go_enter Try.func14, Try.ntmps14
  go_wp2_with fail
  rw [HW0.out]
  go_wp2_with fail
  refine HP.out.mono ?_; rintro e w' ⟨hb, hcase⟩
  have HB := Lib.hid (below_step HBA.out hb)
  clear hb
  rcases hcase with ⟨hm, rfl⟩ | ⟨hm, v, rfl, hec⟩
  · have HM := Lib.hid hm
    clear hm
    go_wp2_with fail
    go_ret
    exact ⟨by rw [HM.out]; rfl, HB.out⟩
  · obtain ⟨T, y, rfl⟩ := hec.iface
    have HM := Lib.hid hm
    clear hm hec
    go_wp2_with fail
    go_ret
    exact ⟨by rw [HM.out]; rfl, HB.out⟩
set_option maxRecDepth 1000000 in
set_option maxHeartbeats 8000000 in
theorem twice_walk (s : ByteArray) (d : Int) (w : World) (hs : s.size ≤ 6000) :
    Calls Try.prog 5 #[.string s, .int .i64 d] w fun e w' => e = .returned (.bool true) ∧ Below w.heap.size w w' := by
  have d1 : decide ((s.size : Int) > 6000) = false := decide_eq_false (by omega)
  go_enter Try.func5, Try.ntmps5
  go_wp2_with fail
  refine (first14 w).mono ?_; rintro e w1 ⟨rfl, hb1⟩
  have HB1 := Lib.hid hb1
  clear hb1
  go_wp2_with fail
  refine (ub_gen s d w1 (by omega)).mono ?_; rintro e w2 ⟨hb2, x, u, ao, cap, v, rfl, hx⟩
  have HB2 := Lib.hid (below_step HB1.out hb2)
  clear hb2
  rcases hx with ⟨rfl, hbx, hown⟩ | ⟨T, y, q, c, rfl, _, _, _, rfl, rfl, rfl, rfl⟩
  case inr =>
    obtain ⟨W2, hW2⟩ : ∃ W2, w2.alloc (.cells #[.int .i32 0, .slice none 0 0, .string ⟨#[]⟩] 24) = W2 := ⟨_, rfl⟩
    obtain ⟨bx, hbx⟩ : ∃ bx, w2.heap.size = bx := ⟨_, rfl⟩
    have HXR : Hid (W2.heap[bx]? = some (.cells #[.int .i32 0, .slice none 0 0, .string ⟨#[]⟩] 24 (0, 0))) := Lib.hid (by rw [← hW2, ← hbx]; exact heap_alloc_new w2 _)
    have HBW2 : Hid (Below w.heap.size w W2) := Lib.hid (by rw [← hW2]; exact below_step HB2.out (below_new _ _))
    have HW2 := Lib.hid hW2
    have HBX := Lib.hid hbx
    clear hW2 hbx
    go_wp2_with fail
    rw [HW2.out, HBX.out]
    refine (first14 W2).mono ?_; rintro e w3 ⟨rfl, hb3⟩
    have HB3 := Lib.hid (below_step HBW2.out hb3)
    have hrow := (hb3.block _ (row_lt HXR.out)).trans HXR.out
    have hc0 : w3.cell? ⟨bx, 0, none⟩ = some (.int .i32 0) := row_cell hrow (j := 0) rfl
    have hc1 : w3.cell? ⟨bx, 1, none⟩ = some (.slice none 0 0) := row_cell hrow (j := 1) rfl
    have hc2 : w3.cell? ⟨bx, 2, none⟩ = some (.string ⟨#[]⟩) := row_cell hrow (j := 2) rfl
    clear hb3 hrow
    go_wp2_with fail
    refine (sameB_any ⟨0, []⟩ ⟨0, []⟩ [] [] none none 0 0 w3 (Lib.hid (fun h => absurd rfl h)) (Lib.hid (fun h => absurd rfl h)) (by simp) (r := true) (Lib.hid (by simp))).mono ?_; rintro e w4 ⟨rfl, hb4⟩
    have HB4 := Lib.hid (below_step HB3.out hb4)
    clear hb4
    go_wp2_with fail
    go_ret
    exact ⟨rfl, HB4.out⟩
  case inl =>
  have hN2 := nats_of_own hown
  have hcs := bread_cs hbx
  have hul := bread_unk hbx
  have hmay := bread_may hbx
  have hsl : s.data.toList.length = s.size := by simp
  have hxl : x.cs.length ≤ 6000 := by omega
  have hull : u.length ≤ 6000 := by omega
  have hv := vputs_len10 x.cs
  have hput := bread_put hcs.2 (by omega) hmay
  have hpl := bput_len x u
  have HK := Lib.hid hcs.2
  have HM := Lib.hid hmay
  have HPUT := Lib.hid hput
  have hpl2 : (bput x u).length ≤ 70000 := by omega
  clear hbx hown hcs hul hmay hv hput hpl hsl
  obtain ⟨S, hS⟩ : ∃ S : ByteArray, (⟨u.toArray⟩ : ByteArray) = S := ⟨_, rfl⟩
  have HS := Lib.hid hS
  have HSS := Lib.hid hS.symm
  rw [hS]
  obtain ⟨R, hR⟩ : ∃ R : ByteArray, (⟨(bput x u).toArray⟩ : ByteArray) = R := ⟨_, rfl⟩
  have HR := Lib.hid hR
  have hRs : R.size ≤ 70000 := by rw [← hR]; simpa [ByteArray.size] using hpl2
  have HRL : Hid (R.data.toList = bput x u) := Lib.hid (by rw [← hR])
  clear hS hR hpl2
  obtain ⟨W2, hW2⟩ : ∃ W2, w2.alloc (.cells #[.int .i32 x.off, .slice ao x.cs.length cap, .string S] 24) = W2 := ⟨_, rfl⟩
  obtain ⟨bx, hbx⟩ : ∃ bx, w2.heap.size = bx := ⟨_, rfl⟩
  have HXR : Hid (W2.heap[bx]? = some (.cells #[.int .i32 x.off, .slice ao x.cs.length cap, .string S] 24 (0, 0))) := Lib.hid (by rw [← hW2, ← hbx]; exact heap_alloc_new w2 _)
  have HBW2 : Hid (Below w.heap.size w W2) := Lib.hid (by rw [← hW2]; exact below_step HB2.out (below_new _ _))
  have HNX : Hid (Nats .u64 W2 ao x.cs) := Lib.hid (by rw [← hW2]; exact hN2.below (below_new _ _))
  have hc0 : W2.cell? ⟨bx, 0, none⟩ = some (.int .i32 x.off) := row_cell HXR.out (j := 0) rfl
  have hc1 : W2.cell? ⟨bx, 1, none⟩ = some (.slice ao x.cs.length cap) := row_cell HXR.out (j := 1) rfl
  have hc2 : W2.cell? ⟨bx, 2, none⟩ = some (.string S) := row_cell HXR.out (j := 2) rfl
  have HW2 := Lib.hid hW2
  have HBX := Lib.hid hbx
  clear hW2 hbx hN2
  have HC2 := Lib.hid (mb_any x u ao cap S d W2 HK HNX (by omega) (by omega) HSS)
  go_wp2_with fail
  rw [HW2.out, HBX.out]
  go_wp2_with fail
  refine HC2.out.mono ?_; rintro e w3 ⟨hb3, hcase⟩
  rcases hcase with ⟨_, rfl⟩ | ⟨hno, _⟩
  case inr => rw [HM.out] at hno; cases hno
  rw [HR.out]
  have HB3 := Lib.hid (below_step HBW2.out hb3)
  have HXR3 : Hid (w3.heap[bx]? = some (.cells #[.int .i32 x.off, .slice ao x.cs.length cap, .string S] 24 (0, 0))) := Lib.hid ((hb3.block _ (row_lt HXR.out)).trans HXR.out)
  have HNX3 : Hid (Nats .u64 w3 ao x.cs) := Lib.hid (HNX.out.below hb3)
  clear hb3 hc0 hc1 hc2
  go_wp2_with fail
  refine (ub_gen R d w3 (by omega)).mono ?_; rintro e w4 ⟨hb4, y, u', ao', cap', v', rfl, hy⟩
  rw [HRL.out, HPUT.out] at hy
  rcases hy with ⟨rfl, hby, hown⟩ | ⟨_, _, _, _, _, hby, _⟩
  case inr => cases hby
  simp only [Except.ok.injEq, Prod.mk.injEq] at hby
  obtain ⟨rfl, rfl⟩ := hby
  rw [HS.out]
  have hN4 := nats_of_own hown
  have HB4 := Lib.hid (below_step HB3.out hb4)
  have HXR4 := (hb4.block _ (row_lt HXR3.out)).trans HXR3.out
  have HNX4 := HNX3.out.below hb4
  obtain ⟨W4, hW4⟩ : ∃ W4, w4.alloc (.cells #[.int .i32 x.off, .slice ao' x.cs.length cap', .string S] 24) = W4 := ⟨_, rfl⟩
  obtain ⟨by', hby⟩ : ∃ bx, w4.heap.size = bx := ⟨_, rfl⟩
  have hba : Below w4.heap.size w4 W4 := by rw [← hW4]; exact below_new _ _
  have HYR : Hid (W4.heap[by']? = some (.cells #[.int .i32 x.off, .slice ao' x.cs.length cap', .string S] 24 (0, 0))) := Lib.hid (by rw [← hW4, ← hby]; exact heap_alloc_new w4 _)
  have HBW4 : Hid (Below w.heap.size w W4) := Lib.hid (below_step HB4.out hba)
  have HNY : Hid (Nats .u64 W4 ao' x.cs) := Lib.hid (hN4.below hba)
  have HNX5 : Hid (Nats .u64 W4 ao x.cs) := Lib.hid (HNX4.below hba)
  have HXR5 : Hid (W4.heap[bx]? = some (.cells #[.int .i32 x.off, .slice ao x.cs.length cap, .string S] 24 (0, 0))) := Lib.hid ((hba.block _ (row_lt HXR4)).trans HXR4)
  have hc0 : W4.cell? ⟨by', 0, none⟩ = some (.int .i32 x.off) := row_cell HYR.out (j := 0) rfl
  have hc1 : W4.cell? ⟨by', 1, none⟩ = some (.slice ao' x.cs.length cap') := row_cell HYR.out (j := 1) rfl
  have hc2 : W4.cell? ⟨by', 2, none⟩ = some (.string S) := row_cell HYR.out (j := 2) rfl
  have HW4 := Lib.hid hW4
  have HBY := Lib.hid hby
  clear hW4 hby hN4 hown hb4 HXR4 HNX4 hba
  have HC4 := Lib.hid (mb_any x u ao' cap' S d W4 HK HNY (by omega) (by omega) HSS)
  go_wp2_with fail
  rw [HW4.out, HBY.out]
  go_wp2_with fail
  refine HC4.out.mono ?_; rintro e w5 ⟨hb5, hcase⟩
  rcases hcase with ⟨_, rfl⟩ | ⟨hno, _⟩
  case inr => rw [HM.out] at hno; cases hno
  rw [HR.out]
  have HB5 := Lib.hid (below_step HBW4.out hb5)
  have HXR6 : Hid (w5.heap[bx]? = some (.cells #[.int .i32 x.off, .slice ao x.cs.length cap, .string S] 24 (0, 0))) := Lib.hid ((hb5.block _ (row_lt HXR5.out)).trans HXR5.out)
  have HYR6 : Hid (w5.heap[by']? = some (.cells #[.int .i32 x.off, .slice ao' x.cs.length cap', .string S] 24 (0, 0))) := Lib.hid ((hb5.block _ (row_lt HYR.out)).trans HYR.out)
  have HNX6 : Hid (Nats .u64 w5 ao x.cs) := Lib.hid (HNX5.out.below hb5)
  have HNY6 : Hid (Nats .u64 w5 ao' x.cs) := Lib.hid (HNY.out.below hb5)
  clear hb5 hc0 hc1 hc2
  go_wp2_with fail
  refine (first14 w5).mono ?_; rintro e w6 ⟨rfl, hb6⟩
  have HB6 := Lib.hid (below_step HB5.out hb6)
  have HXR7 : Hid (w6.heap[bx]? = some (.cells #[.int .i32 x.off, .slice ao x.cs.length cap, .string S] 24 (0, 0))) := Lib.hid ((hb6.block _ (row_lt HXR6.out)).trans HXR6.out)
  have HYR7 : Hid (w6.heap[by']? = some (.cells #[.int .i32 x.off, .slice ao' x.cs.length cap', .string S] 24 (0, 0))) := Lib.hid ((hb6.block _ (row_lt HYR6.out)).trans HYR6.out)
  have HNX7 : Hid (Nats .u64 w6 ao x.cs) := Lib.hid (HNX6.out.below hb6)
  have HNY7 : Hid (Nats .u64 w6 ao' x.cs) := Lib.hid (HNY6.out.below hb6)
  have hc0 : w6.cell? ⟨bx, 0, none⟩ = some (.int .i32 x.off) := row_cell HXR7.out (j := 0) rfl
  have hc1 : w6.cell? ⟨bx, 1, none⟩ = some (.slice ao x.cs.length cap) := row_cell HXR7.out (j := 1) rfl
  have hc2 : w6.cell? ⟨bx, 2, none⟩ = some (.string S) := row_cell HXR7.out (j := 2) rfl
  clear hb6
  have HC6 := Lib.hid (mayB_any x u ao cap S d w6 HK HNX7 (by omega) (by omega) HSS)
  go_wp2_with fail
  refine HC6.out.mono ?_; rintro e w7 ⟨rfl, hb7⟩
  rw [HM.out]
  have HB7 := Lib.hid (below_step HB6.out hb7)
  have hxr := (hb7.block _ (row_lt HXR7.out)).trans HXR7.out
  have hyr := (hb7.block _ (row_lt HYR7.out)).trans HYR7.out
  have HC7 := sameB_any x x u u ao ao' cap cap' w7 (Lib.hid (HNX7.out.below hb7)) (Lib.hid (HNY7.out.below hb7)) (by omega) (r := true) (Lib.hid (by simp))
  rw [HS.out] at HC7
  have HC8 := Lib.hid HC7
  clear HC7 hb7 hc0 hc1 hc2
  have hc0 : w7.cell? ⟨bx, 0, none⟩ = some (.int .i32 x.off) := row_cell hxr (j := 0) rfl
  have hc1 : w7.cell? ⟨bx, 1, none⟩ = some (.slice ao x.cs.length cap) := row_cell hxr (j := 1) rfl
  have hc2 : w7.cell? ⟨bx, 2, none⟩ = some (.string S) := row_cell hxr (j := 2) rfl
  have hy0 : w7.cell? ⟨by', 0, none⟩ = some (.int .i32 x.off) := row_cell hyr (j := 0) rfl
  have hy1 : w7.cell? ⟨by', 1, none⟩ = some (.slice ao' x.cs.length cap') := row_cell hyr (j := 1) rfl
  have hy2 : w7.cell? ⟨by', 2, none⟩ = some (.string S) := row_cell hyr (j := 2) rfl
  clear hxr hyr
  go_wp2_with fail
  refine HC8.out.mono ?_; rintro e w8 ⟨rfl, hb8⟩
  have HB8 := Lib.hid (below_step HB7.out hb8)
  have hreq : (R.toList == R.toList) = true := by simp
  clear hb8 hc0 hc1 hc2 hy0 hy1 hy2
  go_wp2_with fail
  go_ret
  exact ⟨rfl, HB8.out⟩
set_option maxRecDepth 1000000 in
set_option maxHeartbeats 8000000 in
theorem twice_any (s : ByteArray) (d : Int) (w : World) :
    Calls Try.prog 5 #[.string s, .int .i64 d] w fun e w' => e = .returned (.bool true) ∧ Below w.heap.size w w' := by
  by_cases h : s.size ≤ 6000
  · exact twice_walk s d w h
  · have d1 : decide ((s.size : Int) > 6000) = true := decide_eq_true (by omega)
    clear h
    go_enter Try.func5, Try.ntmps5
    go_wp2_with fail
    refine (first14 w).mono ?_; rintro e w1 ⟨rfl, hb1⟩
    have HB1 := Lib.hid hb1
    clear hb1
    go_wp2_with fail
    refine (first14 w1).mono ?_; rintro e w2 ⟨rfl, hb2⟩
    have HB2 := Lib.hid (below_step HB1.out hb2)
    clear hb2
    go_wp2_with fail
    go_ret
    exact ⟨rfl, HB2.out⟩
end Go.Proofs.Ytdokbooggbiciaa
