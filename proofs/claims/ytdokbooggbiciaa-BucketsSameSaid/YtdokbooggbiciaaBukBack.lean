/-
  hyglaw14.BucketsTwice, exph.MayBuckets.
-/
/-
  A side as an argument, opened; hygref.take, RoomBuckets.
-/
/-
  hyglaw14.BucketsBack.
-/
import Derived.Test.YtdokbooggbiciaaBukSame
import Derived.Test.YtdokbooggbiciaaNumsSame
import Derived.Deep.Strs
import Derived.IntWalk
import Derived.Test.YtdokbooggbiciaaOrd
namespace Go.Proofs.Ytdokbooggbiciaa
open Go.RowKit

set_option maxRecDepth 1000000 in
set_option maxHeartbeats 4000000 in
theorem mayB_any (x : Bk) (u : List UInt8) (ao : Option Addr) (cap : Nat) (X : ByteArray) (d : Int) (w : World) (hx : Hid (BkOk x)) (hN : Hid (Nats .u64 w ao x.cs)) (hl : x.cs.length ≤ 100000) (hu : u.length ≤ 1000000) (hX : Hid (X = ⟨u.toArray⟩)) :
    Calls Try.prog 14 #[.agg #[.int .i32 x.off, .slice ao x.cs.length cap, .string X], .int .i64 d] w fun e w' => e = .returned (.bool (bmay u d)) ∧ Below w.heap.size w w' := by
  have hal : Below w.heap.size w (w.alloc (.cells #[.int .i32 x.off, .slice ao x.cs.length cap, .string X] 24)) := below_new _ _
  have HBA := Lib.hid hal
  have HN2 : Hid (Nats .u64 (w.alloc (.cells #[.int .i32 x.off, .slice ao x.cs.length cap, .string X] 24)) ao x.cs) := Lib.hid (hN.out.below hal)
  obtain ⟨W0, hW0⟩ : ∃ W0, w.alloc (.cells #[.int .i32 x.off, .slice ao x.cs.length cap, .string X] 24) = W0 := ⟨_, rfl⟩
  have hrow : W0.heap[w.heap.size]? = some (.cells #[.int .i32 x.off, .slice ao x.cs.length cap, .string X] 24 (0, 0)) := by rw [← hW0]; exact heap_alloc_new w _
  rw [hW0] at HN2 HBA
  have HP := Lib.hid (mb_any x u ao cap X d W0 hx HN2 hl hu hX)
  have HW0 := Lib.hid hW0
  have hc0 : W0.cell? ⟨w.heap.size, 0, none⟩ = some (.int .i32 x.off) := row_cell hrow (j := 0) rfl
  have hc1 : W0.cell? ⟨w.heap.size, 1, none⟩ = some (.slice ao x.cs.length cap) := row_cell hrow (j := 1) rfl
  have hc2 : W0.cell? ⟨w.heap.size, 2, none⟩ = some (.string X) := row_cell hrow (j := 2) rfl
  clear hW0 hal hrow hN hx
  go_enter Try.func14, Try.ntmps14
  go_wp2_with fail
  rw [HW0.out]
  go_wp2_with fail
  refine HP.out.mono ?_; rintro e w' ⟨hb, hcase⟩
  have HB := Lib.hid (below_step HBA.out hb)
  clear hb
  rcases hcase with ⟨hm, rfl⟩ | ⟨hm, v, rfl, hec⟩
  · have HM := Lib.hid hm
    clear hm
    go_wp2_with fail
    go_ret
    exact ⟨by rw [HM.out]; rfl, HB.out⟩
  · obtain ⟨T, y, rfl⟩ := hec.iface
    have HM := Lib.hid hm
    clear hm hec
    go_wp2_with fail
    go_ret
    exact ⟨by rw [HM.out]; rfl, HB.out⟩
set_option maxRecDepth 1000000 in
set_option maxHeartbeats 8000000 in
theorem twice_walk (s : ByteArray) (d : Int) (w : World) (hs : s.size ≤ 6000) :
    Calls Try.prog 5 #[.string s, .int .i64 d] w fun e w' => e = .returned (.bool true) ∧ Below w.heap.size w w' := by
  have d1 : decide ((s.size : Int) > 6000) = false := decide_eq_false (by omega)
  go_enter Try.func5, Try.ntmps5
  go_wp2_with fail
  refine (first14 w).mono ?_; rintro e w1 ⟨rfl, hb1⟩
  have HB1 := Lib.hid hb1
  clear hb1
  go_wp2_with fail
  refine (ub_gen s d w1 (by omega)).mono ?_; rintro e w2 ⟨hb2, x, u, ao, cap, v, rfl, hx⟩
  have HB2 := Lib.hid (below_step HB1.out hb2)
  clear hb2
  rcases hx with ⟨rfl, hbx, hown⟩ | ⟨T, y, q, c, rfl, _, _, _, rfl, rfl, rfl, rfl⟩
  case inr =>
    obtain ⟨W2, hW2⟩ : ∃ W2, w2.alloc (.cells #[.int .i32 0, .slice none 0 0, .string ⟨#[]⟩] 24) = W2 := ⟨_, rfl⟩
    obtain ⟨bx, hbx⟩ : ∃ bx, w2.heap.size = bx := ⟨_, rfl⟩
    have HXR : Hid (W2.heap[bx]? = some (.cells #[.int .i32 0, .slice none 0 0, .string ⟨#[]⟩] 24 (0, 0))) := Lib.hid (by rw [← hW2, ← hbx]; exact heap_alloc_new w2 _)
    have HBW2 : Hid (Below w.heap.size w W2) := Lib.hid (by rw [← hW2]; exact below_step HB2.out (below_new _ _))
    have HW2 := Lib.hid hW2
    have HBX := Lib.hid hbx
    clear hW2 hbx
    go_wp2_with fail
    rw [HW2.out, HBX.out]
    refine (first14 W2).mono ?_; rintro e w3 ⟨rfl, hb3⟩
    have HB3 := Lib.hid (below_step HBW2.out hb3)
    have hrow := (hb3.block _ (row_lt HXR.out)).trans HXR.out
    have hc0 : w3.cell? ⟨bx, 0, none⟩ = some (.int .i32 0) := row_cell hrow (j := 0) rfl
    have hc1 : w3.cell? ⟨bx, 1, none⟩ = some (.slice none 0 0) := row_cell hrow (j := 1) rfl
    have hc2 : w3.cell? ⟨bx, 2, none⟩ = some (.string ⟨#[]⟩) := row_cell hrow (j := 2) rfl
    clear hb3 hrow
    go_wp2_with fail
    refine (sameB_any ⟨0, []⟩ ⟨0, []⟩ [] [] none none 0 0 w3 (Lib.hid (fun h => absurd rfl h)) (Lib.hid (fun h => absurd rfl h)) (by simp) (r := true) (Lib.hid (by simp))).mono ?_; rintro e w4 ⟨rfl, hb4⟩
    have HB4 := Lib.hid (below_step HB3.out hb4)
    clear hb4
    go_wp2_with fail
    go_ret
    exact ⟨rfl, HB4.out⟩
  case inl =>
  have hN2 := nats_of_own hown
  have hcs := bread_cs hbx
  have hul := bread_unk hbx
  have hmay := bread_may hbx
  have hsl : s.data.toList.length = s.size := by simp
  have hxl : x.cs.length ≤ 6000 := by omega
  have hull : u.length ≤ 6000 := by omega
  have hv := vputs_len10 x.cs
  have hput := bread_put hcs.2 (by omega) hmay
  have hpl := bput_len x u
  have HK := Lib.hid hcs.2
  have HM := Lib.hid hmay
  have HPUT := Lib.hid hput
  have hpl2 : (bput x u).length ≤ 70000 := by omega
  clear hbx hown hcs hul hmay hv hput hpl hsl
  obtain ⟨S, hS⟩ : ∃ S : ByteArray, (⟨u.toArray⟩ : ByteArray) = S := ⟨_, rfl⟩
  have HS := Lib.hid hS
  have HSS := Lib.hid hS.symm
  rw [hS]
  obtain ⟨R, hR⟩ : ∃ R : ByteArray, (⟨(bput x u).toArray⟩ : ByteArray) = R := ⟨_, rfl⟩
  have HR := Lib.hid hR
  have hRs : R.size ≤ 70000 := by rw [← hR]; simpa [ByteArray.size] using hpl2
  have HRL : Hid (R.data.toList = bput x u) := Lib.hid (by rw [← hR])
  clear hS hR hpl2
  obtain ⟨W2, hW2⟩ : ∃ W2, w2.alloc (.cells #[.int .i32 x.off, .slice ao x.cs.length cap, .string S] 24) = W2 := ⟨_, rfl⟩
  obtain ⟨bx, hbx⟩ : ∃ bx, w2.heap.size = bx := ⟨_, rfl⟩
  have HXR : Hid (W2.heap[bx]? = some (.cells #[.int .i32 x.off, .slice ao x.cs.length cap, .string S] 24 (0, 0))) := Lib.hid (by rw [← hW2, ← hbx]; exact heap_alloc_new w2 _)
  have HBW2 : Hid (Below w.heap.size w W2) := Lib.hid (by rw [← hW2]; exact below_step HB2.out (below_new _ _))
  have HNX : Hid (Nats .u64 W2 ao x.cs) := Lib.hid (by rw [← hW2]; exact hN2.below (below_new _ _))
  have hc0 : W2.cell? ⟨bx, 0, none⟩ = some (.int .i32 x.off) := row_cell HXR.out (j := 0) rfl
  have hc1 : W2.cell? ⟨bx, 1, none⟩ = some (.slice ao x.cs.length cap) := row_cell HXR.out (j := 1) rfl
  have hc2 : W2.cell? ⟨bx, 2, none⟩ = some (.string S) := row_cell HXR.out (j := 2) rfl
  have HW2 := Lib.hid hW2
  have HBX := Lib.hid hbx
  clear hW2 hbx hN2
  have HC2 := Lib.hid (mb_any x u ao cap S d W2 HK HNX (by omega) (by omega) HSS)
  go_wp2_with fail
  rw [HW2.out, HBX.out]
  go_wp2_with fail
  refine HC2.out.mono ?_; rintro e w3 ⟨hb3, hcase⟩
  rcases hcase with ⟨_, rfl⟩ | ⟨hno, _⟩
  case inr => rw [HM.out] at hno; cases hno
  rw [HR.out]
  have HB3 := Lib.hid (below_step HBW2.out hb3)
  have HXR3 : Hid (w3.heap[bx]? = some (.cells #[.int .i32 x.off, .slice ao x.cs.length cap, .string S] 24 (0, 0))) := Lib.hid ((hb3.block _ (row_lt HXR.out)).trans HXR.out)
  have HNX3 : Hid (Nats .u64 w3 ao x.cs) := Lib.hid (HNX.out.below hb3)
  clear hb3 hc0 hc1 hc2
  go_wp2_with fail
  refine (ub_gen R d w3 (by omega)).mono ?_; rintro e w4 ⟨hb4, y, u', ao', cap', v', rfl, hy⟩
  rw [HRL.out, HPUT.out] at hy
  rcases hy with ⟨rfl, hby, hown⟩ | ⟨_, _, _, _, _, hby, _⟩
  case inr => cases hby
  simp only [Except.ok.injEq, Prod.mk.injEq] at hby
  obtain ⟨rfl, rfl⟩ := hby
  rw [HS.out]
  have hN4 := nats_of_own hown
  have HB4 := Lib.hid (below_step HB3.out hb4)
  have HXR4 := (hb4.block _ (row_lt HXR3.out)).trans HXR3.out
  have HNX4 := HNX3.out.below hb4
  obtain ⟨W4, hW4⟩ : ∃ W4, w4.alloc (.cells #[.int .i32 x.off, .slice ao' x.cs.length cap', .string S] 24) = W4 := ⟨_, rfl⟩
  obtain ⟨by', hby⟩ : ∃ bx, w4.heap.size = bx := ⟨_, rfl⟩
  have hba : Below w4.heap.size w4 W4 := by rw [← hW4]; exact below_new _ _
  have HYR : Hid (W4.heap[by']? = some (.cells #[.int .i32 x.off, .slice ao' x.cs.length cap', .string S] 24 (0, 0))) := Lib.hid (by rw [← hW4, ← hby]; exact heap_alloc_new w4 _)
  have HBW4 : Hid (Below w.heap.size w W4) := Lib.hid (below_step HB4.out hba)
  have HNY : Hid (Nats .u64 W4 ao' x.cs) := Lib.hid (hN4.below hba)
  have HNX5 : Hid (Nats .u64 W4 ao x.cs) := Lib.hid (HNX4.below hba)
  have HXR5 : Hid (W4.heap[bx]? = some (.cells #[.int .i32 x.off, .slice ao x.cs.length cap, .string S] 24 (0, 0))) := Lib.hid ((hba.block _ (row_lt HXR4)).trans HXR4)
  have hc0 : W4.cell? ⟨by', 0, none⟩ = some (.int .i32 x.off) := row_cell HYR.out (j := 0) rfl
  have hc1 : W4.cell? ⟨by', 1, none⟩ = some (.slice ao' x.cs.length cap') := row_cell HYR.out (j := 1) rfl
  have hc2 : W4.cell? ⟨by', 2, none⟩ = some (.string S) := row_cell HYR.out (j := 2) rfl
  have HW4 := Lib.hid hW4
  have HBY := Lib.hid hby
  clear hW4 hby hN4 hown hb4 HXR4 HNX4 hba
  have HC4 := Lib.hid (mb_any x u ao' cap' S d W4 HK HNY (by omega) (by omega) HSS)
  go_wp2_with fail
  rw [HW4.out, HBY.out]
  go_wp2_with fail
  refine HC4.out.mono ?_; rintro e w5 ⟨hb5, hcase⟩
  rcases hcase with ⟨_, rfl⟩ | ⟨hno, _⟩
  case inr => rw [HM.out] at hno; cases hno
  rw [HR.out]
  have HB5 := Lib.hid (below_step HBW4.out hb5)
  have HXR6 : Hid (w5.heap[bx]? = some (.cells #[.int .i32 x.off, .slice ao x.cs.length cap, .string S] 24 (0, 0))) := Lib.hid ((hb5.block _ (row_lt HXR5.out)).trans HXR5.out)
  have HYR6 : Hid (w5.heap[by']? = some (.cells #[.int .i32 x.off, .slice ao' x.cs.length cap', .string S] 24 (0, 0))) := Lib.hid ((hb5.block _ (row_lt HYR.out)).trans HYR.out)
  have HNX6 : Hid (Nats .u64 w5 ao x.cs) := Lib.hid (HNX5.out.below hb5)
  have HNY6 : Hid (Nats .u64 w5 ao' x.cs) := Lib.hid (HNY.out.below hb5)
  clear hb5 hc0 hc1 hc2
  go_wp2_with fail
  refine (first14 w5).mono ?_; rintro e w6 ⟨rfl, hb6⟩
  have HB6 := Lib.hid (below_step HB5.out hb6)
  have HXR7 : Hid (w6.heap[bx]? = some (.cells #[.int .i32 x.off, .slice ao x.cs.length cap, .string S] 24 (0, 0))) := Lib.hid ((hb6.block _ (row_lt HXR6.out)).trans HXR6.out)
  have HYR7 : Hid (w6.heap[by']? = some (.cells #[.int .i32 x.off, .slice ao' x.cs.length cap', .string S] 24 (0, 0))) := Lib.hid ((hb6.block _ (row_lt HYR6.out)).trans HYR6.out)
  have HNX7 : Hid (Nats .u64 w6 ao x.cs) := Lib.hid (HNX6.out.below hb6)
  have HNY7 : Hid (Nats .u64 w6 ao' x.cs) := Lib.hid (HNY6.out.below hb6)
  have hc0 : w6.cell? ⟨bx, 0, none⟩ = some (.int .i32 x.off) := row_cell HXR7.out (j := 0) rfl
  have hc1 : w6.cell? ⟨bx, 1, none⟩ = some (.slice ao x.cs.length cap) := row_cell HXR7.out (j := 1) rfl
  have hc2 : w6.cell? ⟨bx, 2, none⟩ = some (.string S) := row_cell HXR7.out (j := 2) rfl
  clear hb6
  have HC6 := Lib.hid (mayB_any x u ao cap S d w6 HK HNX7 (by omega) (by omega) HSS)
  go_wp2_with fail
  refine HC6.out.mono ?_; rintro e w7 ⟨rfl, hb7⟩
  rw [HM.out]
  have HB7 := Lib.hid (below_step HB6.out hb7)
  have hxr := (hb7.block _ (row_lt HXR7.out)).trans HXR7.out
  have hyr := (hb7.block _ (row_lt HYR7.out)).trans HYR7.out
  have HC7 := sameB_any x x u u ao ao' cap cap' w7 (Lib.hid (HNX7.out.below hb7)) (Lib.hid (HNY7.out.below hb7)) (by omega) (r := true) (Lib.hid (by simp))
  rw [HS.out] at HC7
  have HC8 := Lib.hid HC7
  clear HC7 hb7 hc0 hc1 hc2
  have hc0 : w7.cell? ⟨bx, 0, none⟩ = some (.int .i32 x.off) := row_cell hxr (j := 0) rfl
  have hc1 : w7.cell? ⟨bx, 1, none⟩ = some (.slice ao x.cs.length cap) := row_cell hxr (j := 1) rfl
  have hc2 : w7.cell? ⟨bx, 2, none⟩ = some (.string S) := row_cell hxr (j := 2) rfl
  have hy0 : w7.cell? ⟨by', 0, none⟩ = some (.int .i32 x.off) := row_cell hyr (j := 0) rfl
  have hy1 : w7.cell? ⟨by', 1, none⟩ = some (.slice ao' x.cs.length cap') := row_cell hyr (j := 1) rfl
  have hy2 : w7.cell? ⟨by', 2, none⟩ = some (.string S) := row_cell hyr (j := 2) rfl
  clear hxr hyr
  go_wp2_with fail
  refine HC8.out.mono ?_; rintro e w8 ⟨rfl, hb8⟩
  have HB8 := Lib.hid (below_step HB7.out hb8)
  have hreq : (R.toList == R.toList) = true := by simp
  clear hb8 hc0 hc1 hc2 hy0 hy1 hy2
  go_wp2_with fail
  go_ret
  exact ⟨rfl, HB8.out⟩
set_option maxRecDepth 1000000 in
set_option maxHeartbeats 8000000 in
theorem twice_any (s : ByteArray) (d : Int) (w : World) :
    Calls Try.prog 5 #[.string s, .int .i64 d] w fun e w' => e = .returned (.bool true) ∧ Below w.heap.size w w' := by
  by_cases h : s.size ≤ 6000
  · exact twice_walk s d w h
  · have d1 : decide ((s.size : Int) > 6000) = true := decide_eq_true (by omega)
    clear h
    go_enter Try.func5, Try.ntmps5
    go_wp2_with fail
    refine (first14 w).mono ?_; rintro e w1 ⟨rfl, hb1⟩
    have HB1 := Lib.hid hb1
    clear hb1
    go_wp2_with fail
    refine (first14 w1).mono ?_; rintro e w2 ⟨rfl, hb2⟩
    have HB2 := Lib.hid (below_step HB1.out hb2)
    clear hb2
    go_wp2_with fail
    go_ret
    exact ⟨rfl, HB2.out⟩
end Go.Proofs.Ytdokbooggbiciaa
namespace Go.Proofs.Ytdokbooggbiciaa
open Go.ChangeShapes Go.WideShapes Go.ChangeAt Go.RowKit Go.Deep

/-- the cells of a slice of numbers, read -/
theorem ints_trod {H : Type} {enc : TypeId × Value → H} {P : Program} {W : World} {sp : Nat → Bool} {T E : TypeId} {k : IntKind} {v : Value} {fuel : Nat} {x : DataW H × List MemPlace}
    (hT : P.underlying T = some (.slice E)) (hE : P.underlying E = some (.int k)) (hcE : P.cellsOf E = 1)
    (hf : DataW.trod enc P W 0 sp true fuel T [v] = some x) (hlt : ∀ y ∈ x.2, y.block < W.heap.size) :
    ∃ ao cap l, v = .slice ao (List.length l) cap ∧ Ints k W ao l ∧ (∀ n ∈ l, (Lit.int k n).wf = true) ∧ l.length ≤ maxLen := by
  rcases open_ints hT hE hcE hf with ⟨hcs, hx⟩ | ⟨a, len, cap, zs, hcs, _, hl, hm, hz, hx, hcell, hwz⟩
  · simp only [List.cons.injEq, and_true] at hcs
    subst hcs
    exact ⟨none, 0, [], rfl, fun h => absurd rfl h, by simp, by simp [maxLen]⟩
  · simp only [List.cons.injEq, and_true] at hcs
    subst hcs
    have hle : len ≤ zs.length := by rw [hz]; split <;> omega
    have hll : (zs.take len).length = len := by simp; omega
    refine ⟨some a, cap, zs.take len, by rw [hll], fun hne => ?_, fun n hn => hwz n (List.mem_of_mem_take hn), by rw [hll]; omega⟩
    have h0 : 0 < len := by
      rcases Nat.eq_zero_or_pos len with e | e
      · subst e; exact absurd rfl hne
      · exact e
    obtain ⟨b, off, spot⟩ := a
    have hspot : spot = none := by simpa [Addr.add] using World.cell?_spot (hcell 0 (by omega))
    subst hspot
    subst hx
    refine ⟨b, off, rfl, hlt (.cell b off) (MemPlace.mem_row.2 ⟨0, by omega, by simp⟩), fun j hj => ?_⟩
    have hj' : j < zs.length := by omega
    have := hcell j hj'
    have hadd : (⟨b, off, none⟩ : Addr).add j = ⟨b, off + j, none⟩ := by unfold Addr.add; split <;> simp_all
    rw [hadd] at this
    rw [this]
    simp [List.getElem_take, List.getElem?_eq_getElem hj']
theorem open_Bk {H : Type} {enc : TypeId × Value → H} {P : Program} {W : World} {sp : Nat → Bool} {base : Nat} {T E : TypeId} {f0 f1 f2 : Field} {v : Value} {d : DataW H} {p : List MemPlace}
    (hT : P.underlying T = some (.struct #[f0, f1, f2])) (ce : P.cellsOf T = 3) (o0 : f0.offset = 0) (o1 : f1.offset = 1) (o2 : f2.offset = 2) (c0 : P.cellsOf f0.type = 1) (c1 : P.cellsOf f1.type = 1) (c2 : P.cellsOf f2.type = 1)
    (h0 : P.underlying f0.type = some (.int .i32)) (h1 : P.underlying f1.type = some (.slice E)) (hE : P.underlying E = some (.int .u64)) (hcE : P.cellsOf E = 1) (h2 : P.underlying f2.type = some .string)
    (hv : Value.okWide P W .any base T v) (h : DataW.Trod enc P W 0 sp true T v d p) (hlt : ∀ x ∈ p, x.block < W.heap.size) :
    ∃ (x : Bk) (u : List UInt8) (ao : Option Addr) (cap : Nat), v = .agg #[.int .i32 x.off, .slice ao x.cs.length cap, .string ⟨u.toArray⟩] ∧ Nats .u64 W ao x.cs ∧ BkOk x ∧ x.cs.length ≤ maxLen ∧ u.length ≤ maxLen := by
  obtain ⟨cs, rfl, hsz⟩ := okWide_struct hT hv
  obtain ⟨fuel, hf⟩ := h
  have hcs : cs.size = 3 := by rw [hsz, ce]
  obtain ⟨V0, V1, V2, rfl⟩ : ∃ V0 V1 V2, cs = #[V0, V1, V2] := by
    match cs, hcs with
    | ⟨[a, b, c]⟩, _ => exact ⟨a, b, c, rfl⟩
  obtain ⟨y0, y1, y2, n, hx, _, g0, g1, g2⟩ := trod_struct3 hT hf
  rw [o0, c0] at g0
  rw [o1, c1] at g1
  rw [o2, c2] at g2
  obtain ⟨n0, e0, _, w0⟩ := DataW.trod_int h0 g0
  obtain ⟨s2, e2, _, w2⟩ := DataW.trod_string h2 g2
  simp only [Prod.mk.injEq] at hx
  obtain ⟨_, hp⟩ := hx
  have hV0 : V0 = .int .i32 n0 := by simpa [Value.cells] using e0
  have hV2 : V2 = .string s2 := by simpa [Value.cells] using e2
  obtain ⟨ao, cap, l, hV1, hI, hw, hm⟩ := ints_trod h1 hE hcE (v := V1) (by simpa [Value.cells] using g1) (fun y hy => hlt y (by rw [hp]; simp [hy]))
  subst hV0; subst hV1; subst hV2
  have hw' : ∀ n ∈ l, 0 ≤ n ∧ n < 18446744073709551616 := fun n hn => by
    have := hw n hn
    simp [Lit.wf, IntKind.min, IntKind.max, IntKind.signed, IntKind.bits] at this
    omega
  simp [Lit.wf, IntKind.min, IntKind.max, IntKind.signed, IntKind.bits] at w0
  refine ⟨⟨n0, l.map Int.toNat⟩, s2.data.toList, ao, cap, by simp, hI.nats (fun n hn => (hw' n hn).1), ⟨by show -2147483648 ≤ n0; omega, by show n0 ≤ 2147483647; omega, fun n hn => ?_⟩, by simpa using hm, by simpa using w2⟩
  obtain ⟨z, hz, rfl⟩ := List.mem_map.1 hn
  have := hw' z hz
  omega
set_option maxRecDepth 1000000 in
set_option maxHeartbeats 4000000 in
theorem take_any (a b : Int) (w : World) (ha : -10 ≤ a ∧ a ≤ 1000000) (hb : 0 ≤ b ∧ b ≤ 9223372036854775807) :
    Calls Try.prog 18 #[.int .i64 a, .int .i64 b] w fun e w' => w = w' ∧ ((a < 0 ∨ a - 20 < b) ∧ e = .returned (.int .i64 (-1)) ∨ 0 ≤ a ∧ b ≤ a - 20 ∧ e = .returned (.int .i64 (a - b - 20))) := by
  have q1 : IntKind.i64.wrap (a - 20) = a - 20 := IntWalk.i64_in _ (by omega)
  by_cases h1 : a < 0
  · have d1 : decide (a < 0) = true := decide_eq_true h1
    go_enter Try.func18, Try.ntmps18
    go_wp2_with fail
    go_ret
    exact ⟨rfl, .inl ⟨.inl h1, rfl⟩⟩
  · have d1 : decide (a < 0) = false := decide_eq_false h1
    by_cases h2 : b > a - 20
    · have d2 : decide (b > a - 20) = true := decide_eq_true h2
      have H2 := Lib.hid h2
      clear h1 h2
      go_enter Try.func18, Try.ntmps18
      go_wp2_with fail
      go_ret
      exact ⟨rfl, .inl ⟨.inr H2.out, rfl⟩⟩
    · have d2 : decide (b > a - 20) = false := decide_eq_false h2
      have q2 : IntKind.i64.wrap (a - b) = a - b := IntWalk.i64_in _ (by omega)
      have q3 : IntKind.i64.wrap (a - b - 20) = a - b - 20 := IntWalk.i64_in _ (by omega)
      have H1 := Lib.hid h1
      have H2 := Lib.hid h2
      clear h1 h2
      go_enter Try.func18, Try.ntmps18
      go_wp2_with fail
      go_ret
      exact ⟨rfl, .inr ⟨by have := H1.out; omega, by have := H2.out; omega, rfl⟩⟩
set_option maxRecDepth 1000000 in
set_option maxHeartbeats 4000000 in
theorem roomB_any (x : Bk) (u : List UInt8) (ao : Option Addr) (cap : Nat) (w : World) (hl : x.cs.length ≤ 9223372036854775807) (hu : u.length ≤ 9223372036854775807) :
    Calls Try.prog 9 #[.agg #[.int .i32 x.off, .slice ao x.cs.length cap, .string ⟨u.toArray⟩], .int .i64 12000] w fun e w' => Below w.heap.size w w' ∧ ∃ r : Int, e = .returned (.int .i64 r) ∧ (r < 0 ∨ x.cs.length ≤ 2000 ∧ u.length ≤ 12000) := by
  obtain ⟨X, hX⟩ : ∃ X : ByteArray, (⟨u.toArray⟩ : ByteArray) = X := ⟨_, rfl⟩
  have hXs : X.size = u.length := by rw [← hX]; simp [ByteArray.size]
  rw [hX]
  rw [← hXs] at hu ⊢
  clear hX hXs
  obtain ⟨n, hn⟩ : ∃ n, x.cs.length = n := ⟨_, rfl⟩
  rw [hn] at hl ⊢
  clear hn
  obtain ⟨m, hm⟩ : ∃ m : Int, min (n : Int) 100000 = m := ⟨_, rfl⟩
  have hmb : 0 ≤ m ∧ m ≤ 100000 ∧ (m = n ∨ m = 100000) := by rw [← hm]; omega
  have HM := Lib.hid hm
  have q1 : IntKind.i64.wrap (8 * m) = 8 * m := IntWalk.i64_in _ (by omega)
  have HMB := Lib.hid hmb
  clear hm hmb
  obtain ⟨W0, hW0⟩ : ∃ W0, w.alloc (.cells #[.int .i32 x.off, .slice ao n cap, .string X] 24) = W0 := ⟨_, rfl⟩
  have HBW0 : Hid (Below w.heap.size w W0) := Lib.hid (by rw [← hW0]; exact below_new _ _)
  have HR0 : Hid (W0.heap[w.heap.size]? = some (.cells #[.int .i32 x.off, .slice ao n cap, .string X] 24 (0, 0))) := Lib.hid (by rw [← hW0]; exact heap_alloc_new w _)
  have HW0 := Lib.hid hW0
  clear hW0
  obtain ⟨b, hb⟩ : ∃ b, w.heap.size = b := ⟨_, rfl⟩
  have HBB := Lib.hid hb
  go_enter Try.func9, Try.ntmps9
  go_wp2_with fail
  rw [HW0.out]
  obtain ⟨D, hD⟩ : ∃ D, W0.drew = D := ⟨_, rfl⟩
  have HBD : Hid (Below w.heap.size w D) := Lib.hid (by rw [← hD]; exact HBW0.out.drew)
  have HRD : Hid (D.heap[w.heap.size]? = some (.cells #[.int .i32 x.off, .slice ao n cap, .string X] 24 (0, 0))) := Lib.hid (by rw [← hD]; exact HR0.out)
  have hs0 : D.cell? ⟨w.heap.size, 2, none⟩ = some (.string X) ∧ D.cell? ⟨w.heap.size, 1, none⟩ = some (.slice ao n cap) := ⟨row_cell HRD.out (j := 2) rfl, row_cell HRD.out (j := 1) rfl⟩
  refine wp_region_seq (S := fun w' => w'.cell? ⟨w.heap.size, 2, none⟩ = some (.string X) ∧ w'.cell? ⟨w.heap.size, 1, none⟩ = some (.slice ao n cap)) [(0, true), (1, true), (2, true), (3, true), (5, true), (6, true), (7, true), (8, true), (9, true), (4, false), (10, false), (11, true)] (by kernel_rfl) (by kernel_rfl) (by kernel_rfl) (by kernel_rfl) (by rw [hD]; exact hs0) ?_
  rw [hD]
  iterate 7 (refine seq_take _ rfl (fun K hK => ?_); go_simp; (first | refine hK _ ?_ | refine ⟨_, fun _ _ _ => rfl, hK _ ?_⟩ | refine ⟨.string X, fun a ha _ => by rw [ha]; rfl, hK _ ?_⟩ | refine ⟨.slice ao n cap, fun a _ ha => by rw [ha]; rfl, hK _ ?_⟩); clear hK K)
  refine seq_take _ rfl (fun K hK => ?_); go_simp; refine ⟨.int .i64 m, fun a _ _ => by rw [HM.out], hK _ ?_⟩; clear hK K
  refine seq_take _ rfl (fun K hK => ?_); go_simp; (first | refine hK _ ?_ | refine ⟨_, fun _ _ _ => rfl, hK _ ?_⟩); clear hK K
  refine seq_come _ rfl (fun K hK => ?_); go_simp
  refine (take_any 12000 X.size D (by omega) (by omega)).mono ?_; rintro e w1 ⟨rfl, hc1⟩
  obtain ⟨r1, rfl, hr1⟩ : ∃ r1 : Int, e = .returned (.int .i64 r1) ∧ (r1 = -1 ∨ (0 ≤ r1 ∧ r1 ≤ 11980 ∧ X.size ≤ 12000)) := by
    rcases hc1 with ⟨_, rfl⟩ | ⟨_, h, rfl⟩
    · exact ⟨_, rfl, .inl rfl⟩
    · exact ⟨_, rfl, .inr ⟨by omega, by omega, by omega⟩⟩
  have HR1 := Lib.hid hr1
  have HC2 := Lib.hid (take_any r1 (8 * m) D (by omega) (by have := HMB.out; omega))
  clear hr1 hc1
  go_simp; refine hK.out _ _ hs0 ?_; clear hK K
  refine seq_come _ rfl (fun K hK => ?_); go_simp
  refine HC2.out.mono ?_; rintro e w1 ⟨rfl, hc2⟩
  obtain ⟨r2, rfl, hr2⟩ : ∃ r2 : Int, e = .returned (.int .i64 r2) ∧ (r2 < 0 ∨ n ≤ 2000 ∧ X.size ≤ 12000) := by
    have h1 := HR1.out
    have h2 := HMB.out
    rcases hc2 with ⟨_, rfl⟩ | ⟨_, h, rfl⟩
    · exact ⟨_, rfl, .inl (by omega)⟩
    · exact ⟨_, rfl, .inr ⟨by omega, by omega⟩⟩
  have HR2 := Lib.hid hr2
  clear hr2 hc2
  go_simp; refine hK.out _ _ hs0 ?_; clear hK K
  refine seq_take _ rfl (fun K hK => ?_); go_simp; (first | refine hK _ ?_ | refine ⟨_, fun _ _ _ => rfl, hK _ ?_⟩); clear hK K
  refine seq_done ?_
  go_wp2_with fail
  go_ret
  exact ⟨HBD.out, _, rfl, HR2.out⟩
end Go.Proofs.Ytdokbooggbiciaa
namespace Go.Proofs.Ytdokbooggbiciaa
open Go.RowKit

theorem bread_put_less {x : Bk} {u : List UInt8} {d d' : Int} (hx : BkOk x) (hl : (vputs x.cs).length < 2 ^ 64) (hm : bmay u d = true) (hle : d' ≤ d) (hn : bmay u d' = false) : ∃ c, bread (bput x u) d' = .error c := by
  unfold bmay at hm hn
  rw [Bool.and_eq_true, decide_eq_true_iff] at hm
  have hn2 : d' < 0 ∨ munkOk btk u d' = false := by
    by_cases h : 0 ≤ d'
    · rw [decide_eq_true h, Bool.true_and] at hn
      exact .inr hn
    · exact .inl (by omega)
  have := mread_put_no (bkRecs_rec hx hl) (bkRecs_fold hx) (bkRecs_tk x) hm.2 hle hn2
  rw [bkRecs_raw] at this
  unfold bread bput
  rw [List.flatten_append]
  simpa using this
/-- three sides in memory -/
def B3 (a b c : Nat) (A B C : Array Value) (w : World) : Prop := w.heap[a]? = some (.cells A 24 (0, 0)) ∧ w.heap[b]? = some (.cells B 24 (0, 0)) ∧ w.heap[c]? = some (.cells C 24 (0, 0))
theorem B3.below {a b c : Nat} {A B C : Array Value} {w w' : World} (h : B3 a b c A B C w) (hb : Below w.heap.size w w') : B3 a b c A B C w' :=
  ⟨(hb.block _ (row_lt h.1)).trans h.1, (hb.block _ (row_lt h.2.1)).trans h.2.1, (hb.block _ (row_lt h.2.2)).trans h.2.2⟩
set_option maxRecDepth 1000000 in
set_option maxHeartbeats 8000000 in
theorem back_walk (x : Bk) (u : List UInt8) (ao : Option Addr) (cap : Nat) (d k : Int) (w : World) (hK : Hid (BkOk x)) (hN : Hid (Nats .u64 w ao x.cs)) (hl : x.cs.length ≤ 9223372036854775807) (hu : u.length ≤ 9223372036854775807) (hd : -9223372036854775808 ≤ d ∧ d ≤ 9223372036854775807) (hk : -9223372036854775808 ≤ k ∧ k ≤ 9223372036854775807) :
    Calls Try.prog 4 #[.agg #[.int .i32 x.off, .slice ao x.cs.length cap, .string ⟨u.toArray⟩], .int .i64 d, .int .i64 k] w fun e w' => e = .returned (.bool true) ∧ Below w.heap.size w w' := by
  have HROOM := Lib.hid (fun w' => roomB_any x u ao cap w' hl hu)
  obtain ⟨S, hS⟩ : ∃ S : ByteArray, (⟨u.toArray⟩ : ByteArray) = S := ⟨_, rfl⟩
  have HS := Lib.hid hS
  have HSS := Lib.hid hS.symm
  rw [hS] at HROOM ⊢
  clear hS
  obtain ⟨W0, hW0⟩ : ∃ W2, w.alloc (.cells #[.int .i32 x.off, .slice ao x.cs.length cap, .string S] 24) = W2 := ⟨_, rfl⟩
  obtain ⟨bx, hbx⟩ : ∃ bx, w.heap.size = bx := ⟨_, rfl⟩
  have HXR : Hid (W0.heap[bx]? = some (.cells #[.int .i32 x.off, .slice ao x.cs.length cap, .string S] 24 (0, 0))) := Lib.hid (by rw [← hW0, ← hbx]; exact heap_alloc_new w _)
  have HBW0 : Hid (Below w.heap.size w W0) := Lib.hid (by rw [← hW0]; exact below_new _ _)
  have HNX : Hid (Nats .u64 W0 ao x.cs) := Lib.hid (hN.out.below (by rw [← hW0]; exact below_new _ _))
  have HW0 := Lib.hid hW0
  have HBX := Lib.hid hbx
  have HBOUND := Lib.hid (And.intro hd hk)
  clear hW0 hbx hN hd hk hl hu
  go_enter Try.func4, Try.ntmps4
  go_wp2_with fail
  rw [HW0.out, HBX.out]
  refine (first14 W0).mono ?_; rintro e w1 ⟨rfl, hb1⟩
  have HB1 := Lib.hid (below_step HBW0.out hb1)
  have HN1 := Lib.hid (HNX.out.below hb1)
  have HX1 : Hid (w1.heap[bx]? = some (.cells #[.int .i32 x.off, .slice ao x.cs.length cap, .string S] 24 (0, 0))) := Lib.hid ((hb1.block _ (row_lt HXR.out)).trans HXR.out)
  have hc0 : w1.cell? ⟨bx, 0, none⟩ = some (.int .i32 x.off) := row_cell HX1.out (j := 0) rfl
  have hc1 : w1.cell? ⟨bx, 1, none⟩ = some (.slice ao x.cs.length cap) := row_cell HX1.out (j := 1) rfl
  have hc2 : w1.cell? ⟨bx, 2, none⟩ = some (.string S) := row_cell HX1.out (j := 2) rfl
  clear hb1
  go_wp2_with fail
  refine (HROOM.out _).mono ?_; rintro e w2 ⟨hb2, r, rfl, hr⟩
  have HR := Lib.hid hr
  have HB2 := Lib.hid (below_step HB1.out hb2)
  have HN2 := Lib.hid (HN1.out.below hb2)
  have HX2 : Hid (w2.heap[bx]? = some (.cells #[.int .i32 x.off, .slice ao x.cs.length cap, .string S] 24 (0, 0))) := Lib.hid ((hb2.block _ (row_lt HX1.out)).trans HX1.out)
  clear hb2 hr hc0 hc1 hc2 HROOM
  have HEND : Hid (∀ w3, Below w2.heap.size w2 w3 → Below w.heap.size w w3) := Lib.hid (fun w3 h => below_step HB2.out h)
  by_cases h1 : r < 0
  · have d1 : decide (r < 0) = true := decide_eq_true h1
    clear h1
    go_wp2_with fail
    refine (first14 w2).mono ?_; rintro e w3 ⟨rfl, hb3⟩
    have HB3 := Lib.hid (below_step HB2.out hb3)
    clear hb3
    go_wp2_with fail
    go_ret
    exact ⟨rfl, HB3.out⟩
  have d1 : decide (r < 0) = false := decide_eq_false h1
  have HLL : Hid (x.cs.length ≤ 2000 ∧ u.length ≤ 12000) := Lib.hid (by rcases HR.out with h | h; exact absurd h h1; exact h)
  clear h1 HR
  by_cases h2 : k < 0
  · have d2 : decide (k < 0) = true := decide_eq_true h2
    clear h2
    go_wp2_with fail
    refine (first14 w2).mono ?_; rintro e w3 ⟨rfl, hb3⟩
    have HB3 := Lib.hid (below_step HB2.out hb3)
    clear hb3
    go_wp2_with fail
    go_ret
    exact ⟨rfl, HB3.out⟩
  have d2 : decide (k < 0) = false := decide_eq_false h2
  by_cases h3 : k > d
  · have d3 : decide (k > d) = true := decide_eq_true h3
    clear h2 h3
    go_wp2_with fail
    refine (first14 w2).mono ?_; rintro e w3 ⟨rfl, hb3⟩
    have HB3 := Lib.hid (below_step HB2.out hb3)
    clear hb3
    go_wp2_with fail
    go_ret
    exact ⟨rfl, HB3.out⟩
  have d3 : decide (k > d) = false := decide_eq_false h3
  have HKD := Lib.hid (And.intro h2 h3)
  have q1 : IntKind.i64.wrap (d - k) = d - k := IntWalk.i64_in _ (by have := HBOUND.out; omega)
  clear h2 h3
  have hc0 : w2.cell? ⟨bx, 0, none⟩ = some (.int .i32 x.off) := row_cell HX2.out (j := 0) rfl
  have hc1 : w2.cell? ⟨bx, 1, none⟩ = some (.slice ao x.cs.length cap) := row_cell HX2.out (j := 1) rfl
  have hc2 : w2.cell? ⟨bx, 2, none⟩ = some (.string S) := row_cell HX2.out (j := 2) rfl
  have HMB := Lib.hid (mb_any x u ao cap S d w2 hK HN2 (by have := HLL.out; omega) (by have := HLL.out; omega) HSS)
  go_wp2_with fail
  refine HMB.out.mono ?_; rintro e w3 ⟨hb3, hcase⟩
  have HB3 := Lib.hid (below_step HB2.out hb3)
  have HN3 := Lib.hid (HN2.out.below hb3)
  have HX3 : Hid (w3.heap[bx]? = some (.cells #[.int .i32 x.off, .slice ao x.cs.length cap, .string S] 24 (0, 0))) := Lib.hid ((hb3.block _ (row_lt HX2.out)).trans HX2.out)
  clear hb3 hc0 hc1 hc2 HMB
  rcases hcase with ⟨hmay, rfl⟩ | ⟨hno, v, rfl, hec⟩
  case inr =>
    obtain ⟨T, y, rfl⟩ := hec.iface
    clear hec hno
    go_wp2_with fail
    refine (first14 w3).mono ?_; rintro e w4 ⟨rfl, hb4⟩
    have HB4 := Lib.hid (below_step HB3.out hb4)
    clear hb4
    go_wp2_with fail
    go_ret
    exact ⟨rfl, HB4.out⟩
  have hv := vputs_len10 x.cs
  have hpl := bput_len x u
  have hLL := HLL.out
  have hput := bread_put hK.out (by omega) hmay
  have HPUT := Lib.hid hput
  have HMAY := Lib.hid hmay
  obtain ⟨R, hR⟩ : ∃ R : ByteArray, (⟨(bput x u).toArray⟩ : ByteArray) = R := ⟨_, rfl⟩
  have hRs : R.size ≤ 70000 := by rw [← hR]; simp [ByteArray.size]; omega
  have HRL : Hid (R.data.toList = bput x u) := Lib.hid (by rw [← hR])
  have HNO : Hid (bmay u (d - k) = false → ∃ c, bread (bput x u) (d - k) = .error c) := Lib.hid (fun h => bread_put_less hK.out (by omega) hmay (by have := HKD.out; omega) h)
  have HYES : Hid (bmay u (d - k) = true → bread (bput x u) (d - k) = .ok (x, u)) := Lib.hid (fun h => bread_put hK.out (by omega) h)
  rw [hR]
  clear hv hpl hLL hput hmay hR
  go_wp2_with fail
  refine (ub_gen R d w3 (by omega)).mono ?_; rintro e w4 ⟨hb4, y, u', ao', cap', v', rfl, hy⟩
  rw [HRL.out, HPUT.out] at hy
  rcases hy with ⟨rfl, hby, hown⟩ | ⟨_, _, _, _, _, hby, _⟩
  case inr => cases hby
  simp only [Except.ok.injEq, Prod.mk.injEq] at hby
  obtain ⟨rfl, rfl⟩ := hby
  rw [HS.out]
  obtain ⟨W4, hW4⟩ : ∃ W2, w4.alloc (.cells #[.int .i32 x.off, .slice ao' x.cs.length cap', .string S] 24) = W2 := ⟨_, rfl⟩
  obtain ⟨bY, hbY⟩ : ∃ bx, w4.heap.size = bx := ⟨_, rfl⟩
  have hba : Below w3.heap.size w3 W4 := below_step hb4 (by rw [← hW4]; exact below_new _ _)
  have hba4 : Below w4.heap.size w4 W4 := by rw [← hW4]; exact below_new _ _
  have HYR : Hid (W4.heap[bY]? = some (.cells #[.int .i32 x.off, .slice ao' x.cs.length cap', .string S] 24 (0, 0))) := Lib.hid (by rw [← hW4, ← hbY]; exact heap_alloc_new w4 _)
  have HB4 : Hid (Below w.heap.size w W4) := Lib.hid (below_step HB3.out hba)
  have HX4 : Hid (W4.heap[bx]? = some (.cells #[.int .i32 x.off, .slice ao x.cs.length cap, .string S] 24 (0, 0))) := Lib.hid ((hba.block _ (row_lt HX3.out)).trans HX3.out)
  have HNX4 : Hid (Nats .u64 W4 ao x.cs) := Lib.hid (HN3.out.below hba)
  have HNY4 : Hid (Nats .u64 W4 ao' x.cs) := Lib.hid ((nats_of_own hown).below hba4)
  have HW4 := Lib.hid hW4
  have HBY := Lib.hid hbY
  clear hW4 hbY hba hba4 hown hb4
  go_wp2_with fail
  rw [HW4.out, HBY.out]
  go_wp2_with fail
  refine (ub_gen R (d - k) W4 (by omega)).mono ?_; rintro e w5 ⟨hb5, z, u'', ao'', cap'', v'', rfl, hz⟩
  rw [HRL.out] at hz
  obtain ⟨V, hV⟩ : ∃ T : ByteArray, (⟨u''.toArray⟩ : ByteArray) = T := ⟨_, rfl⟩
  rw [hV]
  obtain ⟨W5, hW5⟩ : ∃ W2, w5.alloc (.cells #[.int .i32 z.off, .slice ao'' z.cs.length cap'', .string V] 24) = W2 := ⟨_, rfl⟩
  obtain ⟨bZ, hbZ⟩ : ∃ bx, w5.heap.size = bx := ⟨_, rfl⟩
  have hba : Below W4.heap.size W4 W5 := below_step hb5 (by rw [← hW5]; exact below_new _ _)
  have hba5 : Below w5.heap.size w5 W5 := by rw [← hW5]; exact below_new _ _
  have HZR : Hid (W5.heap[bZ]? = some (.cells #[.int .i32 z.off, .slice ao'' z.cs.length cap'', .string V] 24 (0, 0))) := Lib.hid (by rw [← hW5, ← hbZ]; exact heap_alloc_new w5 _)
  have HB5 : Hid (Below w.heap.size w W5) := Lib.hid (below_step HB4.out hba)
  have HX5 : Hid (W5.heap[bx]? = some (.cells #[.int .i32 x.off, .slice ao x.cs.length cap, .string S] 24 (0, 0))) := Lib.hid ((hba.block _ (row_lt HX4.out)).trans HX4.out)
  have HY5 : Hid (W5.heap[bY]? = some (.cells #[.int .i32 x.off, .slice ao' x.cs.length cap', .string S] 24 (0, 0))) := Lib.hid ((hba.block _ (row_lt HYR.out)).trans HYR.out)
  have HNX5 : Hid (Nats .u64 W5 ao x.cs) := Lib.hid (HNX4.out.below hba)
  have HNY5 : Hid (Nats .u64 W5 ao' x.cs) := Lib.hid (HNY4.out.below hba)
  have HZC : Hid ((v'' = .nilIface ∧ bread (bput x u) (d - k) = .ok (z, u'') ∧ Nats .u64 W5 ao'' z.cs) ∨ ∃ T y, v'' = .iface T y ∧ ∃ c, bread (bput x u) (d - k) = .error c) := Lib.hid (by
    rcases hz with ⟨h1, h2, h3⟩ | ⟨T, y, q, c, h1, h2, _⟩
    · exact .inl ⟨h1, h2, (nats_of_own h3).below hba5⟩
    · exact .inr ⟨T, y, h1, c, h2⟩)
  have HV := Lib.hid hV
  have HW5 := Lib.hid hW5
  have HBZ := Lib.hid hbZ
  clear hW5 hbZ hba hba5 hz hb5 hV
  go_wp2_with fail
  rw [HW5.out, HBZ.out]
  have hwd : W5.drew = W5.drew := rfl
  obtain ⟨D, hD⟩ : ∃ D, W5.drew = D := ⟨_, rfl⟩
  have HBD : Hid (Below w.heap.size w D) := Lib.hid (by rw [← hD]; exact HB5.out.drew)
  have HD3 : Hid (B3 bx bY bZ #[.int .i32 x.off, .slice ao x.cs.length cap, .string S] #[.int .i32 x.off, .slice ao' x.cs.length cap', .string S] #[.int .i32 z.off, .slice ao'' z.cs.length cap'', .string V] D) := Lib.hid (by rw [← hD]; exact ⟨HX5.out, HY5.out, HZR.out⟩)
  have hdd : Below W5.heap.size W5 D := by rw [← hD]; exact (Below.refl _ _).drew
  have HNXD : Hid (Nats .u64 D ao x.cs) := Lib.hid (HNX5.out.below hdd)
  have HNYD : Hid (Nats .u64 D ao' x.cs) := Lib.hid (HNY5.out.below hdd)
  clear hwd
  obtain ⟨g, hg⟩ : ∃ g, bmay u (d - k) = g := ⟨_, rfl⟩
  cases g with
  | true =>
    have hbo := HYES.out hg
    rcases HZC.out with ⟨rfl, hz, hzn⟩ | ⟨_, _, _, _, hz⟩
    case inr => rw [hbo] at hz; cases hz
    rw [hbo] at hz
    simp only [Except.ok.injEq, Prod.mk.injEq] at hz
    obtain ⟨rfl, rfl⟩ := hz
    obtain rfl : V = S := by rw [← HV.out, HS.out]
    have HNZD : Hid (Nats .u64 D ao'' x.cs) := Lib.hid (hzn.below hdd)
    have HG := Lib.hid hg
    clear hbo hzn hdd hg HZC
    have HK' := hK
    clear hK
    refine wp_region_seq (S := B3 bx bY bZ #[.int .i32 x.off, .slice ao x.cs.length cap, .string V] #[.int .i32 x.off, .slice ao' x.cs.length cap', .string V] #[.int .i32 x.off, .slice ao'' x.cs.length cap'', .string V]) [(0, false), (1, true), (2, true), (3, true), (4, true), (5, true), (6, true), (7, true), (8, false), (9, true), (10, true), (11, true), (12, true), (13, true), (14, true), (15, true), (16, true), (17, false), (18, true), (19, true), (20, true), (21, true), (22, true), (23, true), (24, true), (25, true), (26, false), (27, true), (28, true), (29, true)] (by kernel_rfl) (by kernel_rfl) (by kernel_rfl) (by kernel_rfl) (by rw [hD]; exact HD3.out) ?_
    rw [hD]
    clear hD
    refine seq_come _ rfl (fun K hK => ?_); go_simp
    refine (first14 D).mono ?_; rintro e w6 ⟨rfl, hb6⟩
    have HB6 := Lib.hid (below_step HBD.out hb6)
    have HD6 := Lib.hid (HD3.out.below hb6)
    have HNX6 := Lib.hid (HNXD.out.below hb6)
    have HNY6 := Lib.hid (HNYD.out.below hb6)
    have HNZ6 := Lib.hid (HNZD.out.below hb6)
    have HP := sameB_any x x u u ao ao' cap cap' w6 HNX6 HNY6 (by have := HLL.out; omega) (r := true) (Lib.hid (by simp))
    rw [HS.out] at HP
    have HPH := Lib.hid HP
    go_simp; refine hK.out _ _ HD6.out ?_; clear hK K hb6 HP
    iterate 5 (refine seq_take _ rfl (fun K hK => ?_); go_simp; (first | refine hK _ ?_ | refine ⟨_, fun _ _ => rfl, hK _ ?_⟩ | (refine ⟨undef, by rw [if_neg (by simp [undef])], ?_⟩; refine hK _ ?_)); clear hK K)
    iterate 1 (refine seq_take _ rfl (fun K hK => ?_); go_simp; (refine ⟨.agg #[.int .i32 x.off, .slice ao x.cs.length cap, .string V], fun a ha => by (have e0 : a.cell? ⟨bx, 0, none⟩ = some (.int .i32 x.off) := row_cell ha.1 (j := 0) rfl); (have e1 : a.cell? ⟨bx, 1, none⟩ = some (.slice ao x.cs.length cap) := row_cell ha.1 (j := 1) rfl); (have e2 : a.cell? ⟨bx, 2, none⟩ = some (.string V) := row_cell ha.1 (j := 2) rfl); simp only [e0, e1, e2, Result.andThen], hK _ ?_⟩); clear hK K)
    iterate 1 (refine seq_take _ rfl (fun K hK => ?_); go_simp; (refine ⟨.agg #[.int .i32 x.off, .slice ao' x.cs.length cap', .string V], fun a ha => by (have e0 : a.cell? ⟨bY, 0, none⟩ = some (.int .i32 x.off) := row_cell ha.2.1 (j := 0) rfl); (have e1 : a.cell? ⟨bY, 1, none⟩ = some (.slice ao' x.cs.length cap') := row_cell ha.2.1 (j := 1) rfl); (have e2 : a.cell? ⟨bY, 2, none⟩ = some (.string V) := row_cell ha.2.1 (j := 2) rfl); simp only [e0, e1, e2, Result.andThen], hK _ ?_⟩); clear hK K)
    refine seq_come _ rfl (fun K hK => ?_); go_simp
    refine HPH.out.mono ?_; rintro e w7 ⟨rfl, hb7⟩
    have HB7 := Lib.hid (below_step HB6.out hb7)
    have HD7 := Lib.hid (HD6.out.below hb7)
    have HNX7 := Lib.hid (HNX6.out.below hb7)
    have HNZ7 := Lib.hid (HNZ6.out.below hb7)
    have HMM := Lib.hid (mayB_any x u ao cap V (d - k) w7 HK' HNX7 (by have := HLL.out; omega) (by have := HLL.out; omega) HSS)
    go_simp; refine hK.out _ _ HD7.out ?_; clear hK K hb7
    iterate 4 (refine seq_take _ rfl (fun K hK => ?_); go_simp; (first | refine hK _ ?_ | refine ⟨_, fun _ _ => rfl, hK _ ?_⟩ | (refine ⟨undef, by rw [if_neg (by simp [undef])], ?_⟩; refine hK _ ?_)); clear hK K)
    iterate 1 (refine seq_take _ rfl (fun K hK => ?_); go_simp; (refine ⟨.agg #[.int .i32 x.off, .slice ao x.cs.length cap, .string V], fun a ha => by (have e0 : a.cell? ⟨bx, 0, none⟩ = some (.int .i32 x.off) := row_cell ha.1 (j := 0) rfl); (have e1 : a.cell? ⟨bx, 1, none⟩ = some (.slice ao x.cs.length cap) := row_cell ha.1 (j := 1) rfl); (have e2 : a.cell? ⟨bx, 2, none⟩ = some (.string V) := row_cell ha.1 (j := 2) rfl); simp only [e0, e1, e2, Result.andThen], hK _ ?_⟩); clear hK K)
    iterate 3 (refine seq_take _ rfl (fun K hK => ?_); go_simp; (first | refine hK _ ?_ | refine ⟨_, fun _ _ => rfl, hK _ ?_⟩ | (refine ⟨undef, by rw [if_neg (by simp [undef])], ?_⟩; refine hK _ ?_)); clear hK K)
    refine seq_come _ rfl (fun K hK => ?_); go_simp
    refine HMM.out.mono ?_; rintro e w8 ⟨rfl, hb8⟩
    rw [HG.out]
    have HB8 := Lib.hid (below_step HB7.out hb8)
    have HD8 := Lib.hid (HD7.out.below hb8)
    have HP := sameB_any x x u u ao ao'' cap cap'' w8 (Lib.hid (HNX7.out.below hb8)) (Lib.hid (HNZ7.out.below hb8)) (by have := HLL.out; omega) (r := true) (Lib.hid (by simp))
    rw [HS.out] at HP
    have HPI := Lib.hid HP
    go_simp; refine hK.out _ _ HD8.out ?_; clear hK K hb8 HP
    iterate 6 (refine seq_take _ rfl (fun K hK => ?_); go_simp; (first | refine hK _ ?_ | refine ⟨_, fun _ _ => rfl, hK _ ?_⟩ | (refine ⟨undef, by rw [if_neg (by simp [undef])], ?_⟩; refine hK _ ?_)); clear hK K)
    iterate 1 (refine seq_take _ rfl (fun K hK => ?_); go_simp; (refine ⟨.agg #[.int .i32 x.off, .slice ao x.cs.length cap, .string V], fun a ha => by (have e0 : a.cell? ⟨bx, 0, none⟩ = some (.int .i32 x.off) := row_cell ha.1 (j := 0) rfl); (have e1 : a.cell? ⟨bx, 1, none⟩ = some (.slice ao x.cs.length cap) := row_cell ha.1 (j := 1) rfl); (have e2 : a.cell? ⟨bx, 2, none⟩ = some (.string V) := row_cell ha.1 (j := 2) rfl); simp only [e0, e1, e2, Result.andThen], hK _ ?_⟩); clear hK K)
    iterate 1 (refine seq_take _ rfl (fun K hK => ?_); go_simp; (refine ⟨.agg #[.int .i32 x.off, .slice ao'' x.cs.length cap'', .string V], fun a ha => by (have e0 : a.cell? ⟨bZ, 0, none⟩ = some (.int .i32 x.off) := row_cell ha.2.2 (j := 0) rfl); (have e1 : a.cell? ⟨bZ, 1, none⟩ = some (.slice ao'' x.cs.length cap'') := row_cell ha.2.2 (j := 1) rfl); (have e2 : a.cell? ⟨bZ, 2, none⟩ = some (.string V) := row_cell ha.2.2 (j := 2) rfl); simp only [e0, e1, e2, Result.andThen], hK _ ?_⟩); clear hK K)
    refine seq_come _ rfl (fun K hK => ?_); go_simp
    refine HPI.out.mono ?_; rintro e w9 ⟨rfl, hb9⟩
    have HB9 := Lib.hid (below_step HB8.out hb9)
    have HD9 := Lib.hid (HD8.out.below hb9)
    go_simp; refine hK.out _ _ HD9.out ?_; clear hK K hb9
    iterate 3 (refine seq_take _ rfl (fun K hK => ?_); go_simp; (first | refine hK _ ?_ | refine ⟨_, fun _ _ => rfl, hK _ ?_⟩ | (refine ⟨undef, by rw [if_neg (by simp [undef])], ?_⟩; refine hK _ ?_)); clear hK K)
    refine seq_done ?_
    go_wp2_with fail
    go_ret
    exact ⟨rfl, HB9.out⟩
  | false =>
    obtain ⟨c, hbo⟩ := HNO.out hg
    rcases HZC.out with ⟨rfl, hz, hzn⟩ | ⟨T, y, rfl, _, hz⟩
    case inl => rw [hbo] at hz; cases hz
    have HG := Lib.hid hg
    have HK' := hK
    clear hK hbo hz hdd hg HZC
    refine wp_region_seq (S := B3 bx bY bZ #[.int .i32 x.off, .slice ao x.cs.length cap, .string S] #[.int .i32 x.off, .slice ao' x.cs.length cap', .string S] #[.int .i32 z.off, .slice ao'' z.cs.length cap'', .string V]) [(0, false), (1, true), (2, true), (3, true), (4, true), (5, true), (6, true), (7, true), (8, false), (9, true), (10, true), (11, true), (12, true), (13, true), (14, true), (15, true), (16, true), (17, false), (18, true), (19, true), (20, true), (21, true), (22, true), (23, true), (24, true), (25, true), (26, false), (27, true), (28, true), (29, true)] (by kernel_rfl) (by kernel_rfl) (by kernel_rfl) (by kernel_rfl) (by rw [hD]; exact HD3.out) ?_
    rw [hD]
    clear hD
    refine seq_come _ rfl (fun K hK => ?_); go_simp
    refine (first14 D).mono ?_; rintro e w6 ⟨rfl, hb6⟩
    have HB6 := Lib.hid (below_step HBD.out hb6)
    have HD6 := Lib.hid (HD3.out.below hb6)
    have HNX6 := Lib.hid (HNXD.out.below hb6)
    have HNY6 := Lib.hid (HNYD.out.below hb6)
    have HP := sameB_any x x u u ao ao' cap cap' w6 HNX6 HNY6 (by have := HLL.out; omega) (r := true) (Lib.hid (by simp))
    rw [HS.out] at HP
    have HPH := Lib.hid HP
    go_simp; refine hK.out _ _ HD6.out ?_; clear hK K hb6 HP
    iterate 5 (refine seq_take _ rfl (fun K hK => ?_); go_simp; (first | refine hK _ ?_ | refine ⟨_, fun _ _ => rfl, hK _ ?_⟩ | (refine ⟨undef, by rw [if_neg (by simp [undef])], ?_⟩; refine hK _ ?_)); clear hK K)
    iterate 1 (refine seq_take _ rfl (fun K hK => ?_); go_simp; (refine ⟨.agg #[.int .i32 x.off, .slice ao x.cs.length cap, .string S], fun a ha => by (have e0 : a.cell? ⟨bx, 0, none⟩ = some (.int .i32 x.off) := row_cell ha.1 (j := 0) rfl); (have e1 : a.cell? ⟨bx, 1, none⟩ = some (.slice ao x.cs.length cap) := row_cell ha.1 (j := 1) rfl); (have e2 : a.cell? ⟨bx, 2, none⟩ = some (.string S) := row_cell ha.1 (j := 2) rfl); simp only [e0, e1, e2, Result.andThen], hK _ ?_⟩); clear hK K)
    iterate 1 (refine seq_take _ rfl (fun K hK => ?_); go_simp; (refine ⟨.agg #[.int .i32 x.off, .slice ao' x.cs.length cap', .string S], fun a ha => by (have e0 : a.cell? ⟨bY, 0, none⟩ = some (.int .i32 x.off) := row_cell ha.2.1 (j := 0) rfl); (have e1 : a.cell? ⟨bY, 1, none⟩ = some (.slice ao' x.cs.length cap') := row_cell ha.2.1 (j := 1) rfl); (have e2 : a.cell? ⟨bY, 2, none⟩ = some (.string S) := row_cell ha.2.1 (j := 2) rfl); simp only [e0, e1, e2, Result.andThen], hK _ ?_⟩); clear hK K)
    refine seq_come _ rfl (fun K hK => ?_); go_simp
    refine HPH.out.mono ?_; rintro e w7 ⟨rfl, hb7⟩
    have HB7 := Lib.hid (below_step HB6.out hb7)
    have HD7 := Lib.hid (HD6.out.below hb7)
    have HNX7 := Lib.hid (HNX6.out.below hb7)
    have HMM := Lib.hid (mayB_any x u ao cap S (d - k) w7 HK' HNX7 (by have := HLL.out; omega) (by have := HLL.out; omega) HSS)
    go_simp; refine hK.out _ _ HD7.out ?_; clear hK K hb7
    iterate 4 (refine seq_take _ rfl (fun K hK => ?_); go_simp; (first | refine hK _ ?_ | refine ⟨_, fun _ _ => rfl, hK _ ?_⟩ | (refine ⟨undef, by rw [if_neg (by simp [undef])], ?_⟩; refine hK _ ?_)); clear hK K)
    iterate 1 (refine seq_take _ rfl (fun K hK => ?_); go_simp; (refine ⟨.agg #[.int .i32 x.off, .slice ao x.cs.length cap, .string S], fun a ha => by (have e0 : a.cell? ⟨bx, 0, none⟩ = some (.int .i32 x.off) := row_cell ha.1 (j := 0) rfl); (have e1 : a.cell? ⟨bx, 1, none⟩ = some (.slice ao x.cs.length cap) := row_cell ha.1 (j := 1) rfl); (have e2 : a.cell? ⟨bx, 2, none⟩ = some (.string S) := row_cell ha.1 (j := 2) rfl); simp only [e0, e1, e2, Result.andThen], hK _ ?_⟩); clear hK K)
    iterate 3 (refine seq_take _ rfl (fun K hK => ?_); go_simp; (first | refine hK _ ?_ | refine ⟨_, fun _ _ => rfl, hK _ ?_⟩ | (refine ⟨undef, by rw [if_neg (by simp [undef])], ?_⟩; refine hK _ ?_)); clear hK K)
    refine seq_come _ rfl (fun K hK => ?_); go_simp
    refine HMM.out.mono ?_; rintro e w8 ⟨rfl, hb8⟩
    rw [HG.out]
    have HB8 := Lib.hid (below_step HB7.out hb8)
    have HD8 := Lib.hid (HD7.out.below hb8)
    have HB9 := HB8
    go_simp; refine hK.out _ _ HD8.out ?_; clear hK K hb8
    iterate 8 (refine seq_take _ rfl (fun K hK => ?_); go_simp; (first | refine hK _ ?_ | refine ⟨_, fun _ _ => rfl, hK _ ?_⟩ | (refine ⟨undef, by rw [if_neg (by simp [undef])], ?_⟩; refine hK _ ?_)); clear hK K)
    refine seq_come _ rfl (fun K hK => ?_); go_simp
    (first | refine hK.out _ _ HD8.out ?_ | (rw [if_neg (by simp [undef])]; refine hK.out _ _ HD8.out ?_)); clear hK K
    iterate 3 (refine seq_take _ rfl (fun K hK => ?_); go_simp; (first | refine hK _ ?_ | refine ⟨_, fun _ _ => rfl, hK _ ?_⟩ | (refine ⟨undef, by rw [if_neg (by simp [undef])], ?_⟩; refine hK _ ?_)); clear hK K)
    refine seq_done ?_
    go_wp2_with fail
    go_ret
    exact ⟨rfl, HB9.out⟩
end Go.Proofs.Ytdokbooggbiciaa
