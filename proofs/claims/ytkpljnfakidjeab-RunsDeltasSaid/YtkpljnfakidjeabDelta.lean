/-
  runs.Delta, runs.Undelta and the reference's.
-/
import Derived.Test.YtkpljnfakidjeabDeltaMath
import Derived.Deep.LoopGhost
namespace Go.Proofs.Ytkpljnfakidjeab
open Go.RowKit

theorem Try.elU64dl : Elem Try.prog 22 48 (.int .u64 0) 1 8 := ⟨Try.underlying22, by kernel_rfl, by decide⟩
theorem dl_take {l : List Nat} {j : Nat} {xs : List Nat} {la n : Nat} (hj : j < l.length) (h : dl (l.take j) = (xs, la)) (hn : n = l[j]) : dl (l.take (j + 1)) = (xs ++ [zigN (sub64 n la)], n) := by
  rw [List.take_succ_eq_append_getElem hj, dl_snoc, h, hn]; rfl
theorem ul_take {l : List Nat} {j : Nat} {xs : List Nat} {la n : Nat} (hj : j < l.length) (h : ul (l.take j) = (xs, la)) (hn : n = l[j]) : ul (l.take (j + 1)) = (xs ++ [add64 la (zagN n)], add64 la (zagN n)) := by
  rw [List.take_succ_eq_append_getElem hj, ul_snoc, h, hn]; rfl

set_option maxRecDepth 1000000 in
set_option maxHeartbeats 4000000 in
theorem delta_any (ao : Option Addr) (cap : Nat) (l : List Nat) (w : World) (hN : Hid (Nats .u64 w ao l)) (hlt : Hid (∀ n ∈ l, n < 18446744073709551616)) (hl : l.length ≤ 1000000) :
    Calls Try.prog 17 #[.slice ao l.length cap] w fun e w' => (∃ bo bcap, e = .returned (.slice bo l.length bcap) ∧ Nats .u64 w' bo (dl l).1) ∧ Below w.heap.size w w' := by
  obtain ⟨i0, hi, hz0, hz1, hz2⟩ := info_parts Try.elU64dl.2.1
  obtain ⟨N, hNe⟩ : ∃ N, l.length = N := ⟨_, rfl⟩
  have HNE := Lib.hid hNe
  rw [hNe]
  rw [hNe] at hl
  clear hNe
  go_enter Try.func17, Try.ntmps17
  go_wp2_with (at_make; refine wpList_make_full _ rfl _ _ 22 rfl w.heap.size 48 i0 (.int .u64 0) 1 Try.underlying22 hi hz0 hz1 _ _ _ _ N rfl rfl rfl rfl (by rw [hz2]; omega) (by unfold maxLen; omega) (Nat.le_refl _) ?_; intro w2 hown hgrow)
  have hB2 : Below w.heap.size w w2 := (Below.refl _ _).grown hgrow (Nat.le_refl _) (by simp)
  have hrows : (madeCells (Value.int .u64 0).cells (N * 1)).toList = filled [] N := by
    rw [Nat.mul_one]; exact (toList_madeCells_one _ _).trans (filled_zero N)
  rw [hrows] at hown
  obtain ⟨g, hgg⟩ : ∃ g, w.heap.size = g := ⟨_, rfl⟩
  have HO : Hid (w2.ownsRow w.heap.size 48 1 (.slice (some ⟨g, 0, none⟩) N N) N (filled [] N)) := Lib.hid (hgg ▸ hown)
  have HB := Lib.hid hB2
  have HW : Hid (w.heap.size ≤ g) := Lib.hid (by omega)
  rw [hgg]
  clear hown hB2 hrows hgrow hgg
  go_wp2_with fail
  go_loopg [4, 12] N (fun k vla i wr => ∃ (j : Nat) (xs : List Nat) (la : Nat), j + k = N ∧ i = .int .i64 j ∧ vla = .int .u64 la ∧ Hid (dl (l.take j) = (xs, la)) ∧
    wr.ownsRow w.heap.size 48 1 (.slice (some ⟨g, 0, none⟩) N N) N (filled xs k) ∧ Below w.heap.size w wr)
  case atStart => exact ⟨0, [], 0, by omega, rfl, rfl, Lib.hid rfl, HO.out, HB.out⟩
  case round =>
    obtain ⟨j, xs, la, hj, rfl, rfl, HT, hown, hbr⟩ := hrel
    have HO := Lib.hid hown
    have HB := Lib.hid hbr
    have ok := dl_ok (l.take j) (fun n hn => hlt.out n (List.mem_of_mem_take hn))
    rw [HT.out] at ok
    have hla : la < 18446744073709551616 := ok.last
    have hxl : xs.length = j := by have := ok.len; rw [List.length_take, HNE.out] at this; simp only at this; omega
    clear hown hbr ok
    by_cases hlt' : j < N
    · obtain ⟨m, rfl⟩ : ∃ m, gk = m + 1 := ⟨gk - 1, by omega⟩
      obtain ⟨b, off, n, HN, rfl, hbl, hc⟩ := (hN.out.below HB.out).at (i := j) (by rw [HNE.out]; exact hlt')
      have hn : n < 18446744073709551616 := by rw [HN.out]; exact hlt.out _ (List.getElem_mem _)
      have hi1 : (j : Int) < (N : Int) := by omega
      have hi0 : (0 : Int) ≤ (j : Int) := by omega
      have hfz : wr.frozen? ⟨g, j, none⟩ = false := HO.out.frozenAt j
      have hce : wr.cell? ⟨g, j, none⟩ = some (.int .u64 0) := (HO.out.cellAt j (by omega)).trans (by have := filled_at xs m; rw [hxl] at this; exact this)
      have HJ := Lib.hid hj
      clear hj
      obtain ⟨d1, hd1⟩ : ∃ d1, sub64 n la = d1 := ⟨_, rfl⟩
      have l1 : d1 < 18446744073709551616 := by rw [← hd1]; exact sub64_lt _ _
      obtain ⟨x, hx⟩ : ∃ x, zigN d1 = x := ⟨_, rfl⟩
      have lx : x < 18446744073709551616 := by rw [← hx]; exact zigN_lt l1
      have hzb := sgn_bounds d1 l1
      have e1 := wrap_sub n la hn hla
      rw [hd1] at e1
      have e3 := wrap_sgn d1 l1
      have hzs := zig_sgn d1 l1
      rw [hx] at hzs
      have HE : Hid (dl (l.take (j + 1)) = (xs ++ [x], n)) := Lib.hid (by rw [dl_take (by rw [HNE.out]; exact hlt') HT.out HN.out, hd1, hx])
      generalize sgn64 d1 = zz at hzb e3 hzs
      have HZZ := Lib.hid hzs
      obtain ⟨hz1, hz2'⟩ := hzb
      clear hd1 hx hzs
      go_wp2_with fail
      refine (zig_at zz x _ hz1 hz2' HZZ).mono ?_; rintro e w' ⟨rfl, rfl⟩
      go_wp2_with fail
      have hj := HJ.out
      have HU4 := Upd.set wr ⟨g, j, none⟩ (.int .u64 (x : Int))
      have HO4 := (HO.out.stored j (.int .u64 (x : Int))).1
      have hset : (filled xs (m + 1)).set j (.int .u64 (x : Int)) = filled (xs ++ [x]) m := by
        have h := filled_set xs m x
        rw [hxl] at h
        exact h
      rw [hset] at HO4
      go_roundg m
      case measure => omega
      case rel => exact ⟨j + 1, xs ++ [x], n, by omega, by simp, rfl, HE, HO4, HB.out.trans (HU4.below HB.out.size (fun k _ hk => by subst hk; exact HW.out))⟩
    · obtain rfl : gk = 0 := by omega
      obtain rfl : j = N := by omega
      have hfull : l.take j = l := List.take_of_length_le (by rw [HNE.out]; exact Nat.le_refl _)
      have HX : xs = (dl l).1 := by have := HT.out; rw [hfull] at this; rw [this]
      have HN : Hid (Nats .u64 wr (some ⟨g, 0, none⟩) (dl l).1) := Lib.hid (by
        have h1 := HO.out
        rw [filled_all] at h1
        rw [← HX]
        have h2 : wr.ownsRow w.heap.size 48 1 (.slice (some ⟨g, 0, none⟩) xs.length j) xs.length (nvals xs) := by rw [hxl]; exact h1
        exact nats_of_own h2)
      clear HX hfull
      go_wp2_with fail
      go_ret
      exact ⟨⟨_, _, rfl, HN.out⟩, HB.out⟩

set_option maxRecDepth 1000000 in
set_option maxHeartbeats 4000000 in
theorem undelta_any (ao : Option Addr) (cap : Nat) (l : List Nat) (w : World) (hN : Hid (Nats .u64 w ao l)) (hlt : Hid (∀ n ∈ l, n < 18446744073709551616)) (hl : l.length ≤ 1000000) :
    Calls Try.prog 18 #[.slice ao l.length cap] w fun e w' => (∃ bo bcap, e = .returned (.slice bo l.length bcap) ∧ Nats .u64 w' bo (ul l).1) ∧ Below w.heap.size w w' := by
  obtain ⟨i0, hi, hz0, hz1, hz2⟩ := info_parts Try.elU64dl.2.1
  obtain ⟨N, hNe⟩ : ∃ N, l.length = N := ⟨_, rfl⟩
  have HNE := Lib.hid hNe
  rw [hNe]
  rw [hNe] at hl
  clear hNe
  go_enter Try.func18, Try.ntmps18
  go_wp2_with (at_make; refine wpList_make_full _ rfl _ _ 22 rfl w.heap.size 48 i0 (.int .u64 0) 1 Try.underlying22 hi hz0 hz1 _ _ _ _ N rfl rfl rfl rfl (by rw [hz2]; omega) (by unfold maxLen; omega) (Nat.le_refl _) ?_; intro w2 hown hgrow)
  have hB2 : Below w.heap.size w w2 := (Below.refl _ _).grown hgrow (Nat.le_refl _) (by simp)
  have hrows : (madeCells (Value.int .u64 0).cells (N * 1)).toList = filled [] N := by
    rw [Nat.mul_one]; exact (toList_madeCells_one _ _).trans (filled_zero N)
  rw [hrows] at hown
  obtain ⟨g, hgg⟩ : ∃ g, w.heap.size = g := ⟨_, rfl⟩
  have HO : Hid (w2.ownsRow w.heap.size 48 1 (.slice (some ⟨g, 0, none⟩) N N) N (filled [] N)) := Lib.hid (hgg ▸ hown)
  have HB := Lib.hid hB2
  have HW : Hid (w.heap.size ≤ g) := Lib.hid (by omega)
  rw [hgg]
  clear hown hB2 hrows hgrow hgg
  go_wp2_with fail
  go_loopg [4, 12] N (fun k vla i wr => ∃ (j : Nat) (xs : List Nat) (la : Nat), j + k = N ∧ i = .int .i64 j ∧ vla = .int .u64 la ∧ Hid (ul (l.take j) = (xs, la)) ∧
    wr.ownsRow w.heap.size 48 1 (.slice (some ⟨g, 0, none⟩) N N) N (filled xs k) ∧ Below w.heap.size w wr)
  case atStart => exact ⟨0, [], 0, by omega, rfl, rfl, Lib.hid rfl, HO.out, HB.out⟩
  case round =>
    obtain ⟨j, xs, la, hj, rfl, rfl, HT, hown, hbr⟩ := hrel
    have HO := Lib.hid hown
    have HB := Lib.hid hbr
    have ok := ul_ok (l.take j)
    rw [HT.out] at ok
    have hla : la < 18446744073709551616 := ok.last
    have hxl : xs.length = j := by have := ok.len; rw [List.length_take, HNE.out] at this; simp only at this; omega
    clear hown hbr ok
    by_cases hlt' : j < N
    · obtain ⟨m, rfl⟩ : ∃ m, gk = m + 1 := ⟨gk - 1, by omega⟩
      obtain ⟨b, off, n, HN, rfl, hbl, hc⟩ := (hN.out.below HB.out).at (i := j) (by rw [HNE.out]; exact hlt')
      have hn : n < 18446744073709551616 := by rw [HN.out]; exact hlt.out _ (List.getElem_mem _)
      have hi1 : (j : Int) < (N : Int) := by omega
      have hi0 : (0 : Int) ≤ (j : Int) := by omega
      have hfz : wr.frozen? ⟨g, j, none⟩ = false := HO.out.frozenAt j
      have hce : wr.cell? ⟨g, j, none⟩ = some (.int .u64 0) := (HO.out.cellAt j (by omega)).trans (by have := filled_at xs m; rw [hxl] at this; exact this)
      have HJ := Lib.hid hj
      clear hj
      obtain ⟨zz, hzz⟩ : ∃ zz, zag n = zz := ⟨_, rfl⟩
      have HZZ := Lib.hid hzz
      obtain ⟨y, hy⟩ : ∃ y, zagN n = y := ⟨_, rfl⟩
      have e1 := wrap_uns n
      rw [hzz, hy] at e1
      obtain ⟨x, hx⟩ : ∃ x, add64 la y = x := ⟨_, rfl⟩
      have lx : x < 18446744073709551616 := by rw [← hx]; exact add64_lt _ _
      have e2 := wrap_add la y
      rw [hx] at e2
      have HE : Hid (ul (l.take (j + 1)) = (xs ++ [x], x)) := Lib.hid (by rw [ul_take (by rw [HNE.out]; exact hlt') HT.out HN.out, hy, hx])
      clear hzz hy hx
      go_wp2_with fail
      refine (zag_at n zz _ hn HZZ).mono ?_; rintro e w' ⟨rfl, rfl⟩
      go_wp2_with fail
      have hj := HJ.out
      have HU4 := Upd.set wr ⟨g, j, none⟩ (.int .u64 (x : Int))
      have HO4 := (HO.out.stored j (.int .u64 (x : Int))).1
      have hset : (filled xs (m + 1)).set j (.int .u64 (x : Int)) = filled (xs ++ [x]) m := by
        have h := filled_set xs m x
        rw [hxl] at h
        exact h
      rw [hset] at HO4
      go_roundg m
      case measure => omega
      case rel => exact ⟨j + 1, xs ++ [x], x, by omega, by simp, rfl, HE, HO4, HB.out.trans (HU4.below HB.out.size (fun k _ hk => by subst hk; exact HW.out))⟩
    · obtain rfl : gk = 0 := by omega
      obtain rfl : j = N := by omega
      have hfull : l.take j = l := List.take_of_length_le (by rw [HNE.out]; exact Nat.le_refl _)
      have HX : xs = (ul l).1 := by have := HT.out; rw [hfull] at this; rw [this]
      have HN : Hid (Nats .u64 wr (some ⟨g, 0, none⟩) (ul l).1) := Lib.hid (by
        have h1 := HO.out
        rw [filled_all] at h1
        rw [← HX]
        have h2 : wr.ownsRow w.heap.size 48 1 (.slice (some ⟨g, 0, none⟩) xs.length j) xs.length (nvals xs) := by rw [hxl]; exact h1
        exact nats_of_own h2)
      clear HX hfull
      go_wp2_with fail
      go_ret
      exact ⟨⟨_, _, rfl, HN.out⟩, HB.out⟩

set_option maxRecDepth 1000000 in
set_option maxHeartbeats 4000000 in
theorem rdelta_any (ao : Option Addr) (cap : Nat) (l : List Nat) (w : World) (hN : Hid (Nats .u64 w ao l)) (hlt : Hid (∀ n ∈ l, n < 18446744073709551616)) (hl : l.length ≤ 1000000) :
    Calls Try.prog 19 #[.slice ao l.length cap] w fun e w' => (∃ bo bcap, e = .returned (.slice bo l.length bcap) ∧ Nats .u64 w' bo (dl l).1) ∧ Below w.heap.size w w' := by
  obtain ⟨N, hNe⟩ : ∃ N, l.length = N := ⟨_, rfl⟩
  have HNE := Lib.hid hNe
  rw [hNe]
  rw [hNe] at hl
  clear hNe
  go_enter Try.func19, Try.ntmps19
  go_wp2_with fail
  go_loopg [3, 4, 5] N (fun k v vla i wr => ∃ (j : Nat) (xs : List Nat) (la : Nat), j + k = N ∧ i = .int .i64 j ∧ vla = .int .u64 la ∧ Hid (dl (l.take j) = (xs, la)) ∧
    wr.ownsRow w.heap.size 48 1 v xs.length (nvals xs) ∧ Below w.heap.size w wr)
  case atStart => exact ⟨0, [], 0, by omega, rfl, rfl, Lib.hid rfl, World.ownsRow_nil _ _ _ _, Below.refl _ _⟩
  case round =>
    obtain ⟨j, xs, la, hj, rfl, rfl, HT, hown, hbr⟩ := hrel
    have HB := Lib.hid hbr
    have ok := dl_ok (l.take j) (fun n hn => hlt.out n (List.mem_of_mem_take hn))
    rw [HT.out] at ok
    have hla : la < 18446744073709551616 := ok.last
    have hxl : xs.length = j := by have := ok.len; rw [List.length_take, HNE.out] at this; simp only at this; omega
    have hbs : w.heap.size ≤ wr.heap.size := hbr.size
    clear hbr ok
    by_cases hlt' : j < N
    · obtain ⟨b, off, n, HN, rfl, hbl, hc0⟩ := hN.out.at (i := j) (by rw [HNE.out]; exact hlt')
      have hc : wr.cell? ⟨b, off + j, none⟩ = some (.int .u64 (n : Int)) := (HB.out.cell (p := ⟨b, off + j, none⟩) hbl).trans hc0
      have hn : n < 18446744073709551616 := by rw [HN.out]; exact hlt.out _ (List.getElem_mem _)
      have hi1 : (j : Int) < (N : Int) := by omega
      have hi0 : (0 : Int) ≤ (j : Int) := by omega
      have HJ := Lib.hid hj
      clear hj
      obtain ⟨d1, hd1⟩ : ∃ d1, sub64 n la = d1 := ⟨_, rfl⟩
      have l1 : d1 < 18446744073709551616 := by rw [← hd1]; exact sub64_lt _ _
      obtain ⟨x, hx⟩ : ∃ x, zigN d1 = x := ⟨_, rfl⟩
      have lx : x < 18446744073709551616 := by rw [← hx]; exact zigN_lt l1
      have hzb := sgn_bounds d1 l1
      have e1 := wrap_sub n la hn hla
      rw [hd1] at e1
      have e3 := wrap_sgn d1 l1
      have hzs := zig_sgn d1 l1
      rw [hx] at hzs
      have HE : Hid (dl (l.take (j + 1)) = (xs ++ [x], n)) := Lib.hid (by rw [dl_take (by rw [HNE.out]; exact hlt') HT.out HN.out, hd1, hx])
      generalize sgn64 d1 = zz at hzb e3 hzs
      have HZZ := Lib.hid hzs
      obtain ⟨hz1, hz2'⟩ := hzb
      clear hd1 hx hzs
      go_wp2_with fail
      refine (rzig_at zz x _ hz1 hz2' HZZ).mono ?_; rintro e w' ⟨rfl, rfl⟩
      go_wp2_with (at_builtin; refine wpList_app1 (c := 1) rfl _ _ 22 rfl Try.elU64dl (by decide) hown rfl (by show _ = _; rfl) rfl (by simp [Value.oneCell']) (by unfold maxLen; omega) (by omega) hbs ?_; intro v' w2 hown' hgrow; have hc1 : w2.cell? ⟨b, off + j, none⟩ = some (.int .u64 (n : Int)) := ((HB.out.grown hgrow hbs (fun k hk => (hown.lt _ hk).1)).cell (p := ⟨b, off + j, none⟩) hbl).trans hc0)
      have HO2 : Hid (w2.ownsRow w.heap.size 48 1 v' (xs ++ [x]).length (nvals (xs ++ [x]))) := Lib.hid (by simpa [nvals] using hown')
      have HB2 : Hid (Below w.heap.size w w2) := Lib.hid (HB.out.grown hgrow hbs (fun k hk => (hown.lt _ hk).1))
      have hj := HJ.out
      go_roundg (gk - 1)
      case measure => omega
      case rel => exact ⟨j + 1, xs ++ [x], n, by omega, by simp, rfl, HE, HO2.out, HB2.out⟩
    · obtain rfl : gk = 0 := by omega
      obtain rfl : j = N := by omega
      have hfull : l.take j = l := List.take_of_length_le (by rw [HNE.out]; exact Nat.le_refl _)
      have HX : xs = (dl l).1 := by have := HT.out; rw [hfull] at this; rw [this]
      obtain ⟨bo, bcap, rfl⟩ := own_slice hown
      have HN : Hid (Nats .u64 wr bo (dl l).1) := Lib.hid (by rw [← HX]; exact nats_of_own hown)
      rw [hxl]
      clear HX hfull hown
      go_wp2_with fail
      go_ret
      exact ⟨⟨_, _, rfl, HN.out⟩, HB.out⟩

set_option maxRecDepth 1000000 in
set_option maxHeartbeats 4000000 in
theorem rundelta_any (ao : Option Addr) (cap : Nat) (l : List Nat) (w : World) (hN : Hid (Nats .u64 w ao l)) (hlt : Hid (∀ n ∈ l, n < 18446744073709551616)) (hl : l.length ≤ 1000000) :
    Calls Try.prog 20 #[.slice ao l.length cap] w fun e w' => (∃ bo bcap, e = .returned (.slice bo l.length bcap) ∧ Nats .u64 w' bo (ul l).1) ∧ Below w.heap.size w w' := by
  obtain ⟨N, hNe⟩ : ∃ N, l.length = N := ⟨_, rfl⟩
  have HNE := Lib.hid hNe
  rw [hNe]
  rw [hNe] at hl
  clear hNe
  go_enter Try.func20, Try.ntmps20
  go_wp2_with fail
  go_loopg [3, 4, 5] N (fun k v vla i wr => ∃ (j : Nat) (xs : List Nat) (la : Nat), j + k = N ∧ i = .int .i64 j ∧ vla = .int .u64 la ∧ Hid (ul (l.take j) = (xs, la)) ∧
    wr.ownsRow w.heap.size 48 1 v xs.length (nvals xs) ∧ Below w.heap.size w wr)
  case atStart => exact ⟨0, [], 0, by omega, rfl, rfl, Lib.hid rfl, World.ownsRow_nil _ _ _ _, Below.refl _ _⟩
  case round =>
    obtain ⟨j, xs, la, hj, rfl, rfl, HT, hown, hbr⟩ := hrel
    have HB := Lib.hid hbr
    have ok := ul_ok (l.take j)
    rw [HT.out] at ok
    have hla : la < 18446744073709551616 := ok.last
    have hxl : xs.length = j := by have := ok.len; rw [List.length_take, HNE.out] at this; simp only at this; omega
    have hbs : w.heap.size ≤ wr.heap.size := hbr.size
    clear hbr ok
    by_cases hlt' : j < N
    · obtain ⟨b, off, n, HN, rfl, hbl, hc0⟩ := hN.out.at (i := j) (by rw [HNE.out]; exact hlt')
      have hc : wr.cell? ⟨b, off + j, none⟩ = some (.int .u64 (n : Int)) := (HB.out.cell (p := ⟨b, off + j, none⟩) hbl).trans hc0
      have hn : n < 18446744073709551616 := by rw [HN.out]; exact hlt.out _ (List.getElem_mem _)
      have hi1 : (j : Int) < (N : Int) := by omega
      have hi0 : (0 : Int) ≤ (j : Int) := by omega
      have HJ := Lib.hid hj
      clear hj
      obtain ⟨zz, hzz⟩ : ∃ zz, zag n = zz := ⟨_, rfl⟩
      have HZZ := Lib.hid hzz
      obtain ⟨y, hy⟩ : ∃ y, zagN n = y := ⟨_, rfl⟩
      have e1 := wrap_uns n
      rw [hzz, hy] at e1
      obtain ⟨x, hx⟩ : ∃ x, add64 la y = x := ⟨_, rfl⟩
      have lx : x < 18446744073709551616 := by rw [← hx]; exact add64_lt _ _
      have e2 := wrap_add la y
      rw [hx] at e2
      have HE : Hid (ul (l.take (j + 1)) = (xs ++ [x], x)) := Lib.hid (by rw [ul_take (by rw [HNE.out]; exact hlt') HT.out HN.out, hy, hx])
      clear hzz hy hx
      go_wp2_with fail
      refine (rzag_at n zz _ hn HZZ).mono ?_; rintro e w' ⟨rfl, rfl⟩
      go_wp2_with (at_builtin; refine wpList_app1 (c := 1) rfl _ _ 22 rfl Try.elU64dl (by decide) hown rfl (by show _ = _; rfl) rfl (by simp [Value.oneCell']) (by unfold maxLen; omega) (by omega) hbs ?_; intro v' w2 hown' hgrow; have hc1 : w2.cell? ⟨b, off + j, none⟩ = some (.int .u64 (n : Int)) := ((HB.out.grown hgrow hbs (fun k hk => (hown.lt _ hk).1)).cell (p := ⟨b, off + j, none⟩) hbl).trans hc0)
      have HO2 : Hid (w2.ownsRow w.heap.size 48 1 v' (xs ++ [x]).length (nvals (xs ++ [x]))) := Lib.hid (by simpa [nvals] using hown')
      have HB2 : Hid (Below w.heap.size w w2) := Lib.hid (HB.out.grown hgrow hbs (fun k hk => (hown.lt _ hk).1))
      have hj := HJ.out
      go_roundg (gk - 1)
      case measure => omega
      case rel => exact ⟨j + 1, xs ++ [x], x, by omega, by simp, rfl, HE, HO2.out, HB2.out⟩
    · obtain rfl : gk = 0 := by omega
      obtain rfl : j = N := by omega
      have hfull : l.take j = l := List.take_of_length_le (by rw [HNE.out]; exact Nat.le_refl _)
      have HX : xs = (ul l).1 := by have := HT.out; rw [hfull] at this; rw [this]
      obtain ⟨bo, bcap, rfl⟩ := own_slice hown
      have HN : Hid (Nats .u64 wr bo (ul l).1) := Lib.hid (by rw [← HX]; exact nats_of_own hown)
      rw [hxl]
      clear HX hfull hown
      go_wp2_with fail
      go_ret
      exact ⟨⟨_, _, rfl, HN.out⟩, HB.out⟩

end Go.Proofs.Ytkpljnfakidjeab
