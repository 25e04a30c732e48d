/-
  hyglaw21.XorMany: as many numbers as may be, and no more.
-/
import Derived.Test.YtihoemimiplhfaaDoorXorLaw
import Derived.Test.YtihoemimiplhfaaDoorManyBase
namespace Go.Proofs.YtihoemimiplhfaaDoor
open Go.RowKit

theorem xput_many (ao : Option Addr) (cap n : Nat) (w : World) (hl : 20000 < n) (hm : n ≤ 9223372036854775807) :
    Calls Tryd.prog 10 #[.slice ao n cap] w fun e w' => e = .returned (.tuple #[.string ⟨#[]⟩, .iface 103 (.pointer (some ⟨w.heap.size, 0, none⟩))]) ∧ w' = w.alloc (.cells #[.int .i64 20000, .iface 29 (.int .i64 9)] 105) := by
  go_enter Tryd.func10, Tryd.ntmps10
  go_wp2_with fail
  refine (at_any _ _ _ _).mono ?_; rintro e w' ⟨rfl, rfl⟩
  go_wp2_with fail
  go_ret2
  exact ⟨rfl, rfl⟩
theorem xenc_same : ∀ (N n : Nat), catN (xenc (List.replicate N n)) ≤ 64 + N
  | 0, n => by simp [xenc, xencR, catN]
  | N + 1, n => by
    have ih := xenc_same N n
    rw [List.replicate_succ', xenc_snoc, catN_append]
    unfold xpart
    cases N with
    | zero => simp [xenc, xencR, catN]
    | succ N =>
      rw [if_neg (by simp), List.replicate_succ', List.getLast?_append]
      simp only [List.getLast?_singleton, Option.some_or, Option.getD_some, Nat.xor_self]
      have e : catN (xch 0) = 1 := rfl
      rw [e]
      rw [List.replicate_succ'] at ih
      omega
set_option maxRecDepth 1000000 in
set_option maxHeartbeats 1000000 in
theorem xmany_out (more : Int) (n : Nat) (w : World) (hx : more < -1 ∨ (¬ more < -1 ∧ 1 < more)) :
    Calls Tryd.prog 5 #[.int .i64 more, .int .u64 n] w fun e w' => e = .returned (.bool true) ∧ Below w.heap.size w w' := by
  rcases hx with h | ⟨h, h2⟩
  · have d1 : decide (more < -1) = true := decide_eq_true h
    go_enter Tryd.func5, Tryd.ntmps5
    go_wp2_with fail
    refine (first21 w).mono ?_; rintro e w1 ⟨rfl, hb1⟩
    have HB1 := Lib.hid hb1
    clear hb1
    go_wp2_with fail
    refine (first21 w1).mono ?_; rintro e w2 ⟨rfl, hb2⟩
    have HB2 := Lib.hid (dstep HB1.out hb2)
    clear hb2
    go_wp2_with fail
    go_ret
    exact ⟨rfl, HB2.out⟩
  · have d1 : decide (more < -1) = false := decide_eq_false h
    have d2 : decide (more > 1) = true := decide_eq_true h2
    go_enter Tryd.func5, Tryd.ntmps5
    go_wp2_with fail
    refine (first21 w).mono ?_; rintro e w1 ⟨rfl, hb1⟩
    have HB1 := Lib.hid hb1
    clear hb1
    go_wp2_with fail
    refine (first21 w1).mono ?_; rintro e w2 ⟨rfl, hb2⟩
    have HB2 := Lib.hid (dstep HB1.out hb2)
    clear hb2
    go_wp2_with fail
    go_ret
    exact ⟨rfl, HB2.out⟩
set_option maxRecDepth 1000000 in
set_option maxHeartbeats 4000000 in
theorem xmany_in (more : Int) (N n : Nat) (S : ByteArray) (w : World) (hn : n < 18446744073709551616) (hm1 : -1 ≤ more) (hm2 : more ≤ 1) (hNN : 20000 + more = (N : Int)) (hg : Hid (Glob w))
    (hcb : Hid (catN (xenc (List.replicate N n)) ≤ 900000)) (HR : Hid (GoodX S N (List.replicate N n))) (hS : S.size ≤ 1000000) :
    Calls Tryd.prog 5 #[.int .i64 more, .int .u64 n] w fun e w' => e = .returned (.bool true) ∧ Below w.heap.size w w' := by
  obtain ⟨i0, hi, hz0, hz1, hz2⟩ := info_parts Tryd.elU64x.2.1
  have hlt : Hid (∀ m ∈ List.replicate N n, m < 18446744073709551616) := Lib.hid fun m hm => by rw [List.eq_of_mem_replicate hm]; exact hn
  go_enter Tryd.func5, Tryd.ntmps5
  go_wp2_with fail
  refine (first21 w).mono ?_; rintro e w1 ⟨rfl, hb1⟩
  have hw1 := hb1.size
  go_wp2_with (at_make; refine wpList_make_full _ rfl _ _ 22 rfl w.heap.size 40 i0 (.int .u64 0) 1 Tryd.underlying22 hi hz0 hz1 _ _ _ _ N rfl rfl (by omega) (by omega) (by rw [hz2]; omega) (by unfold maxLen; omega) hw1 ?_; intro w2 hown hgrow)
  have hB2 : Below w.heap.size w w2 := hb1.grown hgrow hw1 (by simp)
  have hrows : (madeCells (Value.int .u64 0).cells (N * 1)).toList = filled [] N := by
    rw [Nat.mul_one]; exact (toList_madeCells_one _ _).trans (filled_zero N)
  rw [hrows] at hown
  obtain ⟨g, hgg⟩ : ∃ g, w1.heap.size = g := ⟨_, rfl⟩
  rw [hgg] at hown hw1 ⊢
  have HO := Lib.hid hown
  have HB := Lib.hid hB2
  have HW : Hid (w.heap.size ≤ g) := Lib.hid hw1
  clear hown hB2 hrows hgrow hb1 hgg hw1
  go_wp2_with fail
  go_loopg [6] N (fun k i wr => ∃ j : Nat, j + k = N ∧ i = .int .i64 j ∧ wr.ownsRow w.heap.size 40 1 (.slice (some ⟨g, 0, none⟩) N N) N (filled (List.replicate j n) k) ∧ Below w.heap.size w wr)
  case atStart => exact ⟨0, by omega, rfl, HO.out, HB.out⟩
  case round =>
    obtain ⟨j, hj, rfl, hown, hbr⟩ := hrel
    have HO := Lib.hid hown
    have HB := Lib.hid hbr
    clear hown hbr
    by_cases hlt' : j < N
    · obtain ⟨m, rfl⟩ : ∃ m, gk = m + 1 := ⟨gk - 1, by omega⟩
      have hi1 : (j : Int) < (N : Int) := by omega
      have hi0 : (0 : Int) ≤ (j : Int) := by omega
      have hfz : wr.frozen? ⟨g, j, none⟩ = false := HO.out.frozenAt j
      have hce : wr.cell? ⟨g, j, none⟩ = some (.int .u64 0) := (HO.out.cellAt j (by omega)).trans (by have := filled_at (List.replicate j n) m; rw [List.length_replicate] at this; exact this)
      have HJ := Lib.hid hj
      clear hj
      go_wp2_with fail
      have hj := HJ.out
      have HU4 := Upd.set wr ⟨g, j, none⟩ (.int .u64 (n : Int))
      have HO4 := (HO.out.stored j (.int .u64 (n : Int))).1
      have hset : (filled (List.replicate j n) (m + 1)).set j (.int .u64 (n : Int)) = filled (List.replicate (j + 1) n) m := by
        have h := filled_set (List.replicate j n) m n
        rw [List.length_replicate] at h
        rw [h, List.replicate_succ']
      rw [hset] at HO4
      go_roundg m
      case measure => omega
      case rel => exact ⟨j + 1, by omega, by simp, HO4, HB.out.trans (HU4.below HB.out.size (fun k _ hk => by subst hk; exact HW.out))⟩
    · obtain rfl : gk = 0 := by omega
      obtain rfl : j = N := by omega
      have hll : (List.replicate j n).length = j := List.length_replicate ..
      have HN : Hid (Nats .u64 wr (some ⟨g, 0, none⟩) (List.replicate j n)) := Lib.hid (by
        have h1 := HO.out
        rw [filled_all] at h1
        have h2 : wr.ownsRow w.heap.size 40 1 (.slice (some ⟨g, 0, none⟩) (List.replicate j n).length j) (List.replicate j n).length (nvals (List.replicate j n)) := by rw [hll]; exact h1
        exact nats_of_own h2)
      by_cases hov : 20000 < j
      · have hmore : more = 1 := by omega
        subst hmore
        have HG : Hid (Glob wr) := Lib.hid (hg.out.below (HB.out.mono (Nat.le_refl _)))
        clear hj
        go_wp2_with fail
        refine (xput_many _ _ j _ hov (by omega)).mono ?_; rintro e w3 ⟨rfl, rfl⟩
        have HB3 := Lib.hid (dstep HB.out (below_new0 wr (.cells #[.int .i64 20000, .iface 29 (.int .i64 9)] 105)))
        have HC := Lib.hid (codeIs_alloc wr 20000 9)
        go_wp2_with fail
        refine (first21 _).mono ?_; rintro e w4 ⟨rfl, hb4⟩
        have HC4 := Lib.hid (HC.out.below hb4)
        have HB4 := Lib.hid (dstep HB3.out hb4)
        clear hb4
        go_wp2_with fail
        refine (codeIs_any _ 9 _ HC4.out (hg.out.below HB4.out)).mono ?_; rintro e w5 ⟨rfl, hb5⟩
        have HB5 := Lib.hid (dstep HB4.out hb5)
        clear hb5
        go_wp2_with fail
        go_ret
        exact ⟨rfl, HB5.out⟩
      · have hle : j ≤ 20000 := by omega
        have hmore : ¬ more > 0 := by omega
        clear hj hov
        go_wp2_with fail
        refine (xput_str _ _ _ j S _ hll HN.out HR hle hcb).mono ?_; rintro e w3 ⟨rfl, hb3⟩
        have HN3 := Lib.hid (HN.out.below hb3)
        have HB3 := Lib.hid (dstep HB.out hb3)
        clear hb3
        go_wp2_with fail
        refine (xget_ok S j _ (by omega) hle HR).mono ?_; rintro e w4 ⟨hb4, bo, bcap, rfl, h3, h4⟩
        have HN4 := Lib.hid (HN3.out.below hb4)
        have HB4 := Lib.hid (dstep HB3.out hb4)
        have HM := Lib.hid h3
        clear hb4 h3 h4
        go_wp2_with fail
        refine (first21 _).mono ?_; rintro e w5 ⟨rfl, hb5⟩
        have HB5 := Lib.hid (dstep HB4.out hb5)
        have HN5 := Lib.hid (HN4.out.below hb5)
        have HM5 := Lib.hid (HM.out.below hb5)
        clear hb5
        go_wp2_with fail
        refine (nums_len _ _ _ _ _ j _ hll HN5.out HM5.out (by omega)).mono ?_; rintro e w6 ⟨rfl, hb6⟩
        have HB6 := Lib.hid (dstep HB5.out hb6)
        clear hb6
        go_wp2_with fail
        go_ret
        exact ⟨rfl, HB6.out⟩
theorem xmany_any (more : Int) (n : Nat) (w : World) (hn : n < 18446744073709551616) (hg : Glob w) :
    Calls Tryd.prog 5 #[.int .i64 more, .int .u64 n] w fun e w' => e = .returned (.bool true) ∧ Below w.heap.size w w' := by
  by_cases h1 : more < -1
  · exact xmany_out more n w (.inl h1)
  by_cases h2 : 1 < more
  · exact xmany_out more n w (.inr ⟨h1, h2⟩)
  obtain ⟨N, hN⟩ := Int.eq_ofNat_of_zero_le (show 0 ≤ 20000 + more by omega)
  have hlt : ∀ m ∈ List.replicate N n, m < 18446744073709551616 := fun m hm => by rw [List.eq_of_mem_replicate hm]; exact hn
  have hll : (List.replicate N n).length = N := List.length_replicate ..
  have hcb := xenc_same N n
  have hgd := good_ofX (List.replicate N n) hlt
  have hbt := good_bits hgd
  rw [hll] at hgd
  exact xmany_in more N n ⟨(xbytes (List.replicate N n)).toArray⟩ w hn (by omega) (by omega) hN (Lib.hid hg) (Lib.hid (by omega)) (Lib.hid hgd) (by omega)
end Go.Proofs.YtihoemimiplhfaaDoor
