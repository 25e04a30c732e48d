/-
  hygref13.MayBuckets, Buckets; exph.SizeBuckets; hyglaw14.BucketsWrites.
-/
import Derived.Test.YtdokbooggbiciaaGreatDoorRefBuk
import Derived.Test.YtdokbooggbiciaaGreatDoorBukRef
import Derived.Test.YtdokbooggbiciaaGreatDoorDoor
namespace Go.Proofs.YtdokbooggbiciaaGreatDoor
open Go.RowKit

theorem wgr_enough : ∀ (f : Nat) {l : List UInt8} {st : List Nat} {d d' : Int} {k : Nat}, (st.length : Int) + (l.length : Int) ≤ d' → wgr f l st d = .ok k → wgr f l st d' = .ok k
  | 0, _, _, _, _, _, _, h => by cases h
  | f + 1, l, st, d, d', k, hd, h => by
    rw [wgr] at h ⊢
    split at h
    · rename_i h0
      rw [if_pos h0]; exact h
    · rename_i h0
      rw [if_neg h0]
      split at h
      · cases h
      · rename_i h1
        rw [if_neg (by omega)]
        cases hh : whd l with
        | error c => rw [hh] at h; cases h
        | ok x =>
          obtain ⟨num, ty, j⟩ := x
          have hb := whd_bounds hh
          rw [hh] at h
          dsimp only at h ⊢
          split at h
          · rename_i h3
            rw [if_pos h3]
            obtain ⟨i, hi, rfl⟩ := wadd_ok h
            rw [wgr_enough f (by rw [List.length_cons, List.length_drop]; omega) hi]; rfl
          · rename_i h3
            rw [if_neg h3]
            split at h
            · rename_i h4
              rw [if_pos h4]
              split at h
              · rename_i h5
                rw [if_pos h5]
                obtain ⟨i, hi, rfl⟩ := wadd_ok h
                rw [wgr_enough f (by rw [List.length_tail, List.length_drop]; omega) hi]; rfl
              · cases h
            · rename_i h4
              rw [if_neg h4]
              cases hbd : wbd (l.drop j) ty with
              | error c => rw [hbd] at h; cases h
              | ok y =>
                obtain ⟨n, s, m⟩ := y
                rw [hbd] at h
                dsimp only at h ⊢
                obtain ⟨i, hi, rfl⟩ := wadd_ok h
                rw [wgr_enough f (by rw [List.length_drop]; omega) hi]; rfl
theorem wnx_enough {l : List UInt8} {d d' : Int} {x : Rec × Nat} (hd : (l.length : Int) ≤ d') (h : wnx l d = .ok x) : wnx l d' = .ok x := by
  unfold wnx at h ⊢
  cases hh : whd l with
  | error c => rw [hh] at h; cases h
  | ok y =>
    obtain ⟨num, ty, j⟩ := y
    have hb := whd_bounds hh
    rw [hh] at h
    dsimp only at h ⊢
    split at h
    · cases h
    · rename_i h4
      rw [if_neg h4]
      split at h
      · rename_i h3
        rw [if_pos h3]
        cases hg : wgroup (l.drop j) [num] d with
        | error c => rw [hg] at h; cases h
        | ok k =>
          rw [hg] at h
          have e : wgroup (l.drop j) [num] d' = .ok k := wgr_enough _ (by rw [List.length_drop]; simp only [List.length_cons, List.length_nil]; omega) hg
          rw [e]; exact h
      · rename_i h3
        rw [if_neg h3]
        exact h
theorem wall_enough : ∀ (n : Nat) {l : List UInt8} {d d' : Int} {rs : List Rec}, (l.length : Int) ≤ d' → l.length ≤ n → wall l d = .ok rs → wall l d' = .ok rs
  | n, l, d, d', rs, hd, hn, h => by
    rcases wall_inv h with ⟨rfl, rfl⟩ | ⟨r, q, ks, h1, h2, rfl, h4, h5, h6⟩
    · rfl
    · match n, hn with
      | 0, hn => omega
      | n + 1, hn =>
        rw [wall_cons (wnx_enough hd h1), wall_enough n (by rw [List.length_drop]; omega) (by rw [List.length_drop]; omega) h2]
theorem munkOk_enough {tk : Rec → Bool} {l : List UInt8} {d d' : Int} (hd : (l.length : Int) ≤ d') (h : munkOk tk l d = true) : munkOk tk l d' = true := by
  unfold munkOk at h ⊢
  cases hw : wall l d with
  | error c => rw [hw] at h; cases h
  | ok rs =>
    rw [hw] at h
    rw [wall_enough _ hd (Nat.le_refl _) hw]
    exact h
set_option maxRecDepth 1000000 in
set_option maxHeartbeats 8000000 in
theorem may13_any (x : Bk) (u : List UInt8) (ao : Option Addr) (cap : Nat) (S : ByteArray) (d : Int) (w : World) (hS : Hid (S.data.toList = u)) (hu : u.length ≤ 1000000) (hd : d ≤ 9223372036854775807) :
    Calls Tryz.prog 12 #[.agg #[.int .i32 x.off, .slice ao x.cs.length cap, .string S], .int .i64 d] w fun e w' => e = .returned (.bool (bmay u d)) ∧ Below w.heap.size w w' := by
  have hSz : S.size ≤ 1000000 := by have : S.size = u.length := by rw [← hS.out]; simp
                                    omega
  have HUN := Lib.hid (fun to w' hn => unknown8_any S d [8, 16, 18] to 3 w' hn (by decide) (Lib.hid (by decide)) hSz hd)
  obtain ⟨bx, hbx⟩ : ∃ bx, w.heap.size = bx := ⟨_, rfl⟩
  obtain ⟨W0, hW0⟩ : ∃ W, w.alloc (.cells #[.int .i32 x.off, .slice ao x.cs.length cap, .string S] 25) = W := ⟨_, rfl⟩
  have HB0 : Hid (Below w.heap.size w W0) := Lib.hid (by rw [← hW0]; exact below_new _ _)
  have HX0 : Hid (W0.heap[bx]? = some (.cells #[.int .i32 x.off, .slice ao x.cs.length cap, .string S] 25 (0, 0))) := Lib.hid (by rw [← hW0, ← hbx]; exact heap_alloc_new _ _)
  have HW0 := Lib.hid hW0
  have HBX := Lib.hid hbx
  clear hW0 hbx hSz hu
  by_cases h : 0 ≤ d
  · have d1 : decide (d ≥ 0) = true := decide_eq_true h
    have d2 : decide (0 ≤ d) = true := decide_eq_true h
    have HM : Hid (bmay u d = (decide (0 ≤ d) && munkOk (rtk [8, 16, 18]) S.data.toList d)) := Lib.hid (by unfold bmay; rw [hS.out, munkOk_rtk btk_rtk])
    clear h hd
    go_enter Tryz.func12, Tryz.ntmps12
    go_wp2_with fail
    rw [HW0.out, HBX.out]
    obtain ⟨D, hD⟩ : ∃ D, W0.drew = D := ⟨_, rfl⟩
    have HBD : Hid (Below w.heap.size w D) := Lib.hid (by rw [← hD]; exact HB0.out.drew)
    have HXD : Hid (D.heap[bx]? = some (.cells #[.int .i32 x.off, .slice ao x.cs.length cap, .string S] 25 (0, 0))) := Lib.hid (by rw [← hD]; exact HX0.out)
    have hne : Nonempty {w' : World // w'.heap[bx]? = some (.cells #[.int .i32 x.off, .slice ao x.cs.length cap, .string S] 25 (0, 0))} := ⟨⟨_, HXD.out⟩⟩
    refine wp_region_seq (S := fun w' => w'.heap[bx]? = some (.cells #[.int .i32 x.off, .slice ao x.cs.length cap, .string S] 25 (0, 0))) [(0, true), (1, true), (2, true), (3, true), (4, true), (5, true), (6, false), (7, false), (8, true), (9, true)] (by kernel_rfl) (by kernel_rfl) (by kernel_rfl) (by kernel_rfl) (by rw [hD]; exact HXD.out) ?_
    rw [hD]
    clear hD
    iterate 4 (refine seq_take _ rfl (fun K hK => ?_); go_simp; (first | refine hK _ ?_ | refine ⟨_, fun _ _ => rfl, hK _ ?_⟩ | (refine ⟨undef, by rw [if_neg (by simp [undef])], ?_⟩; refine hK _ ?_)); clear hK K)
    iterate 1 (refine seq_take _ rfl (fun K hK => ?_); go_simp; (refine ⟨.string S, fun a ha => by (have e0 : a.cell? ⟨bx, 2, none⟩ = some (.string S) := row_cell ha (j := 2) rfl); simp only [e0, Result.andThen], hK _ ?_⟩); clear hK K)
    iterate 1 (refine seq_take _ rfl (fun K hK => ?_); go_simp; (first | refine hK _ ?_ | refine ⟨_, fun _ _ => rfl, hK _ ?_⟩ | (refine ⟨undef, by rw [if_neg (by simp [undef])], ?_⟩; refine hK _ ?_)); clear hK K)
    refine seq_come _ rfl (fun K hK => ?_); go_simp
    refine (tab14_any D).mono ?_; rintro e w4 ⟨to, rfl, HNT, hb4⟩
    have HB4 := Lib.hid (below_step HBD.out hb4)
    have HX4 : Hid (w4.heap[bx]? = some (.cells #[.int .i32 x.off, .slice ao x.cs.length cap, .string S] 25 (0, 0))) := Lib.hid ((hb4.block _ (row_lt HXD.out)).trans HXD.out)
    go_simp; refine hK.out _ _ HX4.out ?_; clear hK K hb4
    refine seq_come _ rfl (fun K hK => ?_); go_simp
    refine (HUN.out to w4 HNT).mono ?_; rintro e w5 ⟨rfl, hb5⟩
    rw [← HM.out]
    have HB5 := Lib.hid (below_step HB4.out hb5)
    have HX5 : Hid (w5.heap[bx]? = some (.cells #[.int .i32 x.off, .slice ao x.cs.length cap, .string S] 25 (0, 0))) := Lib.hid ((hb5.block _ (row_lt HX4.out)).trans HX4.out)
    go_simp; refine hK.out _ _ HX5.out ?_; clear hK K hb5
    iterate 2 (refine seq_take _ rfl (fun K hK => ?_); go_simp; (first | refine hK _ ?_ | refine ⟨_, fun _ _ => rfl, hK _ ?_⟩ | (refine ⟨undef, by rw [if_neg (by simp [undef])], ?_⟩; refine hK _ ?_)); clear hK K)
    refine seq_done ?_
    go_wp2_with fail
    go_ret
    exact ⟨rfl, HB5.out⟩
  · have d1 : decide (d ≥ 0) = false := decide_eq_false h
    have d2 : decide (0 ≤ d) = false := decide_eq_false h
    have HM : Hid (bmay u d = false) := Lib.hid (by unfold bmay; rw [d2]; rfl)
    clear h hd
    go_enter Tryz.func12, Tryz.ntmps12
    go_wp2_with fail
    rw [HW0.out, HBX.out]
    obtain ⟨D, hD⟩ : ∃ D, W0.drew = D := ⟨_, rfl⟩
    have HBD : Hid (Below w.heap.size w D) := Lib.hid (by rw [← hD]; exact HB0.out.drew)
    have HXD : Hid (D.heap[bx]? = some (.cells #[.int .i32 x.off, .slice ao x.cs.length cap, .string S] 25 (0, 0))) := Lib.hid (by rw [← hD]; exact HX0.out)
    have hne : Nonempty {w' : World // w'.heap[bx]? = some (.cells #[.int .i32 x.off, .slice ao x.cs.length cap, .string S] 25 (0, 0))} := ⟨⟨_, HXD.out⟩⟩
    refine wp_region_seq (S := fun w' => w'.heap[bx]? = some (.cells #[.int .i32 x.off, .slice ao x.cs.length cap, .string S] 25 (0, 0))) [(0, true), (1, true), (2, true), (3, true), (4, true), (5, true), (6, false), (7, false), (8, true), (9, true)] (by kernel_rfl) (by kernel_rfl) (by kernel_rfl) (by kernel_rfl) (by rw [hD]; exact HXD.out) ?_
    rw [hD]
    clear hD
    iterate 6 (refine seq_take _ rfl (fun K hK => ?_); go_simp; (first | refine hK _ ?_ | refine ⟨_, fun _ _ => rfl, hK _ ?_⟩ | (refine ⟨undef, by rw [if_neg (by simp [undef])], ?_⟩; refine hK _ ?_)); clear hK K)
    refine seq_come _ rfl (fun K hK => ?_); go_simp
    (first | refine hK.out _ _ HXD.out ?_ | (rw [if_neg (by simp [undef])]; refine hK.out _ _ HXD.out ?_)); clear hK K
    refine seq_come _ rfl (fun K hK => ?_); go_simp
    (first | refine hK.out _ _ HXD.out ?_ | (rw [if_neg (by simp [undef])]; refine hK.out _ _ HXD.out ?_)); clear hK K
    iterate 2 (refine seq_take _ rfl (fun K hK => ?_); go_simp; (first | refine hK _ ?_ | refine ⟨_, fun _ _ => rfl, hK _ ?_⟩ | (refine ⟨undef, by rw [if_neg (by simp [undef])], ?_⟩; refine hK _ ?_)); clear hK K)
    refine seq_done ?_
    go_wp2_with fail
    go_ret
    exact ⟨by rw [HM.out]; rfl, HBD.out⟩
set_option maxRecDepth 1000000 in
set_option maxHeartbeats 8000000 in
theorem put13_any (x : Bk) (u : List UInt8) (ao : Option Addr) (cap : Nat) (S : ByteArray) (w : World) (hx : Hid (BkOk x)) (hN : Hid (Nats .u64 w ao x.cs)) (hl : x.cs.length ≤ 100000) (hS : Hid (S.data.toList = u)) (hu : u.length ≤ 1000000) :
    Calls Tryz.prog 15 #[.agg #[.int .i32 x.off, .slice ao x.cs.length cap, .string S]] w fun e w' => e = .returned (.string ⟨(bput x u).toArray⟩) ∧ Below w.heap.size w w' := by
  have hlo := hx.out.lo
  have hhi := hx.out.hi
  have hzz := zig_nat hlo hhi
  obtain ⟨z, hz⟩ : ∃ z, (zig x.off).toNat = z := ⟨_, rfl⟩
  rw [hz] at hzz
  have HZ : Hid (zig x.off = (z : Int)) := Lib.hid hzz.1
  have HPV := Lib.hid (fun w' => putvar8_any 1 z w' (by omega) (by omega))
  have HPN := Lib.hid (fun w' hn => putvars8_any 2 ao cap x.cs w' hn (Lib.hid hx.out.each) (by omega) hl)
  have HZ32 := Lib.hid (fun w' => refzig32_any x.off w' hlo hhi)
  obtain ⟨P1, hP1⟩ : ∃ P : ByteArray, (⟨(wvarP 1 z).flatten.toArray⟩ : ByteArray) = P := ⟨_, rfl⟩
  obtain ⟨P2, hP2⟩ : ∃ P : ByteArray, (⟨(wbytesP 2 (vputs x.cs)).flatten.toArray⟩ : ByteArray) = P := ⟨_, rfl⟩
  rw [hP1] at HPV
  rw [hP2] at HPN
  have HFIN : Hid (P1 ++ P2 ++ S = ⟨(bput x u).toArray⟩) := Lib.hid (by
    refine ByteArray.ext (Array.ext' ?_)
    rw [← hP1, ← hP2, ByteArray.data_append, ByteArray.data_append, Array.toList_append, Array.toList_append, hS.out]
    unfold bput bparts
    rw [hz, List.flatten_append, List.flatten_append]
    simp [vputs])
  have hlen : P1.size + P2.size + S.size = (bput x u).length := by
    have := congrArg ByteArray.size HFIN.out
    rw [ByteArray.size_append, ByteArray.size_append] at this
    rw [this]
    simp [ByteArray.size]
  have hbl := bput_len x u
  have s1 : ¬ 9223372036854775807 < P1.size + P2.size := by omega
  have s2 : ¬ 9223372036854775807 < (P1 ++ P2).size + S.size := by rw [ByteArray.size_append]; omega
  obtain ⟨P3, hP3⟩ : ∃ P : ByteArray, P1 ++ P2 = P := ⟨_, rfl⟩
  rw [hP3] at HFIN s2
  have HP3 := Lib.hid hP3
  obtain ⟨bx, hbx⟩ : ∃ bx, w.heap.size = bx := ⟨_, rfl⟩
  obtain ⟨W0, hW0⟩ : ∃ W, w.alloc (.cells #[.int .i32 x.off, .slice ao x.cs.length cap, .string S] 25) = W := ⟨_, rfl⟩
  have HB0 : Hid (Below w.heap.size w W0) := Lib.hid (by rw [← hW0]; exact below_new _ _)
  have HX0 : Hid (W0.heap[bx]? = some (.cells #[.int .i32 x.off, .slice ao x.cs.length cap, .string S] 25 (0, 0))) := Lib.hid (by rw [← hW0, ← hbx]; exact heap_alloc_new _ _)
  have HW0 := Lib.hid hW0
  have HBX := Lib.hid hbx
  clear hW0 hbx hlo hhi hzz hz hP1 hP2 hP3 hlen hbl hl hu
  go_enter Tryz.func15, Tryz.ntmps15
  go_wp2_with fail
  rw [HW0.out, HBX.out]
  obtain ⟨D, hD⟩ : ∃ D, W0.drew = D := ⟨_, rfl⟩
  have HBD : Hid (Below w.heap.size w D) := Lib.hid (by rw [← hD]; exact HB0.out.drew)
  have HXD : Hid (D.heap[bx]? = some (.cells #[.int .i32 x.off, .slice ao x.cs.length cap, .string S] 25 (0, 0))) := Lib.hid (by rw [← hD]; exact HX0.out)
  have hne : Nonempty {w' : World // w'.heap[bx]? = some (.cells #[.int .i32 x.off, .slice ao x.cs.length cap, .string S] 25 (0, 0))} := ⟨⟨_, HXD.out⟩⟩
  refine wp_region_seq (S := fun w' => w'.heap[bx]? = some (.cells #[.int .i32 x.off, .slice ao x.cs.length cap, .string S] 25 (0, 0))) [(0, true), (1, true), (4, true), (5, true), (8, true), (9, true), (2, false), (3, false), (6, false), (7, true), (10, true), (11, true)] (by kernel_rfl) (by kernel_rfl) (by kernel_rfl) (by kernel_rfl) (by rw [hD]; exact HXD.out) ?_
  rw [hD]
  clear hD
  iterate 1 (refine seq_take _ rfl (fun K hK => ?_); go_simp; (first | refine hK _ ?_ | refine ⟨_, fun _ _ => rfl, hK _ ?_⟩ | (refine ⟨undef, by rw [if_neg (by simp [undef])], ?_⟩; refine hK _ ?_)); clear hK K)
  iterate 1 (refine seq_take _ rfl (fun K hK => ?_); go_simp; (refine ⟨.int .i32 x.off, fun a ha => by (have e0 : a.cell? ⟨bx, 0, none⟩ = some (.int .i32 x.off) := row_cell ha (j := 0) rfl); simp only [e0, Result.andThen], hK _ ?_⟩); clear hK K)
  iterate 1 (refine seq_take _ rfl (fun K hK => ?_); go_simp; (first | refine hK _ ?_ | refine ⟨_, fun _ _ => rfl, hK _ ?_⟩ | (refine ⟨undef, by rw [if_neg (by simp [undef])], ?_⟩; refine hK _ ?_)); clear hK K)
  iterate 1 (refine seq_take _ rfl (fun K hK => ?_); go_simp; (refine ⟨.slice ao x.cs.length cap, fun a ha => by (have e0 : a.cell? ⟨bx, 1, none⟩ = some (.slice ao x.cs.length cap) := row_cell ha (j := 1) rfl); simp only [e0, Result.andThen], hK _ ?_⟩); clear hK K)
  iterate 1 (refine seq_take _ rfl (fun K hK => ?_); go_simp; (first | refine hK _ ?_ | refine ⟨_, fun _ _ => rfl, hK _ ?_⟩ | (refine ⟨undef, by rw [if_neg (by simp [undef])], ?_⟩; refine hK _ ?_)); clear hK K)
  iterate 1 (refine seq_take _ rfl (fun K hK => ?_); go_simp; (refine ⟨.string S, fun a ha => by (have e0 : a.cell? ⟨bx, 2, none⟩ = some (.string S) := row_cell ha (j := 2) rfl); simp only [e0, Result.andThen], hK _ ?_⟩); clear hK K)
  refine seq_come _ rfl (fun K hK => ?_); go_simp
  refine (HZ32.out D).mono ?_; rintro e w4 ⟨rfl, rfl⟩
  rw [HZ.out]
  go_simp; refine hK.out _ _ HXD.out ?_; clear hK K
  refine seq_come _ rfl (fun K hK => ?_); go_simp
  refine (HPV.out D).mono ?_; rintro e w5 ⟨rfl, hb5⟩
  have HB5 := Lib.hid (below_step HBD.out hb5)
  have HX5 : Hid (w5.heap[bx]? = some (.cells #[.int .i32 x.off, .slice ao x.cs.length cap, .string S] 25 (0, 0))) := Lib.hid ((hb5.block _ (row_lt HXD.out)).trans HXD.out)
  go_simp; refine hK.out _ _ HX5.out ?_; clear hK K hb5
  refine seq_come _ rfl (fun K hK => ?_); go_simp
  refine (HPN.out w5 (Lib.hid (hN.out.below HB5.out))).mono ?_; rintro e w6 ⟨rfl, hb6⟩
  have HB6 := Lib.hid (below_step HB5.out hb6)
  have HX6 : Hid (w6.heap[bx]? = some (.cells #[.int .i32 x.off, .slice ao x.cs.length cap, .string S] 25 (0, 0))) := Lib.hid ((hb6.block _ (row_lt HX5.out)).trans HX5.out)
  go_simp; refine hK.out _ _ HX6.out ?_; clear hK K hb6
  iterate 1 (refine seq_take _ rfl (fun K hK => ?_); go_simp; (first | refine hK _ ?_ | refine ⟨_, fun _ _ => rfl, hK _ ?_⟩ | (refine ⟨undef, by rw [if_neg (by simp [undef])], ?_⟩; refine hK _ ?_)); clear hK K)
  rw [HP3.out]
  iterate 2 (refine seq_take _ rfl (fun K hK => ?_); go_simp; (first | refine hK _ ?_ | refine ⟨_, fun _ _ => rfl, hK _ ?_⟩ | (refine ⟨undef, by rw [if_neg (by simp [undef])], ?_⟩; refine hK _ ?_)); clear hK K)
  refine seq_done ?_
  go_wp2_with fail
  go_ret
  exact ⟨by rw [← HFIN.out]; rfl, HB6.out⟩
set_option maxRecDepth 1000000 in
set_option maxHeartbeats 8000000 in
theorem sizeB_any (x : Bk) (u : List UInt8) (ao : Option Addr) (cap : Nat) (S P : ByteArray) (w : World) (hx : Hid (BkOk x)) (hN : Hid (Nats .u64 w ao x.cs)) (hl : x.cs.length ≤ 100000) (hu : u.length ≤ 1000000) (hX : Hid (S = ⟨u.toArray⟩)) (hm : Hid (bmay u 262144 = true)) (hP : Hid ((⟨(bput x u).toArray⟩ : ByteArray) = P)) :
    Calls Tryz.prog 16 #[.agg #[.int .i32 x.off, .slice ao x.cs.length cap, .string S]] w fun e w' => e = .returned (.int .i64 (P.size : Int)) ∧ Below w.heap.size w w' := by
  obtain ⟨bx, hbx⟩ : ∃ bx, w.heap.size = bx := ⟨_, rfl⟩
  obtain ⟨W0, hW0⟩ : ∃ W, w.alloc (.cells #[.int .i32 x.off, .slice ao x.cs.length cap, .string S] 25) = W := ⟨_, rfl⟩
  have HB0 : Hid (Below w.heap.size w W0) := Lib.hid (by rw [← hW0]; exact below_new _ _)
  have HX0 : Hid (W0.heap[bx]? = some (.cells #[.int .i32 x.off, .slice ao x.cs.length cap, .string S] 25 (0, 0))) := Lib.hid (by rw [← hW0, ← hbx]; exact heap_alloc_new _ _)
  have HN0 := Lib.hid (hN.out.below HB0.out)
  have HW0 := Lib.hid hW0
  have HBX := Lib.hid hbx
  have HMB := Lib.hid (mb_any x u ao cap S 262144 W0 hx HN0 hl hu hX)
  clear hW0 hbx hl hu
  have hc0 : W0.cell? ⟨bx, 0, none⟩ = some (.int .i32 x.off) := row_cell HX0.out (j := 0) rfl
  have hc1 : W0.cell? ⟨bx, 1, none⟩ = some (.slice ao x.cs.length cap) := row_cell HX0.out (j := 1) rfl
  have hc2 : W0.cell? ⟨bx, 2, none⟩ = some (.string S) := row_cell HX0.out (j := 2) rfl
  go_enter Tryz.func16, Tryz.ntmps16
  go_wp2_with fail
  rw [HW0.out, HBX.out]
  go_wp2_with fail
  refine HMB.out.mono ?_; rintro e w1 ⟨hb, ⟨_, rfl⟩ | ⟨hf, _⟩⟩
  case inr => rw [hm.out] at hf; cases hf
  rw [hP.out]
  have HB1 := Lib.hid (below_step HB0.out hb)
  clear hb hc0 hc1 hc2
  go_wp2_with fail
  go_ret
  exact ⟨rfl, HB1.out⟩
set_option maxRecDepth 1000000 in
set_option maxHeartbeats 8000000 in
theorem writes_walk14 (x : Bk) (u : List UInt8) (ao : Option Addr) (cap : Nat) (d : Int) (w : World) (hK : Hid (BkOk x)) (hN : Hid (Nats .u64 w ao x.cs)) (hl : x.cs.length ≤ 9223372036854775807) (hu : u.length ≤ 9223372036854775807) (hd : -9223372036854775808 ≤ d ∧ d ≤ 9223372036854775807) (hg : Glob w) :
    Calls Tryz.prog 4 #[.agg #[.int .i32 x.off, .slice ao x.cs.length cap, .string ⟨u.toArray⟩], .int .i64 d] w fun e w' => e = .returned (.bool true) ∧ Below w.heap.size w w' := by
  have HROOM := Lib.hid (fun w' => roomB_any x u ao cap w' hl hu)
  obtain ⟨S, hS⟩ : ∃ S : ByteArray, (⟨u.toArray⟩ : ByteArray) = S := ⟨_, rfl⟩
  have HSS := Lib.hid hS.symm
  have HSD : Hid (S.data.toList = u) := Lib.hid (by rw [← hS])
  rw [hS] at HROOM ⊢
  clear hS
  obtain ⟨bx, hbx⟩ : ∃ bx, w.heap.size = bx := ⟨_, rfl⟩
  obtain ⟨W0, hW0⟩ : ∃ W, w.alloc (.cells #[.int .i32 x.off, .slice ao x.cs.length cap, .string S] 25) = W := ⟨_, rfl⟩
  have HB0 : Hid (Below w.heap.size w W0) := Lib.hid (by rw [← hW0]; exact below_new _ _)
  have HX0 : Hid (W0.heap[bx]? = some (.cells #[.int .i32 x.off, .slice ao x.cs.length cap, .string S] 25 (0, 0))) := Lib.hid (by rw [← hW0, ← hbx]; exact heap_alloc_new _ _)
  have HW0 := Lib.hid hW0
  have HBX := Lib.hid hbx
  have HG := Lib.hid hg
  have HD := Lib.hid hd
  clear hW0 hbx hl hu hg hd
  go_enter Tryz.func4, Tryz.ntmps4
  go_wp2_with fail
  rw [HW0.out, HBX.out]
  refine (first14 W0).mono ?_; rintro e w1 ⟨rfl, hb⟩
  have HB1 := Lib.hid (below_step HB0.out hb)
  have HX1 : Hid (w1.heap[bx]? = some (.cells #[.int .i32 x.off, .slice ao x.cs.length cap, .string S] 25 (0, 0))) := Lib.hid ((hb.block _ (row_lt HX0.out)).trans HX0.out)
  clear hb
  have hc0 : w1.cell? ⟨bx, 0, none⟩ = some (.int .i32 x.off) := row_cell HX1.out (j := 0) rfl
  have hc1 : w1.cell? ⟨bx, 1, none⟩ = some (.slice ao x.cs.length cap) := row_cell HX1.out (j := 1) rfl
  have hc2 : w1.cell? ⟨bx, 2, none⟩ = some (.string S) := row_cell HX1.out (j := 2) rfl
  go_wp2_with fail
  refine (HROOM.out _).mono ?_; rintro e w2 ⟨hb, r, rfl, hr⟩
  have HR := Lib.hid hr
  clear hr HROOM
  have HB2 := Lib.hid (below_step HB1.out hb)
  have HX2 : Hid (w2.heap[bx]? = some (.cells #[.int .i32 x.off, .slice ao x.cs.length cap, .string S] 25 (0, 0))) := Lib.hid ((hb.block _ (row_lt HX1.out)).trans HX1.out)
  clear hb hc0 hc1 hc2
  by_cases h1 : r < 0
  · have d1 : decide (r < 0) = true := decide_eq_true h1
    clear h1
    go_wp2_with fail
    refine (first14 w2).mono ?_; rintro e w9 ⟨rfl, hb9⟩
    have HB9 := Lib.hid (below_step HB2.out hb9)
    clear hb9
    go_wp2_with fail
    go_ret
    exact ⟨rfl, HB9.out⟩
  have d1 : decide (r < 0) = false := decide_eq_false h1
  have HLL : Hid (x.cs.length ≤ 2000 ∧ u.length ≤ 12000) := Lib.hid (by rcases HR.out with h | h; exact absurd h h1; exact h)
  clear h1 HR
  have HM13 := Lib.hid (fun w' => may13_any x u ao cap S d w' HSD (by have := HLL.out; omega) HD.out.2)
  have hc0 : w2.cell? ⟨bx, 0, none⟩ = some (.int .i32 x.off) := row_cell HX2.out (j := 0) rfl
  have hc1 : w2.cell? ⟨bx, 1, none⟩ = some (.slice ao x.cs.length cap) := row_cell HX2.out (j := 1) rfl
  have hc2 : w2.cell? ⟨bx, 2, none⟩ = some (.string S) := row_cell HX2.out (j := 2) rfl
  go_wp2_with fail
  refine (HM13.out w2).mono ?_; rintro e w3 ⟨rfl, hb⟩
  have HB3 := Lib.hid (below_step HB2.out hb)
  have HX3 : Hid (w3.heap[bx]? = some (.cells #[.int .i32 x.off, .slice ao x.cs.length cap, .string S] 25 (0, 0))) := Lib.hid ((hb.block _ (row_lt HX2.out)).trans HX2.out)
  clear hb hc0 hc1 hc2
  have HMB := Lib.hid (mb_any x u ao cap S d w3 hK (Lib.hid (hN.out.below HB3.out)) (by have := HLL.out; omega) (by have := HLL.out; omega) HSS)
  have hc0 : w3.cell? ⟨bx, 0, none⟩ = some (.int .i32 x.off) := row_cell HX3.out (j := 0) rfl
  have hc1 : w3.cell? ⟨bx, 1, none⟩ = some (.slice ao x.cs.length cap) := row_cell HX3.out (j := 1) rfl
  have hc2 : w3.cell? ⟨bx, 2, none⟩ = some (.string S) := row_cell HX3.out (j := 2) rfl
  go_wp2_with fail
  refine HMB.out.mono ?_; rintro e w4 ⟨hb, hcase⟩
  have HB4 := Lib.hid (below_step HB3.out hb)
  have HX4 : Hid (w4.heap[bx]? = some (.cells #[.int .i32 x.off, .slice ao x.cs.length cap, .string S] 25 (0, 0))) := Lib.hid ((hb.block _ (row_lt HX3.out)).trans HX3.out)
  clear hb hc0 hc1 hc2
  have HMY := Lib.hid (mayB_any x u ao cap S d w4 hK (Lib.hid (hN.out.below HB4.out)) (by have := HLL.out; omega) (by have := HLL.out; omega) HSS)
  obtain ⟨g, hgg⟩ : ∃ g, bmay u d = g := ⟨_, rfl⟩
  rw [hgg] at HMY hcase ⊢
  have HGG := Lib.hid hgg
  clear hgg
  have hc0 : w4.cell? ⟨bx, 0, none⟩ = some (.int .i32 x.off) := row_cell HX4.out (j := 0) rfl
  have hc1 : w4.cell? ⟨bx, 1, none⟩ = some (.slice ao x.cs.length cap) := row_cell HX4.out (j := 1) rfl
  have hc2 : w4.cell? ⟨bx, 2, none⟩ = some (.string S) := row_cell HX4.out (j := 2) rfl
  rcases hcase with ⟨rfl, rfl⟩ | ⟨rfl, v, rfl, hec⟩
  · obtain ⟨P, hP⟩ : ∃ P : ByteArray, (⟨(bput x u).toArray⟩ : ByteArray) = P := ⟨_, rfl⟩
    have HP := Lib.hid hP
    have HMD : Hid (bmay u 262144 = true) := Lib.hid (by
      have h := HGG.out
      unfold bmay at h ⊢
      rw [Bool.and_eq_true] at h
      rw [decide_eq_true (by omega), Bool.true_and]
      exact munkOk_enough (by have := HLL.out; omega) h.2)
    have HP13 := Lib.hid (fun w' hn => put13_any x u ao cap S w' hK hn (by have := HLL.out; omega) HSD (by have := HLL.out; omega))
    have HSZ := Lib.hid (fun w' hn => sizeB_any x u ao cap S P w' hK hn (by have := HLL.out; omega) (by have := HLL.out; omega) HSS HMD HP)
    rw [hP] at HP13 ⊢
    clear hP
    go_wp2_with fail
    refine HMY.out.mono ?_; rintro e w5 ⟨rfl, hb⟩
    have HB5 := Lib.hid (below_step HB4.out hb)
    have HX5 : Hid (w5.heap[bx]? = some (.cells #[.int .i32 x.off, .slice ao x.cs.length cap, .string S] 25 (0, 0))) := Lib.hid ((hb.block _ (row_lt HX4.out)).trans HX4.out)
    clear hb hc0 hc1 hc2
    go_wp2_with fail
    refine (first14 w5).mono ?_; rintro e w6 ⟨rfl, hb⟩
    have HB6 := Lib.hid (below_step HB5.out hb)
    have HX6 : Hid (w6.heap[bx]? = some (.cells #[.int .i32 x.off, .slice ao x.cs.length cap, .string S] 25 (0, 0))) := Lib.hid ((hb.block _ (row_lt HX5.out)).trans HX5.out)
    clear hb
    have hc0 : w6.cell? ⟨bx, 0, none⟩ = some (.int .i32 x.off) := row_cell HX6.out (j := 0) rfl
    have hc1 : w6.cell? ⟨bx, 1, none⟩ = some (.slice ao x.cs.length cap) := row_cell HX6.out (j := 1) rfl
    have hc2 : w6.cell? ⟨bx, 2, none⟩ = some (.string S) := row_cell HX6.out (j := 2) rfl
    go_wp2_with fail
    refine (HP13.out w6 (Lib.hid (hN.out.below HB6.out))).mono ?_; rintro e w7 ⟨rfl, hb⟩
    have HB7 := Lib.hid (below_step HB6.out hb)
    have HX7 : Hid (w7.heap[bx]? = some (.cells #[.int .i32 x.off, .slice ao x.cs.length cap, .string S] 25 (0, 0))) := Lib.hid ((hb.block _ (row_lt HX6.out)).trans HX6.out)
    clear hb hc0 hc1 hc2
    have hc0 : w7.cell? ⟨bx, 0, none⟩ = some (.int .i32 x.off) := row_cell HX7.out (j := 0) rfl
    have hc1 : w7.cell? ⟨bx, 1, none⟩ = some (.slice ao x.cs.length cap) := row_cell HX7.out (j := 1) rfl
    have hc2 : w7.cell? ⟨bx, 2, none⟩ = some (.string S) := row_cell HX7.out (j := 2) rfl
    go_wp2_with fail
    refine (HSZ.out w7 (Lib.hid (hN.out.below HB7.out))).mono ?_; rintro e w8 ⟨rfl, hb⟩
    have HB8 := Lib.hid (below_step HB7.out hb)
    clear hb hc0 hc1 hc2
    go_wp2_with fail
    go_ret
    exact ⟨rfl, HB8.out⟩
  · obtain ⟨T, y, rfl⟩ := hec.iface
    have HEC := Lib.hid hec
    clear hec
    go_wp2_with fail
    refine HMY.out.mono ?_; rintro e w5 ⟨rfl, hb⟩
    have HEC5 := Lib.hid (HEC.out.below hb)
    have HB5 := Lib.hid (below_step HB4.out hb)
    have HX5 : Hid (w5.heap[bx]? = some (.cells #[.int .i32 x.off, .slice ao x.cs.length cap, .string S] 25 (0, 0))) := Lib.hid ((hb.block _ (row_lt HX4.out)).trans HX4.out)
    clear hb hc0 hc1 hc2
    go_wp2_with fail
    refine (first14 w5).mono ?_; rintro e w6 ⟨rfl, hb⟩
    have HEC6 := Lib.hid (HEC5.out.below hb)
    have HB6 := Lib.hid (below_step HB5.out hb)
    clear hb
    go_wp2_with fail
    obtain ⟨ws, he⟩ := HEC6.out
    refine (code_any ws _ _ w6 he (root_code _) (HG.out.below HB6.out)).mono ?_; rintro e w7 ⟨rfl, hb⟩
    rw [show codeOf (codeV ((8 : Nat) : Int)) = 8 from rfl]
    have HB7 := Lib.hid (below_step HB6.out hb)
    clear hb he
    go_wp2_with fail
    go_ret
    exact ⟨rfl, HB7.out⟩
end Go.Proofs.YtdokbooggbiciaaGreatDoor
