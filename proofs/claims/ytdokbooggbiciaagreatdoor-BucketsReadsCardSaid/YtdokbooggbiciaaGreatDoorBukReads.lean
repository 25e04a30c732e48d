/-
  hyglaw14.BucketsReads.
-/
import Derived.Test.YtdokbooggbiciaaGreatDoorRefBuk
import Derived.Test.YtdokbooggbiciaaGreatDoorBukRef
import Derived.Test.YtdokbooggbiciaaGreatDoorDoor
namespace Go.Proofs.YtdokbooggbiciaaGreatDoor
open Go.RowKit

theorem mfold_code {σ : Type} {tk : Rec → Bool} {step : σ → Rec → Except Nat σ} {Q : Nat → Prop} (hs : ∀ st r c, step st r = .error c → Q c) : ∀ (rs : List Rec) (st : σ) (c : Nat), mfold tk step st rs = .error c → Q c
  | [], st, c, h => by cases h
  | r :: rs, st, c, h => by
    rw [mfold] at h
    split at h
    · cases hr : step st r with
      | error c' =>
        rw [hr] at h
        simp only [Except.error.injEq] at h
        subst h
        exact hs _ _ _ hr
      | ok st' =>
        rw [hr] at h
        exact mfold_code hs rs st' c h
    · exact mfold_code hs rs st c h
theorem bread_code {l : List UInt8} {d : Int} {c : Nat} (h : bread l d = .error c) : CodeOk c := by
  unfold bread mread at h
  split at h
  · simp only [Except.error.injEq] at h
    exact .inr (.inr (.inr h.symm))
  · cases hw : wall l d with
    | error c' =>
      rw [hw] at h
      simp only [Except.error.injEq] at h
      subst h
      exact wal_code _ hw
    | ok rs =>
      rw [hw] at h
      dsimp only at h
      cases hm : mfold btk bstep ⟨0, []⟩ rs with
      | error c' =>
        rw [hm] at h
        simp only [Except.error.injEq] at h
        subst h
        refine mfold_code (Q := CodeOk) (fun st r c hs => ?_) rs _ _ hm
        unfold bstep at hs
        split at hs
        · cases hs
        · cases hp : pstep st.cs r with
          | error c' =>
            rw [hp] at hs
            simp only [Except.error.injEq] at hs
            subst hs
            unfold pstep at hp
            split at hp
            · cases hp
            · cases hv : wvars r.s with
              | error c' =>
                rw [hv] at hp
                simp only [Except.error.injEq] at hp
                subst hp
                rcases wvs_code _ hv with h | h
                · exact .inl h
                · exact .inr (.inr (.inl h))
              | ok ns => rw [hv] at hp; cases hp
          | ok ys => rw [hp] at hs; cases hs
      | ok x => rw [hm] at h; cases h
set_option maxRecDepth 1000000 in
set_option maxHeartbeats 8000000 in
theorem reads_walk (s : ByteArray) (d : Int) (w : World) (hs : s.size ≤ 6000) (hd : -9223372036854775808 ≤ d ∧ d ≤ 9223372036854775807) (hg : Glob w) :
    Calls Tryz.prog 3 #[.string s, .int .i64 d] w fun e w' => e = .returned (.bool true) ∧ Below w.heap.size w w' := by
  have HG := Lib.hid hg
  have HUB := Lib.hid (fun w' => ub_any s d w' (by omega))
  have HRB := Lib.hid (fun w' => rb_any s d w' (by omega) hd.2)
  have HSS := Lib.hid hs
  have d0 : decide ((6000 : Int) < (s.size : Int)) = false := decide_eq_false (by omega)
  clear hg hd
  go_enter Tryz.func3, Tryz.ntmps3
  go_wp2_with fail
  refine (first14 w).mono ?_; rintro e w1 ⟨rfl, hb1⟩
  have HB1 := Lib.hid hb1
  clear hb1
  go_wp2_with fail
  refine (HUB.out w1).mono ?_; intro e w2 hpost
  obtain ⟨hb2, hcase⟩ := hpost
  have HB2 := Lib.hid (below_step HB1.out hb2)
  cases hbr : bread s.data.toList d with
  | error c =>
    rw [hbr] at hcase
    obtain ⟨v, q, rfl, hq, hew⟩ := hcase
    obtain ⟨T, y, rfl⟩ := hew.iface
    have HEW := Lib.hid hew
    have HQ := Lib.hid hq
    have HC := Lib.hid (bread_code hbr)
    have HBR := Lib.hid hbr
    have HEQ := Lib.hid (fun w' => refB_any ⟨0, []⟩ ⟨0, []⟩ [] [] none none 0 0 w' (Lib.hid (fun h => absurd rfl h)) (Lib.hid (fun h => absurd rfl h)) (by simp) (r := true) (Lib.hid (by simp)))
    clear hew hq hbr hb2
    unfold bukV
    rw [show (⟨([] : List UInt8).toArray⟩ : ByteArray) = ⟨#[]⟩ from rfl, show ((⟨0, []⟩ : Bk).off) = 0 from rfl]
    go_wp2_with fail
    obtain ⟨bx, hbx⟩ : ∃ bx, w2.heap.size = bx := ⟨_, rfl⟩
    obtain ⟨W3, hW3⟩ : ∃ W, w2.alloc (.cells #[.int .i32 0, .slice none 0 0, .string ⟨#[]⟩] 25) = W := ⟨_, rfl⟩
    have HB3 : Hid (Below w.heap.size w W3) := Lib.hid (by rw [← hW3]; exact below_step HB2.out (below_new _ _))
    have HB23 : Hid (Below w2.heap.size w2 W3) := Lib.hid (by rw [← hW3]; exact below_new _ _)
    have HX3 : Hid (W3.heap[bx]? = some (.cells #[.int .i32 0, .slice none 0 0, .string ⟨#[]⟩] 25 (0, 0))) := Lib.hid (by rw [← hW3, ← hbx]; exact heap_alloc_new _ _)
    rw [hW3, hbx]
    clear hW3 hbx
    refine (HRB.out W3).mono ?_; intro e w4 hpost
    obtain ⟨hb4, hcase⟩ := hpost
    rw [HBR.out] at hcase
    have HB4 := Lib.hid (below_step HB3.out hb4)
    have HB24 := Lib.hid (below_step HB23.out hb4)
    have HX4 : Hid (w4.heap[bx]? = some (.cells #[.int .i32 0, .slice none 0 0, .string ⟨#[]⟩] 25 (0, 0))) := Lib.hid ((hb4.block _ (row_lt HX3.out)).trans HX3.out)
    subst hcase
    unfold bukV
    rw [show (⟨([] : List UInt8).toArray⟩ : ByteArray) = ⟨#[]⟩ from rfl, show ((⟨0, []⟩ : Bk).off) = 0 from rfl]
    clear hb4
    go_wp2_with fail
    obtain ⟨bY, hbY⟩ : ∃ bx, w4.heap.size = bx := ⟨_, rfl⟩
    obtain ⟨W5, hW5⟩ : ∃ W, w4.alloc (.cells #[.int .i32 0, .slice none 0 0, .string ⟨#[]⟩] 25) = W := ⟨_, rfl⟩
    have HB45 : Hid (Below w4.heap.size w4 W5) := Lib.hid (by rw [← hW5]; exact below_new _ _)
    have HD5 : Hid (B2 bx bY #[.int .i32 0, .slice none 0 0, .string ⟨#[]⟩] #[.int .i32 0, .slice none 0 0, .string ⟨#[]⟩] W5) := Lib.hid (by rw [← hW5, ← hbY]; exact ⟨(Below.heap_alloc _ _ _ (row_lt HX4.out)).trans HX4.out, heap_alloc_new _ _⟩)
    rw [hW5, hbY]
    clear hW5 hbY
    refine (first14 W5).mono ?_; rintro e w6 ⟨rfl, hb6⟩
    have HB46 := Lib.hid (below_step HB45.out hb6)
    have HD6 := Lib.hid (HD5.out.below hb6)
    clear hb6
    go_wp2_with fail
    have HG6 := Lib.hid (HG.out.below (below_step HB4.out HB46.out))
    have HEW6 := Lib.hid (HEW.out.below (below_step HB24.out HB46.out))
    obtain ⟨ws, he⟩ := HEW6.out
    refine (wrong8_any q s.size c ws _ w6 he HG6.out HQ.out (.inl HC.out)).mono ?_; rintro e w8 ⟨rfl, hb8⟩
    have HB48 := Lib.hid (below_step HB46.out hb8)
    have HD8 := Lib.hid (HD6.out.below hb8)
    clear hb8 he
    have hx0 : w8.cell? ⟨bx, 0, none⟩ = some (.int .i32 0) := row_cell HD8.out.1 (j := 0) rfl
    have hx1 : w8.cell? ⟨bx, 1, none⟩ = some (.slice none 0 0) := row_cell HD8.out.1 (j := 1) rfl
    have hx2 : w8.cell? ⟨bx, 2, none⟩ = some (.string ⟨#[]⟩) := row_cell HD8.out.1 (j := 2) rfl
    have hy0 : w8.cell? ⟨bY, 0, none⟩ = some (.int .i32 0) := row_cell HD8.out.2 (j := 0) rfl
    have hy1 : w8.cell? ⟨bY, 1, none⟩ = some (.slice none 0 0) := row_cell HD8.out.2 (j := 1) rfl
    have hy2 : w8.cell? ⟨bY, 2, none⟩ = some (.string ⟨#[]⟩) := row_cell HD8.out.2 (j := 2) rfl
    go_wp2_with fail
    refine (HEQ.out w8).mono ?_; rintro e w7 ⟨rfl, hb7⟩
    have HB47 := Lib.hid (below_step HB48.out hb7)
    clear hb7
    go_wp2_with fail
    go_ret
    exact ⟨rfl, below_step HB4.out HB47.out⟩
  | ok xu =>
    obtain ⟨x, u⟩ := xu
    rw [hbr] at hcase
    obtain ⟨v, rfl, hown⟩ := hcase
    obtain ⟨ao, cap, rfl⟩ := own_slice hown
    have HN2 := Lib.hid (nats_of_own hown)
    have HBR := Lib.hid hbr
    have HXL : Hid (x.cs.length ≤ 1000000) := Lib.hid (by have := (bread_cs hbr); have h5 : s.data.toList.length = s.size := (by simp); have := HSS.out; omega)
    have HEQ := Lib.hid (fun bo bcap w' ha hb => refB_any x x u u ao bo cap bcap w' ha hb (by have := HXL.out; omega) (r := true) (Lib.hid (by simp)))
    unfold bukV
    obtain ⟨S, hS⟩ : ∃ S : ByteArray, (⟨u.toArray⟩ : ByteArray) = S := ⟨_, rfl⟩
    rw [hS] at HEQ ⊢
    have HS := Lib.hid hS
    clear hown hbr hb2 hS
    go_wp2_with fail
    obtain ⟨bx, hbx⟩ : ∃ bx, w2.heap.size = bx := ⟨_, rfl⟩
    obtain ⟨W3, hW3⟩ : ∃ W, w2.alloc (.cells #[.int .i32 x.off, .slice ao x.cs.length cap, .string S] 25) = W := ⟨_, rfl⟩
    have HB3 : Hid (Below w.heap.size w W3) := Lib.hid (by rw [← hW3]; exact below_step HB2.out (below_new _ _))
    have HB23 : Hid (Below w2.heap.size w2 W3) := Lib.hid (by rw [← hW3]; exact below_new _ _)
    have HX3 : Hid (W3.heap[bx]? = some (.cells #[.int .i32 x.off, .slice ao x.cs.length cap, .string S] 25 (0, 0))) := Lib.hid (by rw [← hW3, ← hbx]; exact heap_alloc_new _ _)
    rw [hW3, hbx]
    clear hW3 hbx
    refine (HRB.out W3).mono ?_; intro e w4 hpost
    obtain ⟨hb4, hcase⟩ := hpost
    rw [HBR.out] at hcase
    have HB4 := Lib.hid (below_step HB3.out hb4)
    have HB24 := Lib.hid (below_step HB23.out hb4)
    have HX4 : Hid (w4.heap[bx]? = some (.cells #[.int .i32 x.off, .slice ao x.cs.length cap, .string S] 25 (0, 0))) := Lib.hid ((hb4.block _ (row_lt HX3.out)).trans HX3.out)
    obtain ⟨v', rfl, hown'⟩ := hcase
    obtain ⟨bo, bcap, rfl⟩ := own_slice hown'
    have HM4 := Lib.hid (nats_of_own hown')
    have HN4 := Lib.hid (HN2.out.below HB24.out)
    unfold bukV
    rw [HS.out]
    clear hown' hb4
    go_wp2_with fail
    obtain ⟨bY, hbY⟩ : ∃ bx, w4.heap.size = bx := ⟨_, rfl⟩
    obtain ⟨W5, hW5⟩ : ∃ W, w4.alloc (.cells #[.int .i32 x.off, .slice bo x.cs.length bcap, .string S] 25) = W := ⟨_, rfl⟩
    have HB45 : Hid (Below w4.heap.size w4 W5) := Lib.hid (by rw [← hW5]; exact below_new _ _)
    have HD5 : Hid (B2 bx bY #[.int .i32 x.off, .slice ao x.cs.length cap, .string S] #[.int .i32 x.off, .slice bo x.cs.length bcap, .string S] W5) := Lib.hid (by rw [← hW5, ← hbY]; exact ⟨(Below.heap_alloc _ _ _ (row_lt HX4.out)).trans HX4.out, heap_alloc_new _ _⟩)
    rw [hW5, hbY]
    clear hW5 hbY
    refine (first14 W5).mono ?_; rintro e w6 ⟨rfl, hb6⟩
    have HB46 := Lib.hid (below_step HB45.out hb6)
    have HD6 := Lib.hid (HD5.out.below hb6)
    clear hb6
    have hx0 : w6.cell? ⟨bx, 0, none⟩ = some (.int .i32 x.off) := row_cell HD6.out.1 (j := 0) rfl
    have hx1 : w6.cell? ⟨bx, 1, none⟩ = some (.slice ao x.cs.length cap) := row_cell HD6.out.1 (j := 1) rfl
    have hx2 : w6.cell? ⟨bx, 2, none⟩ = some (.string S) := row_cell HD6.out.1 (j := 2) rfl
    have hy0 : w6.cell? ⟨bY, 0, none⟩ = some (.int .i32 x.off) := row_cell HD6.out.2 (j := 0) rfl
    have hy1 : w6.cell? ⟨bY, 1, none⟩ = some (.slice bo x.cs.length bcap) := row_cell HD6.out.2 (j := 1) rfl
    have hy2 : w6.cell? ⟨bY, 2, none⟩ = some (.string S) := row_cell HD6.out.2 (j := 2) rfl
    go_wp2_with fail
    refine (HEQ.out bo bcap w6 (Lib.hid (HN4.out.below HB46.out)) (Lib.hid (HM4.out.below HB46.out))).mono ?_; rintro e w7 ⟨rfl, hb7⟩
    have HB47 := Lib.hid (below_step HB46.out hb7)
    clear hb7
    go_wp2_with fail
    go_ret
    exact ⟨rfl, below_step HB4.out HB47.out⟩
set_option maxRecDepth 1000000 in
set_option maxHeartbeats 8000000 in
theorem reads_any14 (s : ByteArray) (d : Int) (w : World) (hd : -9223372036854775808 ≤ d ∧ d ≤ 9223372036854775807) (hg : Glob w) :
    Calls Tryz.prog 3 #[.string s, .int .i64 d] w fun e w' => e = .returned (.bool true) ∧ Below w.heap.size w w' := by
  by_cases hs : s.size ≤ 6000
  · exact reads_walk s d w hs hd hg
  · have d0 : decide ((6000 : Int) < (s.size : Int)) = true := decide_eq_true (by omega)
    clear hs hd hg
    go_enter Tryz.func3, Tryz.ntmps3
    go_wp2_with fail
    refine (first14 w).mono ?_; rintro e w1 ⟨rfl, hb1⟩
    have HB1 := Lib.hid hb1
    clear hb1
    go_wp2_with fail
    refine (first14 w1).mono ?_; rintro e w2 ⟨rfl, hb2⟩
    have HB2 := Lib.hid (below_step HB1.out hb2)
    clear hb2
    go_wp2_with fail
    go_ret
    exact ⟨rfl, HB2.out⟩
end Go.Proofs.YtdokbooggbiciaaGreatDoor
