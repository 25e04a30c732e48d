/-
  hygref.Nums, hygref.Buckets.
-/
import Derived.Test.YtdokbooggbiciaaBukBack
namespace Go.Proofs.Ytdokbooggbiciaa
open Go.RowKit

set_option maxRecDepth 1000000 in
set_option maxHeartbeats 4000000 in
theorem nums_any (ao bo : Option Addr) (cap bcap : Nat) (a b : List Nat) (w : World) (ha : Hid (Nats .u64 w ao a)) (hb : Hid (Nats .u64 w bo b)) (hla : a.length ≤ 1000000000) {r : Bool} (hr : Hid (decide (a = b) = r)) :
    Calls Try.prog 20 #[.slice ao a.length cap, .slice bo b.length bcap] w fun e w' => e = .returned (.bool r) ∧ Below w.heap.size w w' := by
  by_cases hne : a.length = b.length
  case neg =>
    have hr2 : r = false := by rw [← hr.out]; exact decide_eq_false (fun h => hne (by rw [h]))
    subst hr2
    have d1 : ((a.length : Int) == (b.length : Int)) = false := by rw [beq_eq_false_iff_ne]; omega
    have d2 : ((a.length : Int) != (b.length : Int)) = true := by rw [bne_iff_ne]; omega
    clear hr
    go_enter Try.func20, Try.ntmps20
    go_wp2_with fail
    go_ret
    exact ⟨rfl, Below.refl _ _⟩
  case pos =>
  obtain ⟨n, hn⟩ : ∃ n, a.length = n := ⟨_, rfl⟩
  have hnb : b.length = n := by omega
  have HA0 := Lib.hid hn
  have HB0 := Lib.hid hnb
  rw [hn, hnb]
  have hn9 : n ≤ 1000000000 := by omega
  clear hne hn hnb hla
  go_enter Try.func20, Try.ntmps20
  go_wp2_with fail
  go_loopg [5] n (fun k i wr => ∃ j : Nat, j + k = n ∧ i = .int .i64 j ∧ Hid (∀ m (h1 : m < a.length) (h2 : m < b.length), m < j → a[m] = b[m]) ∧ Below w.heap.size w wr)
  case atStart => exact ⟨0, by omega, rfl, Lib.hid (fun m _ _ h => by omega), Below.refl _ _⟩
  case round =>
    obtain ⟨j, hj, rfl, HM, hbr⟩ := hrel
    have HB := Lib.hid hbr
    have HJ := Lib.hid hj
    have HA := Lib.hid (ha.out.below hbr)
    have HBB := Lib.hid (hb.out.below hbr)
    have hjl : j ≤ n := by omega
    clear hj hbr
    by_cases hlt : j < n
    · obtain ⟨g, off, x, HX, rfl, hbl, hc⟩ := HA.out.at (i := j) (by rw [HA0.out]; exact hlt)
      obtain ⟨g2, off2, y, HY, rfl, hbl2, hc2⟩ := HBB.out.at (i := j) (by rw [HB0.out]; exact hlt)
      have hI : Below wr.heap.size wr wr.drew := (Below.refl _ _).drew
      have hne : Nonempty { w' : World // Below wr.heap.size wr w' } := ⟨⟨_, hI⟩⟩
      have hc3 : ∀ t : { w' : World // Below wr.heap.size wr w' }, t.1.cell? ⟨g, off + j, none⟩ = some (.int .u64 (x : Int)) := fun t => (t.2.cell (p := ⟨g, off + j, none⟩) hbl).trans hc
      have hc4 : ∀ t : { w' : World // Below wr.heap.size wr w' }, t.1.cell? ⟨g2, off2 + j, none⟩ = some (.int .u64 (y : Int)) := fun t => (t.2.cell (p := ⟨g2, off2 + j, none⟩) hbl2).trans hc2
      by_cases hxy : x = y
      · have d1 : ((x : Int) == (y : Int)) = true := by rw [beq_iff_eq]; omega
        have HM2 : Hid (∀ m (h1 : m < a.length) (h2 : m < b.length), m < j + 1 → a[m] = b[m]) := Lib.hid (fun m h1 h2 hm => by
          by_cases hmj : m = j
          · subst hmj; rw [← HX.out, ← HY.out, hxy]
          · exact HM.out m h1 h2 (by omega))
        subst hxy
        go_wp2_with fail
        refine wp_region_seq (S := fun w' => Below wr.heap.size wr w') [(0, true), (1, true), (2, true), (3, true), (4, true), (5, true), (6, true), (7, true), (8, true)] (by kernel_rfl) (by kernel_rfl) (by kernel_rfl) (by kernel_rfl) hI ?_
        iterate 9 (refine seq_take _ rfl (fun K hK => ?_); go_simp; refine hK _ ?_; clear hK K)
        refine seq_done ?_
        clear hc3 hc4
        go_wp2_with fail
        have hj := HJ.out
        go_roundg (gk - 1)
        case measure => omega
        case rel => exact ⟨j + 1, by omega, by simp, HM2, HB.out.trans (hI.mono HB.out.size)⟩
      · have hr2 : r = false := by
          rw [← hr.out]
          refine decide_eq_false (fun h => ?_)
          subst h
          exact hxy (by rw [HX.out, HY.out])
        subst hr2
        have d1 : ((x : Int) == (y : Int)) = false := by rw [beq_eq_false_iff_ne]; omega
        have d2 : ((x : Int) != (y : Int)) = true := by rw [bne, d1]; rfl
        clear hxy
        go_wp2_with fail
        refine wp_region_seq (S := fun w' => Below wr.heap.size wr w') [(0, true), (1, true), (2, true), (3, true), (4, true), (5, true), (6, true), (7, true), (8, true)] (by kernel_rfl) (by kernel_rfl) (by kernel_rfl) (by kernel_rfl) hI ?_
        iterate 9 (refine seq_take _ rfl (fun K hK => ?_); go_simp; refine hK _ ?_; clear hK K)
        refine seq_done ?_
        clear hc3 hc4
        go_wp2_with fail
        go_ret
        exact ⟨rfl, HB.out.trans (hI.mono HB.out.size)⟩
    · have hjn : j = n := by have := HJ.out; omega
      have hr2 : r = true := by
        rw [← hr.out]
        exact decide_eq_true (List.ext_getElem (by rw [HA0.out, HB0.out]) (fun m h1 h2 => HM.out m h1 h2 (by rw [HA0.out] at h1; omega)))
      subst hr2
      go_wp2_with fail
      go_ret
      exact ⟨rfl, HB.out⟩
set_option maxRecDepth 1000000 in
set_option maxHeartbeats 4000000 in
theorem refB_any (x y : Bk) (u v : List UInt8) (ao bo : Option Addr) (cap bcap : Nat) (w : World) (ha : Hid (Nats .u64 w ao x.cs)) (hb : Hid (Nats .u64 w bo y.cs)) (hla : x.cs.length ≤ 1000000000) {r : Bool} (hr : Hid (decide (x.off = y.off ∧ u = v ∧ x.cs = y.cs) = r)) :
    Calls Try.prog 11 #[.agg #[.int .i32 x.off, .slice ao x.cs.length cap, .string ⟨u.toArray⟩], .agg #[.int .i32 y.off, .slice bo y.cs.length bcap, .string ⟨v.toArray⟩]] w fun e w' => e = .returned (.bool r) ∧ Below w.heap.size w w' := by
  obtain ⟨X, hX⟩ : ∃ X : ByteArray, (⟨u.toArray⟩ : ByteArray) = X := ⟨_, rfl⟩
  obtain ⟨Y, hY⟩ : ∃ X : ByteArray, (⟨v.toArray⟩ : ByteArray) = X := ⟨_, rfl⟩
  have hXY : X = Y ↔ u = v := by rw [← hX, ← hY]; simp
  rw [hX, hY]
  obtain ⟨W0, hW0⟩ : ∃ W, (w.alloc (.cells #[.int .i32 x.off, .slice ao x.cs.length cap, .string X] 24)).alloc (.cells #[.int .i32 y.off, .slice bo y.cs.length bcap, .string Y] 24) = W := ⟨_, rfl⟩
  have HB0 : Hid (Below w.heap.size w W0) := Lib.hid (by rw [← hW0]; exact below_step (below_new _ _) (below_new _ _))
  have HR0 : Hid (W0.heap[w.heap.size]? = some (.cells #[.int .i32 x.off, .slice ao x.cs.length cap, .string X] 24 (0, 0))) := Lib.hid (by rw [← hW0]; exact (Below.heap_alloc _ _ _ (row_lt (heap_alloc_new w _))).trans (heap_alloc_new w _))
  have HS0 : Hid (W0.heap[(w.alloc (.cells #[.int .i32 x.off, .slice ao x.cs.length cap, .string X] 24)).heap.size]? = some (.cells #[.int .i32 y.off, .slice bo y.cs.length bcap, .string Y] 24 (0, 0))) := Lib.hid (by rw [← hW0]; exact heap_alloc_new _ _)
  have HW0 := Lib.hid hW0
  have HNA := Lib.hid (ha.out.below HB0.out)
  have HNB := Lib.hid (hb.out.below HB0.out)
  obtain ⟨r1, hr1⟩ : ∃ r1, decide (x.cs = y.cs) = r1 := ⟨_, rfl⟩
  have HP := Lib.hid (nums_any ao bo cap bcap x.cs y.cs W0 HNA HNB hla (Lib.hid hr1))
  clear hX hY hW0 ha hb
  by_cases ho : x.off = y.off
  case neg =>
    have hr2 : r = false := by rw [← hr.out]; exact decide_eq_false (fun h => ho h.1)
    subst hr2
    have d1 : (x.off == y.off) = false := by rw [beq_eq_false_iff_ne]; exact ho
    clear hr ho hXY hr1
    go_enter Try.func11, Try.ntmps11
    go_wp2_with fail
    go_ret
    rw [HW0.out]
    exact ⟨rfl, HB0.out⟩
  case pos =>
    have d1 : (x.off == y.off) = true := by rw [beq_iff_eq]; exact ho
    have HRR : Hid ((r1 && decide (u = v)) = r) := Lib.hid (by
      rw [← hr.out, ← hr1, ← Bool.decide_and]
      exact decide_eq_decide.2 ⟨fun h => ⟨ho, h.2, h.1⟩, fun h => ⟨h.2.2, h.2.1⟩⟩)
    have HXY := Lib.hid hXY
    clear hr ho hr1 hXY
    go_enter Try.func11, Try.ntmps11
    go_wp2_with fail
    rw [HW0.out]
    refine HP.out.mono ?_; rintro e w1 ⟨rfl, hb1⟩
    have HB1 := Lib.hid (below_step HB0.out hb1)
    have hc0 := row_cell ((hb1.block _ (row_lt HR0.out)).trans HR0.out) (j := 2) rfl
    have hc1 := row_cell ((hb1.block _ (row_lt HS0.out)).trans HS0.out) (j := 2) rfl
    rw [show (w.alloc (.cells #[.int .i32 x.off, .slice ao x.cs.length cap, .string X] 24)).heap.size = w.heap.size + 1 from Array.size_push ..] at hc1
    clear hb1
    cases r1 with
    | false =>
      have hr2 : r = false := by rw [← HRR.out]; rfl
      subst hr2
      clear hc0 hc1
      go_wp2_with fail
      go_ret
      exact ⟨rfl, HB1.out⟩
    | true =>
      by_cases hu : u = v
      · have hr2 : r = true := by rw [← HRR.out]; simp [hu]
        subst hr2
        have d2 : (X.toList == Y.toList) = true := by rw [HXY.out.2 hu]; simp
        clear hu
        go_wp2_with fail
        go_ret
        exact ⟨rfl, HB1.out⟩
      · have hr2 : r = false := by rw [← HRR.out]; simp [hu]
        subst hr2
        have d2 : (X.toList == Y.toList) = false := by
          rw [beq_eq_false_iff_ne, ByteArray.toList_eq, ByteArray.toList_eq]
          intro h
          exact hu (HXY.out.1 (ByteArray.ext (Array.ext' h)))
        clear hu
        go_wp2_with fail
        go_ret
        exact ⟨rfl, HB1.out⟩
/-- two sides in memory -/
def B2 (a b : Nat) (A B : Array Value) (w : World) : Prop := w.heap[a]? = some (.cells A 24 (0, 0)) ∧ w.heap[b]? = some (.cells B 24 (0, 0))
theorem B2.below {a b : Nat} {A B : Array Value} {w w' : World} (h : B2 a b A B w) (hb : Below w.heap.size w w') : B2 a b A B w' :=
  ⟨(hb.block _ (row_lt h.1)).trans h.1, (hb.block _ (row_lt h.2)).trans h.2⟩
set_option maxRecDepth 1000000 in
set_option maxHeartbeats 8000000 in
theorem same_walk (x y : Bk) (u v : List UInt8) (ao bo : Option Addr) (cap bcap : Nat) (w : World) (hN : Hid (Nats .u64 w ao x.cs)) (hM : Hid (Nats .u64 w bo y.cs)) (hl : x.cs.length ≤ 9223372036854775807) (hu : u.length ≤ 9223372036854775807) (hl2 : y.cs.length ≤ 9223372036854775807) (hu2 : v.length ≤ 9223372036854775807) :
    Calls Try.prog 3 #[.agg #[.int .i32 x.off, .slice ao x.cs.length cap, .string ⟨u.toArray⟩], .agg #[.int .i32 y.off, .slice bo y.cs.length bcap, .string ⟨v.toArray⟩]] w fun e w' => e = .returned (.bool true) ∧ Below w.heap.size w w' := by
  have HROOM := Lib.hid (fun w' => roomB_any x u ao cap w' hl hu)
  have HROOM2 := Lib.hid (fun w' => roomB_any y v bo bcap w' hl2 hu2)
  obtain ⟨r1, hr1⟩ : ∃ r, decide (x.off = y.off ∧ u = v ∧ x.cs = y.cs) = r := ⟨_, rfl⟩
  have HC1 := Lib.hid (fun w' ha hb hle => sameB_any x y u v ao bo cap bcap w' ha hb hle (Lib.hid hr1))
  have HC2 := Lib.hid (fun w' ha hb hle => refB_any x y u v ao bo cap bcap w' ha hb hle (Lib.hid hr1))
  have HC3 := Lib.hid (fun w' ha hb hle => sameB_any x x u u ao ao cap cap w' ha hb hle (r := true) (Lib.hid (by simp)))
  obtain ⟨S, hS⟩ : ∃ S : ByteArray, (⟨u.toArray⟩ : ByteArray) = S := ⟨_, rfl⟩
  obtain ⟨T, hT⟩ : ∃ S : ByteArray, (⟨v.toArray⟩ : ByteArray) = S := ⟨_, rfl⟩
  rw [hS] at HROOM HC1 HC2 HC3 ⊢
  rw [hT] at HROOM2 HC1 HC2 ⊢
  clear hS hT hr1
  obtain ⟨W0, hW0⟩ : ∃ W2, (w.alloc (.cells #[.int .i32 x.off, .slice ao x.cs.length cap, .string S] 24)).alloc (.cells #[.int .i32 y.off, .slice bo y.cs.length bcap, .string T] 24) = W2 := ⟨_, rfl⟩
  obtain ⟨bx, hbx⟩ : ∃ bx, w.heap.size = bx := ⟨_, rfl⟩
  have HBW0 : Hid (Below w.heap.size w W0) := Lib.hid (by rw [← hW0]; exact below_step (below_new _ _) (below_new _ _))
  have HD0 : Hid (B2 bx (bx + 1) #[.int .i32 x.off, .slice ao x.cs.length cap, .string S] #[.int .i32 y.off, .slice bo y.cs.length bcap, .string T] W0) := Lib.hid (by rw [← hW0, ← hbx]; exact ⟨(Below.heap_alloc _ _ _ (row_lt (heap_alloc_new w _))).trans (heap_alloc_new w _), new_two_b _ _ _⟩)
  have HN0 : Hid (Nats .u64 W0 ao x.cs) := Lib.hid (hN.out.below HBW0.out)
  have HM0 : Hid (Nats .u64 W0 bo y.cs) := Lib.hid (hM.out.below HBW0.out)
  have HW0 := Lib.hid hW0
  have HBX := Lib.hid hbx
  clear hW0 hbx hN hM hl hu hl2 hu2
  go_enter Try.func3, Try.ntmps3
  go_wp2_with fail
  rw [HW0.out, HBX.out]
  refine (first14 W0).mono ?_; rintro e w1 ⟨rfl, hb1⟩
  have HB1 := Lib.hid (below_step HBW0.out hb1)
  have HN1 := Lib.hid (HN0.out.below hb1)
  have HM1 := Lib.hid (HM0.out.below hb1)
  have HD1 := Lib.hid (HD0.out.below hb1)
  have hc0 : w1.cell? ⟨bx, 0, none⟩ = some (.int .i32 x.off) := row_cell HD1.out.1 (j := 0) rfl
  have hc1 : w1.cell? ⟨bx, 1, none⟩ = some (.slice ao x.cs.length cap) := row_cell HD1.out.1 (j := 1) rfl
  have hc2 : w1.cell? ⟨bx, 2, none⟩ = some (.string S) := row_cell HD1.out.1 (j := 2) rfl
  clear hb1
  go_wp2_with fail
  refine (HROOM.out _).mono ?_; rintro e w2 ⟨hb2, r, rfl, hr⟩
  have HR := Lib.hid hr
  have HB2 := Lib.hid (below_step HB1.out hb2)
  have HN2 := Lib.hid (HN1.out.below hb2)
  have HM2 := Lib.hid (HM1.out.below hb2)
  have HD2 := Lib.hid (HD1.out.below hb2)
  clear hb2 hr hc0 hc1 hc2 HROOM
  by_cases h1 : r < 0
  · have d1 : decide (r < 0) = true := decide_eq_true h1
    clear h1
    go_wp2_with fail
    refine (first14 w2).mono ?_; rintro e w9 ⟨rfl, hb9⟩
    have HB9 := Lib.hid (below_step HB2.out hb9)
    clear hb9
    go_wp2_with fail
    go_ret
    exact ⟨rfl, HB9.out⟩
  have d1 : decide (r < 0) = false := decide_eq_false h1
  have HLL : Hid (x.cs.length ≤ 2000 ∧ u.length ≤ 12000) := Lib.hid (by rcases HR.out with h | h; exact absurd h h1; exact h)
  clear h1 HR
  have hd0 : w2.cell? ⟨bx + 1, 0, none⟩ = some (.int .i32 y.off) := row_cell HD2.out.2 (j := 0) rfl
  have hd1 : w2.cell? ⟨bx + 1, 1, none⟩ = some (.slice bo y.cs.length bcap) := row_cell HD2.out.2 (j := 1) rfl
  have hd2 : w2.cell? ⟨bx + 1, 2, none⟩ = some (.string T) := row_cell HD2.out.2 (j := 2) rfl
  go_wp2_with fail
  refine (HROOM2.out _).mono ?_; rintro e w3 ⟨hb3, r', rfl, hr⟩
  have HB3 := Lib.hid (below_step HB2.out hb3)
  have HN3 := Lib.hid (HN2.out.below hb3)
  have HM3 := Lib.hid (HM2.out.below hb3)
  have HD3 := Lib.hid (HD2.out.below hb3)
  clear hb3 hr hd0 hd1 hd2 HROOM2
  by_cases h2 : r' < 0
  · have d2 : decide (r' < 0) = true := decide_eq_true h2
    clear h2
    go_wp2_with fail
    refine (first14 w3).mono ?_; rintro e w9 ⟨rfl, hb9⟩
    have HB9 := Lib.hid (below_step HB3.out hb9)
    clear hb9
    go_wp2_with fail
    go_ret
    exact ⟨rfl, HB9.out⟩
  have d2 : decide (r' < 0) = false := decide_eq_false h2
  clear h2
  go_wp2_with fail
  obtain ⟨D, hD⟩ : ∃ D, w3.drew = D := ⟨_, rfl⟩
  have HBD : Hid (Below w.heap.size w D) := Lib.hid (by rw [← hD]; exact HB3.out.drew)
  have HDD : Hid (B2 bx (bx + 1) #[.int .i32 x.off, .slice ao x.cs.length cap, .string S] #[.int .i32 y.off, .slice bo y.cs.length bcap, .string T] D) := Lib.hid (by rw [← hD]; exact HD3.out)
  have HND : Hid (Nats .u64 D ao x.cs) := Lib.hid (HN3.out.below (by rw [← hD]; exact (Below.refl _ _).drew))
  have HMD : Hid (Nats .u64 D bo y.cs) := Lib.hid (HM3.out.below (by rw [← hD]; exact (Below.refl _ _).drew))
  have hne : Nonempty {w' // B2 bx (bx + 1) #[.int .i32 x.off, .slice ao x.cs.length cap, .string S] #[.int .i32 y.off, .slice bo y.cs.length bcap, .string T] w'} := ⟨⟨_, HDD.out⟩⟩
  refine wp_region_seq (S := B2 bx (bx + 1) #[.int .i32 x.off, .slice ao x.cs.length cap, .string S] #[.int .i32 y.off, .slice bo y.cs.length bcap, .string T]) [(0, false), (1, true), (2, true), (3, true), (5, true), (6, true), (4, false), (7, false), (8, true), (9, true), (10, true), (11, true), (12, true), (13, false), (14, true), (15, true)] (by kernel_rfl) (by kernel_rfl) (by kernel_rfl) (by kernel_rfl) (by rw [hD]; exact HDD.out) ?_
  rw [hD]
  clear hD
  refine seq_come _ rfl (fun K hK => ?_); go_simp
  refine (first14 D).mono ?_; rintro e w6 ⟨rfl, hb6⟩
  have HB6 := Lib.hid (below_step HBD.out hb6)
  have HD6 := Lib.hid (HDD.out.below hb6)
  have HN6 := Lib.hid (HND.out.below hb6)
  have HM6 := Lib.hid (HMD.out.below hb6)
  go_simp; refine hK.out _ _ HD6.out ?_; clear hK K hb6
  iterate 1 (refine seq_take _ rfl (fun K hK => ?_); go_simp; (first | refine hK _ ?_ | refine ⟨_, fun _ _ => rfl, hK _ ?_⟩ | (refine ⟨undef, by rw [if_neg (by simp [undef])], ?_⟩; refine hK _ ?_)); clear hK K)
  iterate 1 (refine seq_take _ rfl (fun K hK => ?_); go_simp; (refine ⟨.agg #[.int .i32 x.off, .slice ao x.cs.length cap, .string S], fun a ha => by (have e0 : a.cell? ⟨bx, 0, none⟩ = some (.int .i32 x.off) := row_cell ha.1 (j := 0) rfl); (have e1 : a.cell? ⟨bx, 1, none⟩ = some (.slice ao x.cs.length cap) := row_cell ha.1 (j := 1) rfl); (have e2 : a.cell? ⟨bx, 2, none⟩ = some (.string S) := row_cell ha.1 (j := 2) rfl); simp only [e0, e1, e2, Result.andThen], hK _ ?_⟩); clear hK K)
  iterate 1 (refine seq_take _ rfl (fun K hK => ?_); go_simp; (refine ⟨.agg #[.int .i32 y.off, .slice bo y.cs.length bcap, .string T], fun a ha => by (have e0 : a.cell? ⟨(bx + 1), 0, none⟩ = some (.int .i32 y.off) := row_cell ha.2 (j := 0) rfl); (have e1 : a.cell? ⟨(bx + 1), 1, none⟩ = some (.slice bo y.cs.length bcap) := row_cell ha.2 (j := 1) rfl); (have e2 : a.cell? ⟨(bx + 1), 2, none⟩ = some (.string T) := row_cell ha.2 (j := 2) rfl); simp only [e0, e1, e2, Result.andThen], hK _ ?_⟩); clear hK K)
  iterate 1 (refine seq_take _ rfl (fun K hK => ?_); go_simp; (refine ⟨.agg #[.int .i32 x.off, .slice ao x.cs.length cap, .string S], fun a ha => by (have e0 : a.cell? ⟨bx, 0, none⟩ = some (.int .i32 x.off) := row_cell ha.1 (j := 0) rfl); (have e1 : a.cell? ⟨bx, 1, none⟩ = some (.slice ao x.cs.length cap) := row_cell ha.1 (j := 1) rfl); (have e2 : a.cell? ⟨bx, 2, none⟩ = some (.string S) := row_cell ha.1 (j := 2) rfl); simp only [e0, e1, e2, Result.andThen], hK _ ?_⟩); clear hK K)
  iterate 1 (refine seq_take _ rfl (fun K hK => ?_); go_simp; (refine ⟨.agg #[.int .i32 y.off, .slice bo y.cs.length bcap, .string T], fun a ha => by (have e0 : a.cell? ⟨(bx + 1), 0, none⟩ = some (.int .i32 y.off) := row_cell ha.2 (j := 0) rfl); (have e1 : a.cell? ⟨(bx + 1), 1, none⟩ = some (.slice bo y.cs.length bcap) := row_cell ha.2 (j := 1) rfl); (have e2 : a.cell? ⟨(bx + 1), 2, none⟩ = some (.string T) := row_cell ha.2 (j := 2) rfl); simp only [e0, e1, e2, Result.andThen], hK _ ?_⟩); clear hK K)
  refine seq_come _ rfl (fun K hK => ?_); go_simp
  refine (HC1.out w6 HN6 HM6 (by have := HLL.out; omega)).mono ?_; rintro e w7 ⟨rfl, hb7⟩
  have HB7 := Lib.hid (below_step HB6.out hb7)
  have HD7 := Lib.hid (HD6.out.below hb7)
  have HN7 := Lib.hid (HN6.out.below hb7)
  have HM7 := Lib.hid (HM6.out.below hb7)
  go_simp; refine hK.out _ _ HD7.out ?_; clear hK K hb7
  refine seq_come _ rfl (fun K hK => ?_); go_simp
  refine (HC2.out w7 HN7 HM7 (by have := HLL.out; omega)).mono ?_; rintro e w8 ⟨rfl, hb8⟩
  have HB8 := Lib.hid (below_step HB7.out hb8)
  have HD8 := Lib.hid (HD7.out.below hb8)
  have HN8 := Lib.hid (HN7.out.below hb8)
  go_simp; refine hK.out _ _ HD8.out ?_; clear hK K hb8
  have e1 : (r1 == r1) = true := by simp
  iterate 3 (refine seq_take _ rfl (fun K hK => ?_); go_simp; (first | refine hK _ ?_ | refine ⟨_, fun _ _ => rfl, hK _ ?_⟩ | (refine ⟨undef, by rw [if_neg (by simp [undef])], ?_⟩; refine hK _ ?_)); clear hK K)
  iterate 1 (refine seq_take _ rfl (fun K hK => ?_); go_simp; (refine ⟨.agg #[.int .i32 x.off, .slice ao x.cs.length cap, .string S], fun a ha => by (have e0 : a.cell? ⟨bx, 0, none⟩ = some (.int .i32 x.off) := row_cell ha.1 (j := 0) rfl); (have e1 : a.cell? ⟨bx, 1, none⟩ = some (.slice ao x.cs.length cap) := row_cell ha.1 (j := 1) rfl); (have e2 : a.cell? ⟨bx, 2, none⟩ = some (.string S) := row_cell ha.1 (j := 2) rfl); simp only [e0, e1, e2, Result.andThen], hK _ ?_⟩); clear hK K)
  iterate 1 (refine seq_take _ rfl (fun K hK => ?_); go_simp; (refine ⟨.agg #[.int .i32 x.off, .slice ao x.cs.length cap, .string S], fun a ha => by (have e0 : a.cell? ⟨bx, 0, none⟩ = some (.int .i32 x.off) := row_cell ha.1 (j := 0) rfl); (have e1 : a.cell? ⟨bx, 1, none⟩ = some (.slice ao x.cs.length cap) := row_cell ha.1 (j := 1) rfl); (have e2 : a.cell? ⟨bx, 2, none⟩ = some (.string S) := row_cell ha.1 (j := 2) rfl); simp only [e0, e1, e2, Result.andThen], hK _ ?_⟩); clear hK K)
  refine seq_come _ rfl (fun K hK => ?_); go_simp
  refine (HC3.out w8 HN8 HN8 (by have := HLL.out; omega)).mono ?_; rintro e w9 ⟨rfl, hb9⟩
  have HB9 := Lib.hid (below_step HB8.out hb9)
  have HD9 := Lib.hid (HD8.out.below hb9)
  go_simp; refine hK.out _ _ HD9.out ?_; clear hK K hb9
  iterate 2 (refine seq_take _ rfl (fun K hK => ?_); go_simp; (first | refine hK _ ?_ | refine ⟨_, fun _ _ => rfl, hK _ ?_⟩ | (refine ⟨undef, by rw [if_neg (by simp [undef])], ?_⟩; refine hK _ ?_)); clear hK K)
  refine seq_done ?_
  go_wp2_with fail
  go_ret
  exact ⟨rfl, HB9.out⟩
end Go.Proofs.Ytdokbooggbiciaa
