/-
  hyglaw5.BitsReads: for every text and every list of counts the law returns true.
-/
import Derived.Test.YtbhppchdoalahaaDoorFirst5
import Derived.Test.YtbhppchdoalahaaDoorBitsRef
import Derived.Test.YtbhppchdoalahaaDoorCodeIs
import Derived.Test.YtbhppchdoalahaaDoorInts
import Derived.Test.YtbhppchdoalahaaDoorOrd
namespace Go.Proofs.YtbhppchdoalahaaDoor
open Go.RowKit

/-- both Readers stand at i; the code of v is c -/
def BI (r x : Nat) (s : ByteArray) (i : Nat) (w0 : World) (v : Value) (c : Int) (w : World) : Prop :=
  RAt w r s i ∧ RRAt w x s i ∧ Glob w ∧ Below w0.heap.size w0 w ∧ CodeIs w v c
theorem BI.keep {r x : Nat} {s : ByteArray} {i : Nat} {w0 : World} {v : Value} {c : Int} {w w' : World} (h : BI r x s i w0 v c w) (hb : Below w.heap.size w w') : BI r x s i w0 v c w' :=
  ⟨(hb.block _ (row_lt h.1)).trans h.1, (hb.block _ (row_lt h.2.1)).trans h.2.1, h.2.2.1.below hb, below_trans0 h.2.2.2.1 hb, h.2.2.2.2.below hb⟩
theorem below_drew (w : World) : Below w.heap.size w w.drew := (Below.refl _ _).drew
theorem BI.cell {r x : Nat} {s : ByteArray} {i : Nat} {w0 : World} {v : Value} {c : Int} {w : World} (h : BI r x s i w0 v c w) : w.cell? ⟨x, 1, none⟩ = some (.int .i64 (i : Int)) := row_cell h.2.1 (j := 1) rfl
section
variable {r x : Nat} {s : ByteArray} {i : Nat} {w0 : World} {v : Value} {c : Int} {w : World}
theorem c_code (h : BI r x s i w0 v c w) : Calls Tryd.prog 16 #[v] w fun e w' => e = .returned (.int .i64 c) ∧ BI r x s i w0 v c w' :=
  (codeIs_any v c w h.2.2.2.2 h.2.2.1).mono fun _ _ ⟨h1, h2⟩ => ⟨h1, h.keep h2⟩
theorem c_at (h : BI r x s i w0 v c w) : Calls Tryd.prog 53 #[.pointer (some ⟨r, 0, none⟩)] w fun e w' => e = .returned (.int .i64 (i : Int)) ∧ BI r x s i w0 v c w' :=
  (rat_any r s i w h.1).mono fun _ _ ⟨h1, h2⟩ => ⟨h1, h2 ▸ h⟩
theorem c_end (hs : s.size ≤ 1000000000) (hi : i ≤ 8 * s.size) (h : BI r x s i w0 v c w) : Calls Tryd.prog 54 #[.pointer (some ⟨r, 0, none⟩)] w fun e w' => ∃ ve, e = .returned ve ∧ BI r x s i w0 ve (endCode s i) w' := by
  refine (bend_any r s i w h.1 hs hi).mono fun e w' hp => ?_
  unfold BEnd at hp
  unfold endCode
  split at hp
  · rename_i hc
    rw [if_pos hc]
    obtain ⟨ve, rfl, ⟨a, ha, rfl, hblk⟩, hb⟩ := hp
    obtain ⟨k1, k2, k3, k4, _⟩ := h.keep hb
    exact ⟨_, rfl, k1, k2, k3, k4, .inr ⟨_, isErr_new hblk⟩⟩
  · rename_i hc
    rw [if_neg hc]
    split at hp
    · rename_i hc2
      rw [if_pos hc2]
      obtain ⟨ve, rfl, ⟨a, ha, rfl, hblk⟩, hb⟩ := hp
      obtain ⟨k1, k2, k3, k4, _⟩ := h.keep hb
      exact ⟨_, rfl, k1, k2, k3, k4, .inr ⟨_, isErr_new hblk⟩⟩
    · rename_i hc2
      rw [if_neg hc2]
      obtain ⟨rfl, hb⟩ := hp
      obtain ⟨k1, k2, k3, k4, _⟩ := h.keep hb
      exact ⟨_, rfl, k1, k2, k3, k4, .inl ⟨rfl, rfl⟩⟩
theorem c_xend (hs : s.size ≤ 1000000000) (hi : i ≤ 8 * s.size) (h : BI r x s i w0 v c w) : Calls Tryd.prog 55 #[.pointer (some ⟨x, 0, none⟩)] w fun e w' => e = .returned (.int .i64 (endCode s i)) ∧ BI r x s i w0 v c w' :=
  (rend_any x s i w h.2.1 hs hi).mono fun _ _ ⟨h1, h2⟩ => ⟨h1, h.keep (h2.below (Nat.le_refl _) (fun _ _ hh => hh.elim))⟩
end
/-- what both Gets come to -/
theorem bget_both {r : Nat} {s : ByteArray} {i : Nat} {c : Int} {w w' : World} {e : Ending} (h : BGet s i c r w e w') (hr : RAt w r s i) : ∃ (N : Nat) (v : Value) (f : Int) (i' : Nat),
    e = .returned (.tuple #[.int .u64 N, v]) ∧ RAt w' r s i' ∧ Upd (fun k => k = r) w w' ∧ (i' ≤ 8 * s.size ∨ 8 * s.size < i) ∧
    (∀ (x : Nat) (w2 : World) (e2 : Ending) (w3 : World), RGet s i c x w2 e2 w3 → e2 = .returned (.tuple #[.int .u64 N, .int .i64 f]) ∧ Upd (fun k => k = x) w2 w3 ∧ RRAt w3 x s i') ∧
    ((v = .nilIface ∧ f = 0) ∨ (isErr w' [(true, (i : Int))] v (codeV f) ∧ i' = i ∧ 0 < f ∧ f < 100)) := by
  unfold BGet at h
  split at h
  · rename_i hc
    obtain ⟨v, rfl, ⟨a, ha, rfl, hblk⟩, hb⟩ := h
    refine ⟨0, _, 9, i, rfl, (hb.block _ (row_lt hr)).trans hr, .of_new hb, ?_, fun x w2 e2 w3 h2 => ?_, .inr ⟨isErr_new hblk, rfl, by decide, by decide⟩⟩
    · omega
    · unfold RGet at h2; rw [if_pos hc] at h2; exact h2
  · rename_i hc
    split at h
    · rename_i hc2
      obtain ⟨v, rfl, ⟨a, ha, rfl, hblk⟩, hb⟩ := h
      refine ⟨0, _, 1, i, rfl, (hb.block _ (row_lt hr)).trans hr, .of_new hb, ?_, fun x w2 e2 w3 h2 => ?_, .inr ⟨isErr_new hblk, rfl, by decide, by decide⟩⟩
      · omega
      · unfold RGet at h2; rw [if_neg hc, if_pos hc2] at h2; exact h2
    · rename_i hc2
      obtain ⟨rfl, h1, h2⟩ := h
      refine ⟨_, _, 0, i + c.toNat, rfl, h1, h2, ?_, fun x w2 e2 w3 h2 => ?_, .inl ⟨rfl, rfl⟩⟩
      · omega
      · unfold RGet at h2; rw [if_neg hc, if_neg hc2] at h2; exact h2
set_option maxRecDepth 1000000 in
set_option maxHeartbeats 8000000 in
theorem breads_walk (s : ByteArray) (ao : Option Addr) (cap : Nat) (l : List Int) (w : World) (hi : Ints .i64 w ao l) (hs : s.size ≤ 2000) (hl : l.length ≤ 300) (hg : Glob w) :
    Calls Tryd.prog 8 #[.string s, .slice ao l.length cap] w fun e w' => e = .returned (.bool true) ∧ Below w.heap.size w w' := by
  have HG := Lib.hid hg
  have HI := Lib.hid hi
  have hd1 : decide (2000 < (s.size : Int)) = false := by simp; omega
  have hd2 : decide (300 < (l.length : Int)) = false := by simp; omega
  clear hg hi
  go_enter Tryd.func8, Tryd.ntmps8
  go_wp2_with fail
  refine (first5 w).mono ?_; rintro e w1 ⟨rfl, hb1⟩
  have HB1 := Lib.hid hb1
  clear hb1
  go_wp2_with fail
  refine (newr_any s w1).mono ?_; rintro e w2 ⟨rfl, rfl⟩
  have HR0 : Hid (RAt ((w1.alloc (.cells #[.string s, .int .i64 0] 120)).alloc (.cells #[.string s, .int .i64 0] 87)) w1.heap.size s 0) := Lib.hid (by
    have := (below_alloc0 (w1.alloc (.cells #[.string s, .int .i64 0] 120)) (.cells #[.string s, .int .i64 0] 87)).block w1.heap.size (by simp)
    exact this.trans (rat_new s w1))
  have HX0 : Hid (RRAt ((w1.alloc (.cells #[.string s, .int .i64 0] 120)).alloc (.cells #[.string s, .int .i64 0] 87)) (w1.heap.size + 1) s 0) := Lib.hid (by
    have := heap_alloc_new (w1.alloc (.cells #[.string s, .int .i64 0] 120)) (.cells #[.string s, .int .i64 0] 87)
    unfold RRAt
    simpa using this)
  have HB2 : Hid (Below w.heap.size w ((w1.alloc (.cells #[.string s, .int .i64 0] 120)).alloc (.cells #[.string s, .int .i64 0] 87))) := Lib.hid (below_trans0 (below_trans0 HB1.out (below_alloc0 _ _)) (below_alloc0 _ _))
  go_wp2_with fail
  go_loopw [7] (fun y wr => ∃ (j i : Nat), j ≤ l.length ∧ i ≤ 8 * s.size ∧ y = .int .i64 (j : Int) ∧ RAt wr w1.heap.size s i ∧ RRAt wr (w1.heap.size + 1) s i ∧ Below w.heap.size w wr) (fun y _ => l.length - (intOf y).toNat)
  case atStart => exact ⟨0, 0, by omega, by omega, rfl, HR0.out, HX0.out, HB2.out⟩
  case round =>
    obtain ⟨j, i, hj, hi8, rfl, hr, hx, hb⟩ := hrel
    have HR := Lib.hid hr
    have HX := Lib.hid hx
    have HB := Lib.hid hb
    have hsz := HB1.out.size
    clear hr hx hb
    by_cases hlt : j < l.length
    · obtain ⟨ab, off, rfl, hbl, k0⟩ := HI.out.at hlt
      have hc0 := (HB.out.cell (p := ⟨ab, off + j, none⟩) hbl).trans k0
      obtain ⟨c, hc⟩ : ∃ c, c = l[j] := ⟨_, rfl⟩
      rw [← hc] at hc0 k0
      have K0 := Lib.hid k0
      clear k0 hc
      go_wp2_with fail
      refine (bget_any _ s i c wr HR.out (by omega) hi8).mono ?_; intro e w3 hp
      obtain ⟨N, v, f, i', rfl, p1, p2, p3, p4, p5⟩ := bget_both hp HR.out
      have HB3 : Hid (Below w.heap.size w w3) := Lib.hid (HB.out.trans (p2.below HB.out.size (fun k _ hk => by omega)))
      have HX3 : Hid (RRAt w3 (w1.heap.size + 1) s i) := Lib.hid ((p2.block _ (row_lt HX.out) (by omega)).trans HX.out)
      have hc3 : w3.cell? ⟨ab, off + j, none⟩ = some (.int .i64 c) := (HB3.out.cell (p := ⟨ab, off + j, none⟩) hbl).trans K0.out
      have P1 := Lib.hid p1
      have P4 := Lib.hid p4
      have P5 := Lib.hid p5
      have hi9 : i' ≤ 8 * s.size := by omega
      have hs9 : s.size ≤ 1000000000 := by omega
      clear hp p1 p2 p3 p4 p5 hc0
      go_wp2_with fail
      refine (rget_any _ s i c w3 HX3.out (by omega) hi8).mono ?_; intro e w4 hp
      obtain ⟨rfl, q1, q2⟩ := P4.out _ _ _ _ hp
      have HB4 : Hid (Below w.heap.size w w4) := Lib.hid (HB3.out.trans (q1.below HB3.out.size (fun k _ hk => by omega)))
      have HR4 : Hid (RAt w4 w1.heap.size s i') := Lib.hid ((q1.block _ (row_lt P1.out) (by omega)).trans P1.out)
      have HX4 := Lib.hid q2
      rcases P5.out with ⟨rfl, rfl⟩ | ⟨he, rfl, hf1, hf2⟩
      · clear hp q1 q2 hc3
        go_wp2_with fail
        refine (place_nil w4).mono ?_; rintro e w5 ⟨rfl, hb5⟩
        have hI : BI w1.heap.size (w1.heap.size + 1) s i' w .nilIface 0 w5 := BI.keep ⟨HR4.out, HX4.out, HG.out.below HB4.out, HB4.out, .inl ⟨rfl, rfl⟩⟩ hb5
        have hx := hI.cell
        have hI6 : BI w1.heap.size (w1.heap.size + 1) s i' w .nilIface 0 w5.drew := hI.keep (below_drew w5)
        clear hb5 hI
        go_wp2_with fail
        have hne : Nonempty { w' : World // ∃ v c, BI w1.heap.size (w1.heap.size + 1) s i' w v c w' } := ⟨⟨_, _, _, hI6⟩⟩
        have hxt : ∀ t : { w' : World // ∃ v c, BI w1.heap.size (w1.heap.size + 1) s i' w v c w' }, t.1.cell? ⟨w1.heap.size + 1, 1, none⟩ = some (.int .i64 (i' : Int)) := fun t => t.2.choose_spec.choose_spec.cell
        refine wp_region_seq (S := fun w' => ∃ v c, BI w1.heap.size (w1.heap.size + 1) s i' w v c w') [(0, true), (1, true), (2, true), (3, true), (4, true), (6, true), (5, false), (7, true), (8, true), (9, true), (10, true), (12, true), (13, true), (14, true), (15, true), (11, false), (16, true), (17, true), (18, true), (19, true), (20, true), (21, true), (22, true), (23, true), (24, true), (25, true), (26, true), (27, true), (28, true), (29, true), (30, true), (31, true), (32, true), (33, true), (34, true), (35, true), (36, true), (39, true), (37, false), (38, false), (40, false), (41, true), (42, true)] (by kernel_rfl) (by kernel_rfl) (by kernel_rfl) (by kernel_rfl) ⟨_, _, hI6⟩ ?_
        iterate 6 (refine seq_take _ rfl (fun K hK => ?_); go_simp; refine hK _ ?_; clear hK K)
        refine seq_come _ rfl (fun K hK => ?_); go_simp
        refine (c_code hI6).mono ?_; rintro e w6 ⟨rfl, hI6⟩
        go_simp; refine hK.out _ _ ⟨_, _, hI6⟩ ?_; clear hK K
        iterate 8 (refine seq_take _ rfl (fun K hK => ?_); go_simp; refine hK _ ?_; clear hK K)
        refine seq_come _ rfl (fun K hK => ?_); go_simp
        refine (c_at hI6).mono ?_; rintro e w6 ⟨rfl, hI6⟩
        go_simp; refine hK.out _ _ ⟨_, _, hI6⟩ ?_; clear hK K
        iterate 22 (refine seq_take _ rfl (fun K hK => ?_); go_simp; refine hK _ ?_; clear hK K)
        refine seq_come _ rfl (fun K hK => ?_); go_simp
        refine (c_end hs9 hi9 hI6).mono ?_; rintro e w6 ⟨ve, rfl, hI6⟩
        go_simp; refine hK.out _ _ ⟨_, _, hI6⟩ ?_; clear hK K
        refine seq_come _ rfl (fun K hK => ?_); go_simp
        refine (c_code hI6).mono ?_; rintro e w6 ⟨rfl, hI6⟩
        go_simp; refine hK.out _ _ ⟨_, _, hI6⟩ ?_; clear hK K
        refine seq_come _ rfl (fun K hK => ?_); go_simp
        refine (c_xend hs9 hi9 hI6).mono ?_; rintro e w6 ⟨rfl, hI6⟩
        go_simp; refine hK.out _ _ ⟨_, _, hI6⟩ ?_; clear hK K
        iterate 2 (refine seq_take _ rfl (fun K hK => ?_); go_simp; refine hK _ ?_; clear hK K)
        refine seq_done ?_
        go_wp2_with fail
        exact ⟨⟨j + 1, i', by omega, hi9, by simp, hI6.1, hI6.2.1, hI6.2.2.2.1⟩, by simp [intOf]; omega⟩
      · have hfne : ((f : Int) != 0) = true := by simp; omega
        have hfeq : ((f : Int) == 0) = false := by simp; omega
        have HE : Hid (isErr w4 [(true, (i' : Int))] v (codeV f)) := Lib.hid (isErr_upd q1 (fun k hk b n e hh => by subst hk; have := HX3.out; unfold RRAt at this; rw [this] at hh; simp at hh) he)
        obtain ⟨T, y, rfl⟩ := isErr_iface he (root_code _)
        clear hp q1 q2 hc3 he hf1 hf2
        go_wp2_with fail
        refine (place_any _ _ _ w4 HE.out (root_code _) (HG.out.below HB4.out)).mono ?_; rintro e w5 ⟨rfl, hb5⟩
        rw [show placeN [(true, (i' : Int))] = (i' : Int) from rfl, show placeB [(true, (i' : Int))] = true from rfl]
        have hI : BI w1.heap.size (w1.heap.size + 1) s i' w (.iface T y) f w5 := BI.keep ⟨HR4.out, HX4.out, HG.out.below HB4.out, HB4.out, .inr ⟨_, HE.out⟩⟩ hb5
        have hx := hI.cell
        have hI6 : BI w1.heap.size (w1.heap.size + 1) s i' w (.iface T y) f w5.drew := hI.keep (below_drew w5)
        clear hb5 hI
        go_wp2_with fail
        have hne : Nonempty { w' : World // ∃ v c, BI w1.heap.size (w1.heap.size + 1) s i' w v c w' } := ⟨⟨_, _, _, hI6⟩⟩
        have hxt : ∀ t : { w' : World // ∃ v c, BI w1.heap.size (w1.heap.size + 1) s i' w v c w' }, t.1.cell? ⟨w1.heap.size + 1, 1, none⟩ = some (.int .i64 (i' : Int)) := fun t => t.2.choose_spec.choose_spec.cell
        refine wp_region_seq (S := fun w' => ∃ v c, BI w1.heap.size (w1.heap.size + 1) s i' w v c w') [(0, true), (1, true), (2, true), (3, true), (4, true), (6, true), (5, false), (7, true), (8, true), (9, true), (10, true), (12, true), (13, true), (14, true), (15, true), (11, false), (16, true), (17, true), (18, true), (19, true), (20, true), (21, true), (22, true), (23, true), (24, true), (25, true), (26, true), (27, true), (28, true), (29, true), (30, true), (31, true), (32, true), (33, true), (34, true), (35, true), (36, true), (39, true), (37, false), (38, false), (40, false), (41, true), (42, true)] (by kernel_rfl) (by kernel_rfl) (by kernel_rfl) (by kernel_rfl) ⟨_, _, hI6⟩ ?_
        iterate 6 (refine seq_take _ rfl (fun K hK => ?_); go_simp; refine hK _ ?_; clear hK K)
        refine seq_come _ rfl (fun K hK => ?_); go_simp
        refine (c_code hI6).mono ?_; rintro e w6 ⟨rfl, hI6⟩
        go_simp; refine hK.out _ _ ⟨_, _, hI6⟩ ?_; clear hK K
        iterate 8 (refine seq_take _ rfl (fun K hK => ?_); go_simp; refine hK _ ?_; clear hK K)
        refine seq_come _ rfl (fun K hK => ?_); go_simp
        refine (c_at hI6).mono ?_; rintro e w6 ⟨rfl, hI6⟩
        go_simp; refine hK.out _ _ ⟨_, _, hI6⟩ ?_; clear hK K
        iterate 22 (refine seq_take _ rfl (fun K hK => ?_); go_simp; refine hK _ ?_; clear hK K)
        refine seq_come _ rfl (fun K hK => ?_); go_simp
        refine (c_end hs9 hi9 hI6).mono ?_; rintro e w6 ⟨ve, rfl, hI6⟩
        go_simp; refine hK.out _ _ ⟨_, _, hI6⟩ ?_; clear hK K
        refine seq_come _ rfl (fun K hK => ?_); go_simp
        refine (c_code hI6).mono ?_; rintro e w6 ⟨rfl, hI6⟩
        go_simp; refine hK.out _ _ ⟨_, _, hI6⟩ ?_; clear hK K
        refine seq_come _ rfl (fun K hK => ?_); go_simp
        refine (c_xend hs9 hi9 hI6).mono ?_; rintro e w6 ⟨rfl, hI6⟩
        go_simp; refine hK.out _ _ ⟨_, _, hI6⟩ ?_; clear hK K
        iterate 2 (refine seq_take _ rfl (fun K hK => ?_); go_simp; refine hK _ ?_; clear hK K)
        refine seq_done ?_
        go_wp2_with fail
        exact ⟨⟨j + 1, i', by omega, hi9, by simp, hI6.1, hI6.2.1, hI6.2.2.2.1⟩, by simp [intOf]; omega⟩
    · obtain rfl : j = l.length := by omega
      go_wp2_with fail
      refine (first5 wr).mono ?_; rintro e w6 ⟨rfl, hb6⟩
      have HB6 := Lib.hid (HB.out.trans (hb6.mono HB.out.size))
      clear hb6
      go_wp2
      go_ret
      exact ⟨rfl, HB6.out⟩
set_option maxRecDepth 1000000 in
theorem breads_long (s : ByteArray) (ao : Option Addr) (cap len : Nat) (w : World) (hl : 2000 < s.size ∨ 300 < len) :
    Calls Tryd.prog 8 #[.string s, .slice ao len cap] w fun e w' => e = .returned (.bool true) ∧ Below w.heap.size w w' := by
  cases hd1 : decide (2000 < (s.size : Int)) <;> cases hd2 : decide (300 < (len : Int))
  · simp at hd1 hd2; omega
  all_goals
    clear hl
    go_enter Tryd.func8, Tryd.ntmps8
    go_wp2_with fail
    refine (first5 w).mono ?_; rintro e w1 ⟨rfl, hb1⟩
    go_wp2_with fail
    refine (first5 w1).mono ?_; rintro e w2 ⟨rfl, hb2⟩
    go_wp2
    go_ret
    exact ⟨rfl, below_trans0 hb1 hb2⟩
end Go.Proofs.YtbhppchdoalahaaDoor
