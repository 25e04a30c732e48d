/-
  hyglaw5.BitsWrites: for every list of numbers and counts the law returns true.
-/
import Derived.Test.YtbhppchdoalahaaDoorFirst5
import Derived.Test.YtbhppchdoalahaaDoorBitsRefW
import Derived.Test.YtbhppchdoalahaaDoorBackMath
import Derived.Test.YtbhppchdoalahaaDoorCodeIs
import Derived.Test.YtbhppchdoalahaaDoorOpsArg
import Derived.Test.YtbhppchdoalahaaDoorOrd
import Derived.Deep.RegionHeld3
namespace Go.Proofs.YtbhppchdoalahaaDoor
open Go.RowKit

/-- both Writers, the one at p, the other one at p + 1 -/
structure Two (p : Nat) (w0 : World) (v : Value) (n V : Nat) (b : List UInt8) (x : Value) (L : List UInt8) (w : World) : Prop where
  a : WAt w p v n V b
  r : RWAt w (p + 1) x L
  glob : Glob w
  below : Below w0.heap.size w0 w
  dis : ∀ k, v.ownBlock = some k → k ≠ p + 1 ∧ x.ownBlock ≠ some k
theorem rwat_upd {S : Nat → Prop} {w w' : World} {q : Nat} {v : Value} {L : List UInt8} (hU : Upd S w w') (h : RWAt w q v L) (hp : ¬ S q) (hv : ∀ k, v.ownBlock = some k → ¬ S k) : RWAt w' q v L :=
  ⟨(hU.block q (row_lt h.1) hp).trans h.1, hU.own h.2.1 hv, h.2.2⟩
theorem Two.keep {p : Nat} {w0 : World} {v : Value} {n V : Nat} {b : List UInt8} {x : Value} {L : List UInt8} {w w' : World} (h : Two p w0 v n V b x L w) (hb : Below w.heap.size w w') : Two p w0 v n V b x L w' :=
  have hU : Upd (fun _ => False) w w' := Upd.of_new hb
  ⟨wat_upd hU h.a (fun h => h) (fun _ _ h => h), rwat_upd hU h.r (fun h => h) (fun _ _ h => h), h.glob.below hb, h.below.trans (hb.mono h.below.size), h.dis⟩
section
variable {p : Nat} {w0 : World} {v : Value} {n V : Nat} {b : List UInt8} {x : Value} {L : List UInt8} {w : World}
theorem t_put {N c : Nat} (hp : w0.heap.size ≤ p) (hc : c ≤ 64) (hN : Hid (N < 2 ^ c)) (hn : n + c ≤ 1000000) (h : Two p w0 v n V b x L w) :
    Calls Tryd.prog 41 #[.pointer (some ⟨p, 0, none⟩), .int .u64 N, .int .i64 c] w
      fun e w' => ∃ v' b', e = .returned .nilIface ∧ Two p w0 v' (n + c) (V * 2 ^ c + N) b' x L w' := by
  refine (bput_ok p v n V N c b w h.a hc hN hn).mono ?_
  rintro e w' ⟨v', b', rfl, h1, h2, h3⟩
  have hlv := h.a.2.1.lt
  have hlx := h.r.2.1.lt
  have hq := row_lt h.r.1
  have hS : ∀ k, putS p v k → w0.heap.size ≤ k := by
    rintro k (rfl | hk)
    · exact hp
    · have := (hlv k hk).1; omega
  refine ⟨v', b', rfl, h1, ?_, ?_, ?_, ?_⟩
  · refine rwat_upd h2 h.r ?_ ?_
    · rintro (hk | hk)
      · omega
      · exact (h.dis _ hk).1 rfl
    · rintro k hk (hk2 | hk2)
      · have := (hlx k hk).1; omega
      · exact (h.dis k hk2).2 hk
  · have hgl : Glob w := h.glob
    have h0 : ¬ putS p v 0 := by
      rintro (hk | hk)
      · have := h.below.size
        have := row_lt h.r.1
        have hglob0 : (w.cell? ⟨0, 0, none⟩) = some (.iface 135 (.agg #[.pointer (some ⟨1, 25, none⟩)])) := hgl
        have hc0 := row_cell h.a.1 (j := 0) rfl
        rw [← hk, hglob0] at hc0
        obtain ⟨ao, cap, hv⟩ := own_slice h.a.2.1
        rw [hv] at hc0
        simp at hc0
      · have := (hlv 0 hk).1; omega
    exact (h2.cell (a := ⟨0, 0, none⟩) (Glob.pos hgl) h0).trans hgl
  · exact h.below.trans (h2.below h.below.size (fun k _ hk => hS k hk))
  · intro k hk
    rcases h3 with h3 | h3
    · exact h.dis k (h3 ▸ hk)
    · have := h3 k hk
      refine ⟨by omega, fun hx => ?_⟩
      have := (hlx k hx).2
      omega
theorem t_put_err {N : Nat} {c : Int} (hc : c < 0 ∨ 64 < c ∨ ∃ k : Nat, c = (k : Int) ∧ k ≤ 64 ∧ 2 ^ k ≤ N) (h : Two p w0 v n V b x L w) :
    Calls Tryd.prog 41 #[.pointer (some ⟨p, 0, none⟩), .int .u64 N, .int .i64 c] w
      fun e w' => ∃ ve, e = .returned ve ∧ CodeIs w' ve 9 ∧ Two p w0 v n V b x L w' := by
  refine (bput_err p v n V N c b w h.a hc).mono ?_
  rintro e w' ⟨rfl, rfl⟩
  exact ⟨_, rfl, .inr ⟨_, isErr_new (heap_alloc_new w _)⟩, h.keep (below_alloc _ _)⟩
theorem t_rput {N c : Nat} (hp : w0.heap.size ≤ p) (hc : c ≤ 64) (hN : Hid (N < 2 ^ c)) (hn : L.length + c ≤ 1000000) (h : Two p w0 v n V b x L w) :
    Calls Tryd.prog 42 #[.pointer (some ⟨p + 1, 0, none⟩), .int .u64 N, .int .i64 c] w
      fun e w' => ∃ x' L', e = .returned (.int .i64 0) ∧ L'.length = L.length + c ∧ bitV L' = bitV L * 2 ^ c + N ∧ Two p w0 v n V b x' L' w' := by
  refine (rput_ok (p + 1) x N c L w h.r hc hN hn).mono ?_
  rintro e w' ⟨x', L', rfl, h1, hl, hv, h2, h3⟩
  have hlv := h.a.2.1.lt
  have hlx := h.r.2.1.lt
  have hS : ∀ k, putS (p + 1) x k → w0.heap.size ≤ k := by
    rintro k (rfl | hk)
    · omega
    · have := (hlx k hk).1; omega
  refine ⟨x', L', rfl, hl, hv, ?_, h1, ?_, ?_, ?_⟩
  · refine wat_upd h2 h.a ?_ ?_
    · rintro (hk | hk)
      · omega
      · have := (hlx p hk).1; omega
    · rintro k hk (hk2 | hk2)
      · exact (h.dis k hk).1 hk2
      · exact (h.dis k hk).2 hk2
  · have h0 : ¬ putS (p + 1) x 0 := by
      rintro (hk | hk)
      · omega
      · have := (hlx 0 hk).1; omega
    exact (h2.cell (a := ⟨0, 0, none⟩) (Glob.pos h.glob) h0).trans h.glob
  · exact h.below.trans (h2.below h.below.size (fun k _ hk => hS k hk))
  · intro k hk
    refine ⟨(h.dis k hk).1, fun hx => ?_⟩
    rcases h3 with h3 | h3
    · exact (h.dis k hk).2 (h3 ▸ hx)
    · have := h3 k hx
      have := (hlv k hk).2
      omega
theorem t_rput_err {N : Nat} {c : Int} (hc : c < 0 ∨ 64 < c ∨ ∃ k : Nat, c = (k : Int) ∧ k ≤ 64 ∧ 2 ^ k ≤ N) (hN : Hid (N < 2 ^ 64)) (h : Two p w0 v n V b x L w) :
    Calls Tryd.prog 42 #[.pointer (some ⟨p + 1, 0, none⟩), .int .u64 N, .int .i64 c] w
      fun e w' => e = .returned (.int .i64 9) ∧ Two p w0 v n V b x L w' :=
  (rput_err (p + 1) N c w hc hN).mono fun _ _ ⟨h1, h2⟩ => ⟨h1, h2 ▸ h⟩
end
theorem tc_code {p : Nat} {w0 : World} {v : Value} {n V : Nat} {b : List UInt8} {x : Value} {L : List UInt8} {w : World} {ve : Value} {f : Int} (h : Two p w0 v n V b x L w ∧ CodeIs w ve f) :
    Calls Tryd.prog 16 #[ve] w fun e w' => e = .returned (.int .i64 f) ∧ Two p w0 v n V b x L w' ∧ CodeIs w' ve f :=
  (codeIs_any ve f w h.2 h.1.glob).mono fun _ _ ⟨h1, h2⟩ => ⟨h1, h.1.keep h2, h.2.below h2⟩
theorem tc_len {p : Nat} {w0 : World} {v : Value} {n V : Nat} {b : List UInt8} {x : Value} {L : List UInt8} {w : World} {ve : Value} {f : Int} (h : Two p w0 v n V b x L w ∧ CodeIs w ve f) :
    Calls Tryd.prog 43 #[.pointer (some ⟨p, 0, none⟩)] w fun e w' => e = .returned (.int .i64 n) ∧ Two p w0 v n V b x L w' ∧ CodeIs w' ve f :=
  (blen_any p v n V b w h.1.a).mono fun _ _ ⟨h1, h2⟩ => ⟨h1, h2 ▸ h⟩
theorem tk_drew {p : Nat} {w0 : World} {v : Value} {n V : Nat} {b : List UInt8} {x : Value} {L : List UInt8} {w : World} {ve : Value} {f : Int} (h : Two p w0 v n V b x L w ∧ CodeIs w ve f) : Two p w0 v n V b x L w.drew ∧ CodeIs w.drew ve f :=
  ⟨h.1.keep ((Below.refl _ _).drew), h.2.below ((Below.refl _ _).drew)⟩
theorem t_rput_err2 {p : Nat} {w0 : World} {v : Value} {n V : Nat} {b : List UInt8} {x : Value} {L : List UInt8} {w : World} {ve : Value} {f : Int} {N : Nat} {c : Int} (hc : c < 0 ∨ 64 < c ∨ ∃ k : Nat, c = (k : Int) ∧ k ≤ 64 ∧ 2 ^ k ≤ N) (hN : Hid (N < 2 ^ 64)) (h : Two p w0 v n V b x L w ∧ CodeIs w ve f) :
    Calls Tryd.prog 42 #[.pointer (some ⟨p + 1, 0, none⟩), .int .u64 N, .int .i64 c] w
      fun e w' => e = .returned (.int .i64 9) ∧ Two p w0 v n V b x L w' ∧ CodeIs w' ve f :=
  (rput_err (p + 1) N c w hc hN).mono fun _ _ ⟨h1, h2⟩ => ⟨h1, h2 ▸ h⟩
theorem below_drew (w : World) : Below w.heap.size w w.drew := (Below.refl _ _).drew
set_option maxRecDepth 1000000 in
set_option maxHeartbeats 8000000 in
theorem bwrites_walk (ao : Option Addr) (cap : Nat) (l : List (Int × Int)) (w : World) (hi : Ops w ao l) (h0 : ∀ x ∈ l, 0 ≤ x.1 ∧ x.1 < 18446744073709551616) (hl : l.length ≤ 300) (hg : Glob w) :
    Calls Tryd.prog 7 #[.slice ao l.length cap] w fun e w' => e = .returned (.bool true) ∧ Below w.heap.size w w' := by
  have HG := Lib.hid hg
  have HI := Lib.hid hi
  have H0 := Lib.hid h0
  have hd : decide (300 < (l.length : Int)) = false := by simp; omega
  clear hg hi h0
  go_enter Tryd.func7, Tryd.ntmps7
  go_wp2_with fail
  refine (first5 w).mono ?_; rintro e w1 ⟨rfl, hb1⟩
  have HB1 := Lib.hid hb1
  have hsz := hb1.size
  clear hb1
  have HT0 : Hid (Two w1.heap.size w (.slice none 0 0) 0 0 [] (.slice none 0 0) [] ((w1.alloc (.cells #[.slice none 0 0, .int .i64 0] 71)).alloc (.cells #[.slice none 0 0] 74))) := Lib.hid (by
    have h1 := below_alloc w1 (.cells #[.slice none 0 0, .int .i64 0] 71)
    have h2 := below_alloc (w1.alloc (.cells #[.slice none 0 0, .int .i64 0] 71)) (.cells #[.slice none 0 0] 74)
    refine ⟨wat_upd (Upd.of_new (S := fun _ => False) h2) (wat_new w1) (fun h => h) (fun _ _ h => h), ⟨?_, World.ownsRow_nil _ _ _ _, by intro b hb; cases hb⟩, ((HG.out.below HB1.out).below h1).below h2, below_trans HB1.out (below_trans h1 h2), fun k hk => by cases hk⟩
    have := heap_alloc_new (w1.alloc (.cells #[.slice none 0 0, .int .i64 0] 71)) (.cells #[.slice none 0 0] 74)
    simpa using this)
  go_wp2_with fail
  go_loopw [5] (fun y wr => ∃ (j n V : Nat) (v x : Value) (b L : List UInt8), j ≤ l.length ∧ n ≤ 64 * j ∧ L.length = n ∧ bitV L = V ∧ y = .int .i64 (j : Int) ∧ Two w1.heap.size w v n V b x L wr) (fun y _ => l.length - (intOf y).toNat)
  case atStart => exact ⟨0, 0, 0, _, _, [], [], by omega, by omega, rfl, rfl, rfl, HT0.out⟩
  case round =>
    obtain ⟨j, n, V, v, x, b, L, hj, hnj, hLn, hLV, rfl, hT⟩ := hrel
    have HT := Lib.hid hT
    have HLn := Lib.hid hLn
    have HLV := Lib.hid hLV
    clear hT hLn hLV
    by_cases hlt : j < l.length
    · obtain ⟨ab, off, y, HX, rfl, hbl, k0, k1⟩ := HI.out.at hlt
      have hc0 := (HT.out.below.cell (p := ⟨ab, off + j * 2, none⟩) hbl).trans k0
      have hc1 := (HT.out.below.cell (p := ⟨ab, off + j * 2 + 1, none⟩) hbl).trans k1
      have K0 := Lib.hid k0
      have K1 := Lib.hid k1
      have hx0 := H0.out y (by rw [HX.out]; exact List.getElem_mem _)
      obtain ⟨N, c⟩ := y
      obtain ⟨N, rfl⟩ := Int.eq_ofNat_of_zero_le hx0.1
      have HN : Hid (N < 2 ^ 64) := Lib.hid (by have := hx0.2; simp at this; omega)
      have q1 : (0 : Int) ≤ (j : Int) := by omega
      have q2 : (j : Int) < (l.length : Int) := by omega
      clear hx0 k0 k1
      by_cases hv : okOp ((N : Int), c)
      · obtain ⟨_, hcc, hc64, hNc⟩ := hv
        obtain ⟨c, rfl⟩ := Int.eq_ofNat_of_zero_le hcc
        have HNC : Hid (N < 2 ^ c) := Lib.hid (by
          have : (N : Int) < ((2 ^ c : Nat) : Int) := by simpa using hNc
          omega)
        have hc64n : c ≤ 64 := by omega
        have hnc : n + c ≤ 1000000 := by omega
        have hLc : L.length + c ≤ 1000000 := by have := HLn.out; omega
        have hT6 := HT.out.keep (below_drew wr)
        clear hcc hc64 hNc
        go_wp2_with fail
        go_region_held3 (fun w' => w'.cell? ⟨ab, off + j * 2, none⟩ = some (.int .u64 (N : Int)) ∧ w'.cell? ⟨ab, off + j * 2 + 1, none⟩ = some (.int .i64 (c : Int)))
          (first | exact ⟨(hT6.below.cell (p := ⟨ab, off + j * 2, none⟩) hbl).trans K0.out, (hT6.below.cell (p := ⟨ab, off + j * 2 + 1, none⟩) hbl).trans K1.out⟩ | go_keep)
          (first
            | (go_at_call 41; refine (t_put hsz hc64n HNC hnc hT6).mono ?_; rintro e w6 ⟨v6, b6, rfl, hT6⟩)
            | (go_at_call 42; refine (t_rput hsz hc64n HNC hLc hT6).mono ?_; rintro e w6 ⟨x6, L6, rfl, hL6, hV6, hT6⟩))
        have HL6 : Hid (L6.length = n + c) := Lib.hid (by rw [hL6, HLn.out])
        have HV6 : Hid (bitV L6 = V * 2 ^ c + N) := Lib.hid (by rw [hV6, HLV.out])
        have hT6 : Two w1.heap.size w v6 (n + c) (V * 2 ^ c + N) b6 x6 L6 w6 ∧ CodeIs w6 .nilIface 0 := ⟨hT6, .inl ⟨rfl, rfl⟩⟩
        obtain ⟨n6, hn6⟩ : ∃ n6, n6 = n + c := ⟨_, rfl⟩
        obtain ⟨V6, hVV6⟩ : ∃ V6, V6 = V * 2 ^ c + N := ⟨_, rfl⟩
        have hn6j : n6 ≤ 64 * (j + 1) := by omega
        rw [← hn6, ← hVV6] at hT6
        rw [← hn6] at HL6
        rw [← hVV6] at HV6
        clear hL6 hV6 hn6 hVV6
        obtain ⟨aox, capx, rfl⟩ := own_slice hT6.1.r.2.1
        have t1 : ((n6 : Int) != (L6.length : Int)) = false := by have := HL6.out; simp; omega
        have hne : Nonempty { w' : World // Two w1.heap.size w v6 n6 V6 b6 (.slice aox L6.length capx) L6 w' ∧ CodeIs w' .nilIface 0 } := ⟨⟨_, hT6⟩⟩
        have hxt : ∀ t : { w' : World // Two w1.heap.size w v6 n6 V6 b6 (.slice aox L6.length capx) L6 w' ∧ CodeIs w' .nilIface 0 }, t.1.cell? ⟨w1.heap.size + 1, 0, none⟩ = some (.slice aox L6.length capx) := fun t => row_cell t.2.1.r.1 (j := 0) rfl
        have hyt : ∀ t : { w' : World // Two w1.heap.size w v6 n6 V6 b6 (.slice aox L6.length capx) L6 w' ∧ CodeIs w' .nilIface 0 }, t.1.cell? ⟨ab, off + j * 2, none⟩ = some (.int .u64 (N : Int)) := fun t => (t.2.1.below.cell (p := ⟨ab, off + j * 2, none⟩) hbl).trans K0.out
        go_wp2_with fail
        refine wp_region_seq (S := fun w' => Two w1.heap.size w v6 n6 V6 b6 (.slice aox L6.length capx) L6 w' ∧ CodeIs w' .nilIface 0) [(0, true), (2, true), (1, false), (3, true), (4, true), (5, true), (7, true), (8, true), (9, true), (10, true), (11, true), (6, false), (12, true), (13, true), (14, true), (15, true), (16, true), (17, true), (18, true), (19, true), (21, true), (22, true), (23, true), (24, true), (25, true), (20, false), (26, false), (27, true), (28, true), (29, true), (30, true), (31, true), (32, true), (33, true), (34, true), (36, true), (37, true), (38, true), (39, true), (40, true), (35, false), (41, false), (42, true), (43, true)] (by kernel_rfl) (by kernel_rfl) (by kernel_rfl) (by kernel_rfl) (tk_drew hT6) ?_
        have hT6 := tk_drew hT6
        iterate 2 (refine seq_take _ rfl (fun K hK => ?_); go_simp; refine hK _ ?_; clear hK K)
        refine seq_come _ rfl (fun K hK => ?_); go_simp
        refine (tc_code hT6).mono ?_; rintro e w6 ⟨rfl, hT6⟩
        go_simp; refine hK.out _ _ hT6 ?_; clear hK K
        iterate 8 (refine seq_take _ rfl (fun K hK => ?_); go_simp; refine hK _ ?_; clear hK K)
        refine seq_come _ rfl (fun K hK => ?_); go_simp
        refine (tc_len hT6).mono ?_; rintro e w6 ⟨rfl, hT6⟩
        go_simp; refine hK.out _ _ hT6 ?_; clear hK K
        iterate 13 (refine seq_take _ rfl (fun K hK => ?_); go_simp; refine hK _ ?_; clear hK K)
        refine seq_come _ rfl (fun K hK => ?_); go_simp
        refine (leads_any N _ HN).mono ?_; rintro e w6 ⟨rfl, rfl⟩
        go_simp; refine hK.out _ _ hT6 ?_; clear hK K
        refine seq_come _ rfl (fun K hK => ?_); go_simp
        refine (rlead_any N _ HN).mono ?_; rintro e w6 ⟨rfl, rfl⟩
        go_simp; refine hK.out _ _ hT6 ?_; clear hK K
        iterate 13 (refine seq_take _ rfl (fun K hK => ?_); go_simp; refine hK _ ?_; clear hK K)
        refine seq_come _ rfl (fun K hK => ?_); go_simp
        refine (trailz_any N _ HN).mono ?_; rintro e w6 ⟨rfl, rfl⟩
        go_simp; refine hK.out _ _ hT6 ?_; clear hK K
        refine seq_come _ rfl (fun K hK => ?_); go_simp
        refine (rtrail_any N _ HN).mono ?_; rintro e w6 ⟨rfl, rfl⟩
        go_simp; refine hK.out _ _ hT6 ?_; clear hK K
        iterate 2 (refine seq_take _ rfl (fun K hK => ?_); go_simp; refine hK _ ?_; clear hK K)
        refine seq_done ?_
        go_wp2_with fail
        exact ⟨⟨j + 1, n6, V6, v6, _, b6, L6, by omega, by omega, HL6.out, HV6.out, by simp, hT6.1⟩, by simp [intOf]; omega⟩
      · have hbad : c < 0 ∨ 64 < c ∨ ∃ k : Nat, c = (k : Int) ∧ k ≤ 64 ∧ 2 ^ k ≤ N := by
          by_cases h1 : c < 0
          · exact .inl h1
          · by_cases h2 : 64 < c
            · exact .inr (.inl h2)
            · refine .inr (.inr ⟨c.toNat, by omega, by omega, ?_⟩)
              rcases Nat.lt_or_ge N (2 ^ c.toNat) with hh | hh
              · exfalso
                apply hv
                refine ⟨by omega, by omega, by omega, ?_⟩
                show (N : Int) < 2 ^ c.toNat
                have e2 : (2 : Int) ^ c.toNat = ((2 ^ c.toNat : Nat) : Int) := by simp
                rw [e2]; omega
              · exact hh
        have HBAD := Lib.hid hbad
        have hT6 := HT.out.keep (below_drew wr)
        clear hv hbad
        go_wp2_with fail
        go_region_held3 (fun w' => w'.cell? ⟨ab, off + j * 2, none⟩ = some (.int .u64 (N : Int)) ∧ w'.cell? ⟨ab, off + j * 2 + 1, none⟩ = some (.int .i64 c))
          (first | exact ⟨(hT6.below.cell (p := ⟨ab, off + j * 2, none⟩) hbl).trans K0.out, (hT6.below.cell (p := ⟨ab, off + j * 2 + 1, none⟩) hbl).trans K1.out⟩ | exact ⟨(hT6.1.below.cell (p := ⟨ab, off + j * 2, none⟩) hbl).trans K0.out, (hT6.1.below.cell (p := ⟨ab, off + j * 2 + 1, none⟩) hbl).trans K1.out⟩ | go_keep)
          (first
            | (go_at_call 41; refine (t_put_err HBAD.out hT6).mono ?_; rintro e w6 ⟨ve, rfl, hce, hT6⟩)
            | (go_at_call 42; refine (t_rput_err2 HBAD.out HN ⟨hT6, hce⟩).mono ?_; rintro e w6 ⟨rfl, hT6⟩))
        obtain ⟨aox, capx, rfl⟩ := own_slice hT6.1.r.2.1
        have t1 : ((n : Int) != (L.length : Int)) = false := by have := HLn.out; simp; omega
        have hne : Nonempty { w' : World // Two w1.heap.size w v n V b (.slice aox L.length capx) L w' ∧ CodeIs w' ve 9 } := ⟨⟨_, hT6⟩⟩
        have hxt : ∀ t : { w' : World // Two w1.heap.size w v n V b (.slice aox L.length capx) L w' ∧ CodeIs w' ve 9 }, t.1.cell? ⟨w1.heap.size + 1, 0, none⟩ = some (.slice aox L.length capx) := fun t => row_cell t.2.1.r.1 (j := 0) rfl
        have hyt : ∀ t : { w' : World // Two w1.heap.size w v n V b (.slice aox L.length capx) L w' ∧ CodeIs w' ve 9 }, t.1.cell? ⟨ab, off + j * 2, none⟩ = some (.int .u64 (N : Int)) := fun t => (t.2.1.below.cell (p := ⟨ab, off + j * 2, none⟩) hbl).trans K0.out
        go_wp2_with fail
        refine wp_region_seq (S := fun w' => Two w1.heap.size w v n V b (.slice aox L.length capx) L w' ∧ CodeIs w' ve 9) [(0, true), (2, true), (1, false), (3, true), (4, true), (5, true), (7, true), (8, true), (9, true), (10, true), (11, true), (6, false), (12, true), (13, true), (14, true), (15, true), (16, true), (17, true), (18, true), (19, true), (21, true), (22, true), (23, true), (24, true), (25, true), (20, false), (26, false), (27, true), (28, true), (29, true), (30, true), (31, true), (32, true), (33, true), (34, true), (36, true), (37, true), (38, true), (39, true), (40, true), (35, false), (41, false), (42, true), (43, true)] (by kernel_rfl) (by kernel_rfl) (by kernel_rfl) (by kernel_rfl) (tk_drew hT6) ?_
        have hT6 := tk_drew hT6
        iterate 2 (refine seq_take _ rfl (fun K hK => ?_); go_simp; refine hK _ ?_; clear hK K)
        refine seq_come _ rfl (fun K hK => ?_); go_simp
        refine (tc_code hT6).mono ?_; rintro e w6 ⟨rfl, hT6⟩
        go_simp; refine hK.out _ _ hT6 ?_; clear hK K
        iterate 8 (refine seq_take _ rfl (fun K hK => ?_); go_simp; refine hK _ ?_; clear hK K)
        refine seq_come _ rfl (fun K hK => ?_); go_simp
        refine (tc_len hT6).mono ?_; rintro e w6 ⟨rfl, hT6⟩
        go_simp; refine hK.out _ _ hT6 ?_; clear hK K
        iterate 13 (refine seq_take _ rfl (fun K hK => ?_); go_simp; refine hK _ ?_; clear hK K)
        refine seq_come _ rfl (fun K hK => ?_); go_simp
        refine (leads_any N _ HN).mono ?_; rintro e w6 ⟨rfl, rfl⟩
        go_simp; refine hK.out _ _ hT6 ?_; clear hK K
        refine seq_come _ rfl (fun K hK => ?_); go_simp
        refine (rlead_any N _ HN).mono ?_; rintro e w6 ⟨rfl, rfl⟩
        go_simp; refine hK.out _ _ hT6 ?_; clear hK K
        iterate 13 (refine seq_take _ rfl (fun K hK => ?_); go_simp; refine hK _ ?_; clear hK K)
        refine seq_come _ rfl (fun K hK => ?_); go_simp
        refine (trailz_any N _ HN).mono ?_; rintro e w6 ⟨rfl, rfl⟩
        go_simp; refine hK.out _ _ hT6 ?_; clear hK K
        refine seq_come _ rfl (fun K hK => ?_); go_simp
        refine (rtrail_any N _ HN).mono ?_; rintro e w6 ⟨rfl, rfl⟩
        go_simp; refine hK.out _ _ hT6 ?_; clear hK K
        iterate 2 (refine seq_take _ rfl (fun K hK => ?_); go_simp; refine hK _ ?_; clear hK K)
        refine seq_done ?_
        go_wp2_with fail
        exact ⟨⟨j + 1, n, V, v, _, b, L, by omega, by omega, HLn.out, HLV.out, by simp, hT6.1⟩, by simp [intOf]; omega⟩
    · obtain rfl : j = l.length := by omega
      go_wp2_with fail
      refine (first5 wr).mono ?_; rintro e w6 ⟨rfl, hb6⟩
      have hT6 := HT.out.keep hb6
      have HT6 := Lib.hid hT6
      clear hb6 hT6
      have hLn : L.length ≤ 1000000 := by have := HLn.out; omega
      go_wp2_with fail
      refine (bstr_any _ _ _ _ _ w6 HT6.out.a).mono ?_; rintro e w7 ⟨rfl, rfl⟩
      go_wp2_with fail
      refine (rtext_any _ _ L w6 HT6.out.r hLn).mono ?_; rintro e w7 ⟨rfl, hb7⟩
      have hbe : b = packB L.length (bitV L) := by
        have := wb_packB HT6.out.a.2.2.1 HT6.out.a.2.2.2
        rw [this, HLn.out, HLV.out]
      have HB7 := Lib.hid (HT6.out.below.trans (hb7.mono HT6.out.below.size))
      subst hbe
      clear hb7
      go_wp2
      go_ret
      exact ⟨rfl, HB7.out⟩
set_option maxRecDepth 1000000 in
theorem bwrites_long (ao : Option Addr) (cap len : Nat) (w : World) (hl : 300 < len) :
    Calls Tryd.prog 7 #[.slice ao len cap] w fun e w' => e = .returned (.bool true) ∧ Below w.heap.size w w' := by
  go_enter Tryd.func7, Tryd.ntmps7
  go_wp2_with fail
  refine (first5 w).mono ?_; rintro e w1 ⟨rfl, hb1⟩
  go_wp2_with fail
  refine (first5 w1).mono ?_; rintro e w2 ⟨rfl, hb2⟩
  go_wp2
  go_ret
  exact ⟨rfl, below_trans hb1 hb2⟩
end Go.Proofs.YtbhppchdoalahaaDoor
