/-
  xor.Get.
-/
import Derived.Test.YtihoemimiplhfaaDoorXorCol
import Derived.Test.YtihoemimiplhfaaDoorFilled
import Derived.Laws.OwnMore
namespace Go.Proofs.YtihoemimiplhfaaDoor
open Go.RowKit

theorem Tryd.elU64x : Elem Tryd.prog 22 40 (.int .u64 0) 1 8 := ⟨Tryd.underlying22, by kernel_rfl, by decide⟩
/-- what Get answers of a count that may be, and what it leaves -/
def XGPost (s : ByteArray) (c : Nat) (w : World) (e : Ending) (w' : World) : Prop :=
  Below w.heap.size w w' ∧ ((∃ ls, GoodX s c ls ∧ ∃ ao cap, e = .returned (.tuple #[.slice ao c cap, .nilIface]) ∧ Nats .u64 w' ao ls) ∨
    ((∀ ls, ¬ GoodX s c ls) ∧ ∃ x, e = .returned (.tuple #[.slice none 0 0, .iface 103 x])))
theorem xg_bad {s : ByteArray} {c : Nat} {w w' : World} (hb : Below w.heap.size w w') (h : ∀ ls, ¬ GoodX s c ls) (x : Value) : XGPost s c w (.returned (.tuple #[.slice none 0 0, .iface 103 x])) w' := ⟨hb, .inr ⟨h, x, rfl⟩⟩
/-- as it goes on: what the bits have told so far, if nothing was wrong; what they tell if the text is a column -/
structure XGAt (s : ByteArray) (c j : Nat) (ls : List Nat) (q : Nat) (b : Bool) : Prop where
  len : ls.length = j
  le : q ≤ 8 * s.size
  all : ∀ n ∈ ls, n < 18446744073709551616
  at_ : b = false → XAt s ls q
  good : ∀ l, GoodX s c l → b = false ∧ ls = l.take j ∧ q = catN (xenc (l.take j))
theorem xgat_start (s : ByteArray) (c : Nat) : XGAt s c 0 [] 0 false := ⟨rfl, by omega, by simp, fun _ => xat_start s, fun l _ => ⟨rfl, rfl, rfl⟩⟩
theorem xgat_first {s : ByteArray} {c q n : Nat} {ls : List Nat} {b : Bool} (h : XGAt s c 0 ls q b) (hq : q + 64 ≤ 8 * s.size) (hn : getB s.data.toList q 64 = n) (hc : 0 < c) : ls = [] ∧ XGAt s c 1 [n] (q + 64) b := by
  have h0 : ls = [] := List.length_eq_zero_iff.1 h.len
  subst h0
  have hnl : n < 18446744073709551616 := by rw [← hn]; exact getB_lt s.data.toList q 64
  refine ⟨rfl, rfl, hq, by simp [hnl], fun hb => ?_, fun l hg => ?_⟩
  · obtain ⟨h1, h2, _⟩ := h.at_ hb
    have := xat_add h1 h2 hn hq
    exact ⟨this.1, this.2, by simp [hnl]⟩
  · obtain ⟨h1, _, h3⟩ := h.good l hg
    have hl : 0 < l.length := by rw [hg.1]; exact hc
    have ht := xenc_take hl
    have hp : xpart (l.take 0) l[0] = [(l[0], 64)] := rfl
    obtain ⟨bb, hbb⟩ := xenc_split hl
    rw [hp] at ht hbb
    have hm := good_mid hg (by rw [hbb]; rfl)
    have e0 : catN (xenc (l.take 0)) = 0 := rfl
    rw [e0] at hm h3
    subst h3
    refine ⟨h1, ?_, ?_⟩
    · rw [List.take_succ_eq_append_getElem hl, ← hm.1, hn]; rfl
    · rw [ht, catN_append, e0]; rfl
theorem xgat_next {s : ByteArray} {c j q x q' : Nat} {ls : List Nat} {b d : Bool} (h : XGAt s c j ls q b) (hj : 0 < j) (hjc : j < c) (hx : xnx s q = some (x, q', d)) : XGAt s c (j + 1) (ls ++ [ls.getLast?.getD 0 ^^^ x]) q' (b || d) := by
  have hl := xnx_lt hx
  have hla := getLastD_lt h.all
  refine ⟨by simp [h.len], hl.2.1, ?_, fun hb => ?_, fun l hg => ?_⟩
  · intro n hn
    rcases List.mem_append.1 hn with hn | hn
    · exact h.all n hn
    · rw [List.mem_singleton] at hn; subst hn; exact xor_lt hla hl.2.2
  · rw [Bool.or_eq_false_iff] at hb
    rw [hb.2] at hx
    exact xat_next (h.at_ hb.1) (by intro e; have := h.len; rw [e] at this; simp at this; omega) hx
  · obtain ⟨h1, h2, h3⟩ := h.good l hg
    have hll : j < l.length := by rw [hg.1]; exact hjc
    have hgn := xnx_good hg hj hll
    rw [← h3, hx] at hgn
    simp only [Option.some.injEq, Prod.mk.injEq] at hgn
    obtain ⟨e1, e2, e3⟩ := hgn
    refine ⟨by rw [h1, e3]; rfl, ?_, e2⟩
    rw [List.take_succ_eq_append_getElem hll, e1, ← h2, Nat.xor_comm l[j], ← Nat.xor_assoc, Nat.xor_self, Nat.zero_xor]
theorem xgat_none {s : ByteArray} {c j q : Nat} {ls : List Nat} {b : Bool} (h : XGAt s c j ls q b) (hj : 0 < j) (hjc : j < c) (hx : xnx s q = none) (l : List Nat) : ¬ GoodX s c l := fun hg => by
  obtain ⟨h1, h2, h3⟩ := h.good l hg
  have hgn := xnx_good hg hj (by rw [hg.1]; exact hjc)
  rw [← h3, hx] at hgn
  simp at hgn
theorem xgat_short {s : ByteArray} {c q : Nat} {ls : List Nat} {b : Bool} (h : XGAt s c 0 ls q b) (hc : 0 < c) (hx : 8 * s.size < q + 64) (l : List Nat) : ¬ GoodX s c l := fun hg => by
  obtain ⟨h1, h2, h3⟩ := h.good l hg
  have hl : 0 < l.length := by rw [hg.1]; exact hc
  obtain ⟨bb, hbb⟩ := xenc_split hl
  have hp : xpart (l.take 0) l[0] = [(l[0], 64)] := rfl
  rw [hp] at hbb
  have hm := good_mid hg (by rw [hbb]; rfl)
  rw [← h3] at hm
  omega
theorem xgat_end {s : ByteArray} {c q : Nat} {ls : List Nat} {b : Bool} (h : XGAt s c c ls q b) : (b = false → 8 * s.size - q < 8 → getB s.data.toList q (8 * s.size - q) = 0 → GoodX s c ls) ∧ (b = true ∨ 8 ≤ 8 * s.size - q ∨ getB s.data.toList q (8 * s.size - q) ≠ 0 → ∀ l, ¬ GoodX s c l) := by
  refine ⟨fun h1 h2 h3 => xat_done (h.at_ h1) h.len h.le h2 h3, fun h1 l hg => ?_⟩
  obtain ⟨g1, g2, g3⟩ := h.good l hg
  rw [List.take_of_length_le (by rw [hg.1]; exact Nat.le_refl _)] at g3
  obtain ⟨r1, r2, r3⟩ := good_rest hg
  rw [← g3] at r1 r2 r3
  rcases h1 with h1 | h1 | h1
  · rw [g1] at h1; simp at h1
  · omega
  · exact h1 r3
theorem bend_ok (p : Nat) (s : ByteArray) (i : Nat) (w : World) (h : RAt w p s i) (hs : s.size ≤ 1000000000) (hi : i ≤ 8 * s.size) (h1 : 8 * s.size - i < 8) (h2 : getB s.data.toList i (8 * s.size - i) = 0) :
    Calls Tryd.prog 42 #[.pointer (some ⟨p, 0, none⟩)] w fun e w' => e = .returned .nilIface ∧ Below w.heap.size w w' :=
  (bend_any p s i w h hs hi).mono fun e w' h3 => by
    unfold BEnd at h3
    rw [if_neg (by omega), if_neg (by rw [h2]; simp)] at h3
    exact h3
theorem bend_no (p : Nat) (s : ByteArray) (i : Nat) (w : World) (h : RAt w p s i) (hs : s.size ≤ 1000000000) (hi : i ≤ 8 * s.size) (h1 : 8 ≤ 8 * s.size - i ∨ getB s.data.toList i (8 * s.size - i) ≠ 0) :
    Calls Tryd.prog 42 #[.pointer (some ⟨p, 0, none⟩)] w fun e w' => (∃ x, e = .returned (.iface 103 x)) ∧ Below w.heap.size w w' :=
  (bend_any p s i w h hs hi).mono fun e w' h3 => by
    unfold BEnd at h3
    split at h3
    · obtain ⟨v, rfl, ⟨a, _, rfl, _⟩, h5⟩ := h3
      exact ⟨⟨_, rfl⟩, h5⟩
    · rw [if_pos (by omega)] at h3
      obtain ⟨v, rfl, ⟨a, _, rfl, _⟩, h5⟩ := h3
      exact ⟨⟨_, rfl⟩, h5⟩
set_option maxRecDepth 1000000 in
set_option maxHeartbeats 8000000 in
theorem xget_any (s : ByteArray) (c : Nat) (w : World) (hs : s.size ≤ 1000000000) (hc : c ≤ 20000) :
    Calls Tryd.prog 14 #[.string s, .int .i64 c] w (XGPost s c w) := by
  obtain ⟨i0, hi, hz0, hz1, hz2⟩ := info_parts Tryd.elU64x.2.1
  go_enter Tryd.func14, Tryd.ntmps14
  go_wp2_with fail
  refine (newr_any s w).mono ?_; rintro e w1 ⟨rfl, rfl⟩
  have hr1 : RAt ((w.alloc (.cells #[.string s, .int .i64 0] 120)).alloc (.cells #[.pointer (some ⟨w.heap.size, 0, none⟩), .nilIface] 77)) w.heap.size s 0 := rat_below (rat_new s w) (below_new0 _ _)
  have hq1 := heap_alloc_new (w.alloc (.cells #[.string s, .int .i64 0] 120)) (.cells #[.pointer (some ⟨w.heap.size, 0, none⟩), .nilIface] 77)
  have hb1 : Below w.heap.size w ((w.alloc (.cells #[.string s, .int .i64 0] 120)).alloc (.cells #[.pointer (some ⟨w.heap.size, 0, none⟩), .nilIface] 77)) := (below_new0 w _).alloc (by simp) _
  have hsz1 : ((w.alloc (.cells #[.string s, .int .i64 0] 120)).alloc (.cells #[.pointer (some ⟨w.heap.size, 0, none⟩), .nilIface] 77)).heap.size = w.heap.size + 2 := by simp
  rw [show (w.alloc (.cells #[.string s, .int .i64 0] 120)).heap.size = w.heap.size + 1 by simp] at hq1
  have HR1 := Lib.hid hr1
  have HQ1 := Lib.hid hq1
  have HB1 := Lib.hid hb1
  have HS1 := Lib.hid hsz1
  have hws : w.heap.size + 2 ≤ ((w.alloc (.cells #[.string s, .int .i64 0] 120)).alloc (.cells #[.pointer (some ⟨w.heap.size, 0, none⟩), .nilIface] 77)).heap.size := by rw [hsz1]; exact Nat.le_refl _
  clear hr1 hq1 hb1 hsz1
  go_wp2_with (at_make; refine wpList_make_full _ rfl _ _ 22 rfl (w.heap.size + 2) 40 i0 (.int .u64 0) 1 Tryd.underlying22 hi hz0 hz1 _ _ _ _ c rfl rfl rfl rfl (by rw [hz2]; omega) (by unfold maxLen; omega) hws ?_; intro w2 hown hgrow)
  obtain ⟨w1, hw1⟩ : ∃ w1, (w.alloc (.cells #[.string s, .int .i64 0] 120)).alloc (.cells #[.pointer (some ⟨w.heap.size, 0, none⟩), .nilIface] 77) = w1 := ⟨_, rfl⟩
  rw [hw1] at HR1 HQ1 HB1 HS1 hws hown hgrow
  have hB2 : Below w.heap.size w w2 := HB1.out.grown hgrow (by omega) (by simp)
  have hR2 : RAt w2 w.heap.size s 0 := (hgrow.block w.heap.size (row_lt HR1.out) (by simp)).trans HR1.out
  have hQ2 : w2.heap[w.heap.size + 1]? = some (.cells #[.pointer (some ⟨w.heap.size, 0, none⟩), .nilIface] 77 (0, 0)) := (hgrow.block (w.heap.size + 1) (row_lt HQ1.out) (by simp)).trans HQ1.out
  have hrows : (madeCells (Value.int .u64 0).cells (c * 1)).toList = filled [] c := by
    rw [Nat.mul_one]; exact (toList_madeCells_one _ _).trans (filled_zero c)
  rw [hrows, HS1.out] at hown
  obtain ⟨g, hg⟩ : ∃ g, w.heap.size + 2 = g := ⟨_, rfl⟩
  obtain ⟨q, hq⟩ : ∃ q, w.heap.size + 1 = q := ⟨_, rfl⟩
  have HRQ : Hid (w.heap.size ≠ q) := Lib.hid (by omega)
  have HQG : Hid (w.heap.size ≠ g ∧ q ≠ g ∧ w.heap.size ≤ q ∧ w.heap.size ≤ g) := Lib.hid (by omega)
  rw [show w.heap.size + 1 + 1 = g by omega]
  rw [hg] at hown
  rw [hq] at hQ2 ⊢
  have HO := Lib.hid hown
  have HB := Lib.hid hB2
  have HC : Hid (CAt w.heap.size q s 0 .nilIface w2) := Lib.hid ⟨hR2, hQ2⟩
  clear hown hB2 hR2 hQ2 hrows hgrow hg hq hws hw1 HR1 HQ1 HB1 HS1
  go_wp2_with fail
  go_loopg [8, 28] c (fun k vla i wr => ∃ (j : Nat) (ls : List Nat) (la qq : Nat) (b : Bool) (f : Value), j + k = c ∧ i = .int .i64 j ∧ vla = .int .u64 la ∧ Hid (la = ls.getLast?.getD 0) ∧ Hid (XGAt s c j ls qq b) ∧ Hid (FV b f) ∧
    Hid (CAt w.heap.size q s qq f wr) ∧ wr.ownsRow g 40 1 (.slice (some ⟨g, 0, none⟩) c c) c (filled ls k) ∧ Below w.heap.size w wr)
  case atStart => exact ⟨0, [], 0, 0, false, .nilIface, by omega, rfl, rfl, Lib.hid rfl, Lib.hid (xgat_start s c), Lib.hid rfl, HC, HO.out, HB.out⟩
  case round =>
    obtain ⟨j, ls, la, qq, b, f, hj, rfl, rfl, HLA, HX, HF, HC2, hown, hbr⟩ := hrel
    have HO2 := Lib.hid hown
    have HB2 := Lib.hid hbr
    have HJ := Lib.hid hj
    have hq0 : wr.cell? ⟨q, 0, none⟩ = some (.pointer (some ⟨w.heap.size, 0, none⟩)) := row_cell HC2.out.2 (j := 0) rfl
    have hq1 : wr.cell? ⟨q, 1, none⟩ = some f := row_cell HC2.out.2 (j := 1) rfl
    have hqle := HX.out.le
    have hlal : la < 18446744073709551616 := by rw [HLA.out]; exact getLastD_lt HX.out.all
    clear hown hbr hj
    by_cases hlt : j < c
    · obtain ⟨m, rfl⟩ : ∃ m, gk = m + 1 := ⟨gk - 1, by have := HJ.out; omega⟩
      have hlen := HX.out.len
      have hi1 : (j : Int) < (c : Int) := by omega
      have hc0 : 0 < c := by omega
      by_cases hz : j = 0
      · have hz' : ((j : Int) == 0) = true := by subst hz; rfl
        have HX0 : Hid (XGAt s c 0 ls qq b) := Lib.hid (by have h5 := HX.out; rw [hz] at h5; exact h5)
        have HZ := Lib.hid hz
        clear hz
        go_wp2_with fail
        by_cases hsh : 8 * s.size < qq + 64
        · have HE : Hid (∀ l, ¬ GoodX s c l) := Lib.hid (xgat_short HX0.out hc0 hsh)
          refine (bget_short _ s qq 64 _ HC2.out.1 hs hqle (by omega) hsh).mono ?_; rintro e w3 ⟨⟨x, rfl⟩, hb3⟩
          have HB3 := Lib.hid (HB2.out.trans (hb3.mono HB2.out.size))
          clear hb3
          go_wp2_with fail
          go_ret2
          exact xg_bad HB3.out HE.out x
        obtain ⟨x, hx⟩ : ∃ x, getB s.data.toList qq 64 = x := ⟨_, rfl⟩
        have hxl : x < 18446744073709551616 := by rw [← hx]; exact getB_lt s.data.toList qq 64
        refine (bget_ok _ s qq 64 _ HC2.out.1 hs (by omega) (by omega) (Lib.hid hx)).mono ?_; rintro e w3 ⟨rfl, hr3, hu3'⟩
        have HC3 := Lib.hid (cat_upd HC2.out hr3.out hu3' HRQ.out)
        have hu3 : Upd (fun k => k = w.heap.size ∨ k = q) wr w3 := upd_mono hu3' (fun k h => .inl h)
        obtain ⟨n2, hn2⟩ : ∃ n2, la ^^^ x = n2 := ⟨_, rfl⟩
        obtain ⟨f3, hfe⟩ : ∃ f3, f = f3 := ⟨_, rfl⟩
        have hf3 : FV b f3 := by rw [← hfe]; exact HF.out
        rw [hfe] at HC3
        have HX3 : Hid (XGAt s c (j + 1) (ls ++ [n2]) (qq + 64) b) := Lib.hid (by
          have h5 := xgat_first HX0.out (by omega) hx hc0
          have h6 : la = 0 := by rw [HLA.out, h5.1]; rfl
          rw [HZ.out, h5.1, ← hn2, h6, Nat.zero_xor]
          exact h5.2)
        clear hr3 hu3' hfe hx hsh
        have HF3 := Lib.hid hf3
        have HB3 : Hid (Below w.heap.size w w3) := Lib.hid (HB2.out.trans (hu3.below HB2.out.size (fun k _ hk => by have := HQG.out; omega)))
        have HO3 := Lib.hid (hu3.own HO2.out (fun k hk h => by have h5 := HQG.out; simp [Value.ownBlock] at hk; omega))
        have e1 : bits .xor .u64 (la : Int) (x : Int) = (n2 : Int) := by rw [xor64 la x hlal hxl, hn2]
        have hce : w3.cell? ⟨g, j, none⟩ = some (.int .u64 0) := (HO3.out.cellAt j (by omega)).trans (by rw [← hlen]; exact filled_at ls m)
        have hfz : w3.frozen? ⟨g, j, none⟩ = false := HO3.out.frozenAt j
        have hjc : (j : Int) < (c : Int) := by omega
        clear hu3 hf3 hq0 hq1
        go_wp2_with fail
        have hj := HJ.out
        have HU4 := Upd.set w3 ⟨g, j, none⟩ (.int .u64 (n2 : Int))
        have HO4 := (HO3.out.stored j (.int .u64 (n2 : Int))).1
        have hset : (filled ls (m + 1)).set j (.int .u64 (n2 : Int)) = filled (ls ++ [n2]) m := by rw [← hlen]; exact filled_set ls m n2
        rw [hset] at HO4
        go_roundg m
        case measure => omega
        case rel => exact ⟨j + 1, ls ++ [n2], n2, _, _, f3, by omega, by simp, rfl, Lib.hid (by simp), HX3, HF3, Lib.hid ⟨rat_upd HC3.out.1 HU4 (fun h => HQG.out.1 h), (HU4.block q (row_lt HC3.out.2) (fun h => HQG.out.2.1 h)).trans HC3.out.2⟩, HO4, HB3.out.trans (HU4.below HB3.out.size (fun k _ hk => by subst hk; exact HQG.out.2.2.2))⟩
      · have hz' : ((j : Int) == 0) = false := by simp; omega
        have hj0 : 0 < j := by omega
        have HJ0 := Lib.hid hj0
        clear hz hj0
        go_wp2_with fail
        cases hxn : xnx s qq with
        | none =>
          have HE : Hid (∀ l, ¬ GoodX s c l) := Lib.hid (xgat_none HX.out HJ0.out hlt hxn)
          have HN := Lib.hid hxn
          clear hxn
          refine (cnext_any _ q s qq b f _ HC2 HF HRQ hs hqle).mono ?_; rintro e w3 h3
          unfold CNext at h3
          rw [HN.out] at h3
          obtain ⟨⟨x, rfl⟩, hu3⟩ := h3
          have HB3 : Hid (Below w.heap.size w w3) := Lib.hid (HB2.out.trans (hu3.below HB2.out.size (fun k _ hk => by have := HQG.out; omega)))
          clear hu3
          go_wp2_with fail
          go_ret2
          exact xg_bad HB3.out HE.out x
        | some y =>
        obtain ⟨x, q2, d⟩ := y
        have hxl := (xnx_lt hxn).2.2
        have HN := Lib.hid hxn
        clear hxn
        refine (cnext_any _ q s qq b f _ HC2 HF HRQ hs hqle).mono ?_; rintro e w3 h3
        unfold CNext at h3
        rw [HN.out] at h3
        obtain ⟨rfl, f3, hf3, HC3, hu3⟩ := h3
        obtain ⟨n2, hn2⟩ : ∃ n2, la ^^^ x = n2 := ⟨_, rfl⟩
        have HX3 : Hid (XGAt s c (j + 1) (ls ++ [n2]) q2 (b || d)) := Lib.hid (by
          have h5 := xgat_next HX.out HJ0.out hlt HN.out
          rw [← HLA.out, hn2] at h5
          exact h5)
        have HF3 := Lib.hid hf3
        have HB3 : Hid (Below w.heap.size w w3) := Lib.hid (HB2.out.trans (hu3.below HB2.out.size (fun k _ hk => by have := HQG.out; omega)))
        have HO3 := Lib.hid (hu3.own HO2.out (fun k hk h => by have h5 := HQG.out; simp [Value.ownBlock] at hk; omega))
        have e1 : bits .xor .u64 (la : Int) (x : Int) = (n2 : Int) := by rw [xor64 la x hlal hxl, hn2]
        have hce : w3.cell? ⟨g, j, none⟩ = some (.int .u64 0) := (HO3.out.cellAt j (by omega)).trans (by rw [← hlen]; exact filled_at ls m)
        have hfz : w3.frozen? ⟨g, j, none⟩ = false := HO3.out.frozenAt j
        have hjc : (j : Int) < (c : Int) := by omega
        clear hu3 hf3 hq0 hq1
        go_wp2_with fail
        have hj := HJ.out
        have HU4 := Upd.set w3 ⟨g, j, none⟩ (.int .u64 (n2 : Int))
        have HO4 := (HO3.out.stored j (.int .u64 (n2 : Int))).1
        have hset : (filled ls (m + 1)).set j (.int .u64 (n2 : Int)) = filled (ls ++ [n2]) m := by rw [← hlen]; exact filled_set ls m n2
        rw [hset] at HO4
        go_roundg m
        case measure => omega
        case rel => exact ⟨j + 1, ls ++ [n2], n2, _, _, f3, by omega, by simp, rfl, Lib.hid (by simp), HX3, HF3, Lib.hid ⟨rat_upd HC3.out.1 HU4 (fun h => HQG.out.1 h), (HU4.block q (row_lt HC3.out.2) (fun h => HQG.out.2.1 h)).trans HC3.out.2⟩, HO4, HB3.out.trans (HU4.below HB3.out.size (fun k _ hk => by subst hk; exact HQG.out.2.2.2))⟩
    · obtain rfl : gk = 0 := by have := HJ.out; omega
      obtain rfl : j = c := by have := HJ.out; omega
      have HEND := Lib.hid (xgat_end HX.out)
      have hi1 : ¬ (j : Int) < (j : Int) := by omega
      have hlen := HX.out.len
      have HNN : Hid (Nats .u64 wr (some ⟨g, 0, none⟩) ls) := Lib.hid (by
        have h1 := HO2.out
        rw [filled_all] at h1
        have h2 : wr.ownsRow g 40 1 (.slice (some ⟨g, 0, none⟩) ls.length j) ls.length (nvals ls) := by rw [hlen]; exact h1
        exact nats_of_own h2)
      clear hlen
      go_wp2_with fail
      by_cases hbad : 8 ≤ 8 * s.size - qq ∨ getB s.data.toList qq (8 * s.size - qq) ≠ 0
      · have HE : Hid (∀ l, ¬ GoodX s j l) := Lib.hid (HEND.out.2 (.inr hbad))
        refine (bend_no _ s qq _ HC2.out.1 hs hqle hbad).mono ?_; rintro e w3 ⟨⟨x, rfl⟩, hb3⟩
        have HB3 := Lib.hid (HB2.out.trans (hb3.mono HB2.out.size))
        clear hb3 hbad
        go_wp2_with fail
        go_ret2
        exact xg_bad HB3.out HE.out x
      refine (bend_ok _ s qq _ HC2.out.1 hs hqle (by omega) (by omega)).mono ?_; rintro e w3 ⟨rfl, hb3⟩
      have HB3 := Lib.hid (HB2.out.trans (hb3.mono HB2.out.size))
      have HN3 := Lib.hid (HNN.out.below hb3)
      have hq2 : w3.cell? ⟨q, 1, none⟩ = some f := row_cell ((hb3.block q (row_lt HC2.out.2)).trans HC2.out.2) (j := 1) rfl
      have HOK : Hid (b = false → GoodX s j ls) := Lib.hid (fun h => HEND.out.1 h (by omega) (by omega))
      have hsz3 := hb3.size
      clear hb3 hbad hq0 hq1
      cases b with
      | true =>
        obtain ⟨x, rfl⟩ := HF.out.yes
        have HE : Hid (∀ l, ¬ GoodX s j l) := Lib.hid (HEND.out.2 (.inl rfl))
        have hqlt : q < w3.heap.size := Nat.lt_of_lt_of_le (row_lt HC2.out.2) hsz3
        have hne : Nonempty { w' : World // Below w3.heap.size w3 w' } := ⟨⟨_, Below.refl _ _⟩⟩
        have hx1 : ∀ k : { w' : World // Below w3.heap.size w3 w' }, k.1.cell? ⟨q, 1, none⟩ = some (.iface 103 x) := fun k => (k.2.cell (p := ⟨q, 1, none⟩) hqlt).trans hq2
        go_wp2_with fail
        refine wp_region_seq (S := fun w' => Below w3.heap.size w3 w') [(0, true), (1, true), (2, true), (3, true)] (by kernel_rfl) (by kernel_rfl) (by kernel_rfl) (by kernel_rfl) (below_drew0 w3) ?_
        iterate 4 (refine seq_take _ rfl (fun K hK => ?_); go_simp; (first | refine hK _ ?_ | (refine ⟨undef, by rw [if_neg (by simp [undef])], ?_⟩; refine hK _ ?_)); clear hK K)
        refine seq_done ?_
        have HB4 := Lib.hid (HB3.out.trans ((below_drew0 w3).mono HB3.out.size))
        go_wp2_with fail
        go_ret2
        exact xg_bad HB4.out HE.out x
      | false =>
        obtain rfl := HF.out.no
        go_wp2_with fail
        go_ret2
        exact ⟨HB3.out, .inl ⟨ls, HOK.out (by simp), _, _, rfl, HN3.out⟩⟩
end Go.Proofs.YtihoemimiplhfaaDoor
