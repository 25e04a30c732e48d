/-
  The column that is read: its fault, and what differs.
-/
import Derived.Test.YtihoemimiplhfaaDoorXorNext
import Derived.Test.YtihoemimiplhfaaDoorBitsAt
import Derived.Test.YtihoemimiplhfaaDoorStrict
import Derived.Test.YtihoemimiplhfaaDoorOrd
namespace Go.Proofs.YtihoemimiplhfaaDoor
open Go.RowKit

/-- a column at block q: its Reader at block r, its fault -/
def CAt (r q : Nat) (s : ByteArray) (i : Nat) (f : Value) (w : World) : Prop := RAt w r s i ∧ w.heap[q]? = some (.cells #[.pointer (some ⟨r, 0, none⟩), f] 77 (0, 0))
theorem rat_upd {S : Nat → Prop} {w w' : World} {p i : Nat} {s : ByteArray} (h : RAt w p s i) (hu : Upd S w w') (hn : ¬ S p) : RAt w' p s i := (hu.block p (row_lt h) hn).trans h
theorem rat_below {w w' : World} {p i : Nat} {s : ByteArray} (h : RAt w p s i) (hu : Below w.heap.size w w') : RAt w' p s i := (hu.block p (row_lt h)).trans h
theorem bget_ok (p : Nat) (s : ByteArray) (i c : Nat) (w : World) (h : RAt w p s i) (hs : s.size ≤ 1000000000) (hi : i + c ≤ 8 * s.size) (hc : c ≤ 64) {n : Nat} (hn : Hid (getB s.data.toList i c = n)) :
    Calls Tryd.prog 40 #[.pointer (some ⟨p, 0, none⟩), .int .i64 c] w fun e w' => e = .returned (.tuple #[.int .u64 n, .nilIface]) ∧ Hid (RAt w' p s (i + c)) ∧ Upd (fun k => k = p) w w' :=
  (bget_any p s i c w h hs (by omega)).mono fun e w' h2 => by
    unfold BGet at h2
    rw [if_neg (by omega), if_neg (by omega)] at h2
    obtain ⟨h3, h4, h5⟩ := h2
    rw [Int.toNat_natCast] at h3 h4
    rw [hn.out] at h3
    exact ⟨h3, Lib.hid h4, h5⟩
theorem bget_short (p : Nat) (s : ByteArray) (i c : Nat) (w : World) (h : RAt w p s i) (hs : s.size ≤ 1000000000) (hi : i ≤ 8 * s.size) (hc : c ≤ 64) (hx : 8 * s.size < i + c) :
    Calls Tryd.prog 40 #[.pointer (some ⟨p, 0, none⟩), .int .i64 c] w fun e w' => (∃ x, e = .returned (.tuple #[.int .u64 0, .iface 103 x])) ∧ Below w.heap.size w w' :=
  (bget_any p s i c w h hs hi).mono fun e w' h2 => by
    unfold BGet at h2
    rw [if_neg (by omega), if_pos (by omega)] at h2
    obtain ⟨v, rfl, ⟨a, _, rfl, _⟩, h5⟩ := h2
    exact ⟨⟨_, rfl⟩, h5⟩
set_option maxRecDepth 1000000 in
set_option maxHeartbeats 2000000 in
theorem cfault_any (r q : Nat) (s : ByteArray) (i : Nat) (b : Bool) (f : Value) (w : World) (h : Hid (CAt r q s i f w)) (hf : FV b f) (hrq : Hid (r ≠ q)) :
    Calls Tryd.prog 66 #[.pointer (some ⟨q, 0, none⟩)] w fun e w' => e = .returned (.tuple #[]) ∧ ∃ f', FV true f' ∧ Hid (CAt r q s i f' w') ∧ Upd (fun k => k = q) w w' := by
  have hc0 : w.cell? ⟨q, 0, none⟩ = some (.pointer (some ⟨r, 0, none⟩)) := row_cell h.out.2 (j := 0) rfl
  have hc1 : w.cell? ⟨q, 1, none⟩ = some f := row_cell h.out.2 (j := 1) rfl
  cases b with
  | true =>
    obtain ⟨x, rfl⟩ := hf.yes
    go_enter Tryd.func66, Tryd.ntmps66
    go_wp2_with fail
    go_end0
    exact ⟨rfl, _, ⟨x, rfl⟩, h, Upd.refl _ _⟩
  | false =>
    obtain rfl := hf.no
    go_enter Tryd.func66, Tryd.ntmps66
    go_wp2_with fail
    refine (rat_any r s i _ h.out.1).mono ?_; rintro e w' ⟨rfl, rfl⟩
    go_wp2_with fail
    refine (at_any _ _ _ _).mono ?_; rintro e w1 ⟨rfl, rfl⟩
    have HB := Lib.hid (below_new0 w (.cells #[.int .i64 i, .iface 29 (.int .i64 3)] 105))
    obtain ⟨w1, hw1⟩ : ∃ w1, w.alloc (.cells #[.int .i64 i, .iface 29 (.int .i64 3)] 105) = w1 := ⟨_, rfl⟩
    obtain ⟨g, hg⟩ : ∃ g, w.heap.size = g := ⟨_, rfl⟩
    rw [hw1] at HB ⊢
    have HR1 := Lib.hid (rat_below h.out.1 HB.out)
    have HC1 : Hid (w1.heap[q]? = some (.cells #[.pointer (some ⟨r, 0, none⟩), .nilIface] 77 (0, 0))) := Lib.hid ((HB.out.block q (row_lt h.out.2)).trans h.out.2)
    have hfz : w1.frozen? ⟨q, 1, none⟩ = false := row_thaw HC1.out 1
    have hc1' : w1.cell? ⟨q, 1, none⟩ = some .nilIface := row_cell HC1.out (j := 1) rfl
    clear hc0 hc1 hw1
    rw [hg]
    go_wp2_with fail
    go_end0
    have HU := Upd.set w1 ⟨q, 1, none⟩ (.iface 103 (.pointer (some ⟨g, 0, none⟩)))
    refine ⟨rfl, _, ⟨_, rfl⟩, Lib.hid ⟨rat_upd HR1.out HU (fun e => hrq.out e), row_set HC1.out 1 _⟩, (Upd.of_new (S := fun k => k = q) HB.out).trans HU⟩
/-- what next leaves -/
def CNext (s : ByteArray) (i r q : Nat) (b : Bool) (w : World) (e : Ending) (w' : World) : Prop :=
  match xnx s i with
  | none => (∃ x, e = .returned (.tuple #[.int .u64 0, .iface 103 x])) ∧ Upd (fun k => k = r ∨ k = q) w w'
  | some (x, i', d) => e = .returned (.tuple #[.int .u64 x, .nilIface]) ∧ ∃ f', FV (b || d) f' ∧ Hid (CAt r q s i' f' w') ∧ Upd (fun k => k = r ∨ k = q) w w'
theorem cat_upd {r q i i' : Nat} {s : ByteArray} {f : Value} {w w' : World} (h : CAt r q s i f w) (h1 : RAt w' r s i') (hu : Upd (fun k => k = r) w w') (hn : r ≠ q) : CAt r q s i' f w' := ⟨h1, (hu.block q (row_lt h.2) (fun e => hn e.symm)).trans h.2⟩
theorem upd_mono {S T : Nat → Prop} {w w' : World} (h : Upd S w w') (hs : ∀ k, S k → T k) : Upd T w w' := ⟨h.os, h.tape, h.output, h.size, fun k h1 h2 => h.block k h1 (fun h3 => h2 (hs k h3))⟩
set_option maxRecDepth 1000000 in
set_option maxHeartbeats 8000000 in
theorem cnext_any (r q : Nat) (s : ByteArray) (i : Nat) (b : Bool) (f : Value) (w : World) (h : Hid (CAt r q s i f w)) (hf : Hid (FV b f)) (hrq : Hid (r ≠ q)) (hs : s.size ≤ 1000000000) (hi : i ≤ 8 * s.size) :
    Calls Tryd.prog 41 #[.pointer (some ⟨q, 0, none⟩)] w (CNext s i r q b w) := by
  have hc0 : w.cell? ⟨q, 0, none⟩ = some (.pointer (some ⟨r, 0, none⟩)) := row_cell h.out.2 (j := 0) rfl
  have hsz : w.heap.size ≤ w.heap.size := Nat.le_refl _
  go_enter Tryd.func41, Tryd.ntmps41
  go_wp2_with fail
  by_cases h1 : 8 * s.size < i + 1
  · have HP : Hid (xnx s i = none) := Lib.hid (by unfold xnx; rw [if_pos h1])
    refine (bget_short r s i 1 _ h.out.1 hs hi (by omega) h1).mono ?_; rintro e w1 ⟨⟨x, rfl⟩, hb1⟩
    have HU := Lib.hid (Upd.of_new (S := fun k => k = r ∨ k = q) hb1)
    clear hb1
    go_wp2_with fail
    go_ret2
    unfold CNext
    rw [HP.out]
    exact ⟨⟨x, rfl⟩, HU.out⟩
  obtain ⟨d, hd⟩ : ∃ d, getB s.data.toList i 1 = d := ⟨_, rfl⟩
  have hdl : d < 2 := by rw [← hd]; exact getB_lt s.data.toList i 1
  refine (bget_ok r s i 1 _ h.out.1 hs (by omega) (by omega) (Lib.hid hd)).mono ?_; rintro e w1 ⟨rfl, hr1, hu1⟩
  have HC1 := Lib.hid (cat_upd h.out hr1.out hu1 hrq.out)
  have HU1 : Hid (Upd (fun k => k = r ∨ k = q) w w1) := Lib.hid (upd_mono hu1 (fun k h => .inl h))
  have hc1 : w1.cell? ⟨q, 0, none⟩ = some (.pointer (some ⟨r, 0, none⟩)) := row_cell HC1.out.2 (j := 0) rfl
  clear hr1 hu1 hc0
  by_cases hd0 : d = 0
  · have HP : Hid (xnx s i = some (0, i + 1, false)) := Lib.hid (by unfold xnx; rw [if_neg h1, if_pos (by rw [hd]; exact hd0)])
    subst hd0
    clear hd hdl
    go_wp2_with fail
    go_ret2
    unfold CNext
    rw [HP.out]
    exact ⟨rfl, f, by simpa using hf.out, HC1, HU1.out⟩
  have hdz : ((d : Int) == 0) = false := by simp; omega
  have HD0 : Hid (getB s.data.toList i 1 ≠ 0) := Lib.hid (by rw [hd]; exact hd0)
  have H1 := Lib.hid h1
  clear hd hd0
  go_wp2_with fail
  by_cases h2 : 8 * s.size < i + 1 + 12
  · have HP : Hid (xnx s i = none) := Lib.hid (by unfold xnx; rw [if_neg H1.out, if_neg HD0.out, if_pos h2])
    refine (bget_short r s (i + 1) 12 _ HC1.out.1 hs (by omega) (by omega) h2).mono ?_; rintro e w2 ⟨⟨x, rfl⟩, hb2⟩
    have HU := Lib.hid (HU1.out.trans (Upd.of_new (S := fun k => k = r ∨ k = q) hb2))
    clear hb2
    go_wp2_with fail
    go_ret2
    unfold CNext
    rw [HP.out]
    exact ⟨⟨x, rfl⟩, HU.out⟩
  obtain ⟨hd, hhd⟩ : ∃ hd, getB s.data.toList (i + 1) 12 = hd := ⟨_, rfl⟩
  have hhl : hd < 4096 := by rw [← hhd]; exact getB_lt s.data.toList (i + 1) 12
  refine (bget_ok r s (i + 1) 12 _ HC1.out.1 hs (by omega) (by omega) (Lib.hid hhd)).mono ?_; rintro e w2 ⟨rfl, hr2, hu2⟩
  have HC2 := Lib.hid (cat_upd HC1.out hr2.out hu2 hrq.out)
  have HU2 : Hid (Upd (fun k => k = r ∨ k = q) w w2) := Lib.hid (HU1.out.trans (upd_mono hu2 (fun k h => .inl h)))
  have hc2 : w2.cell? ⟨q, 0, none⟩ = some (.pointer (some ⟨r, 0, none⟩)) := row_cell HC2.out.2 (j := 0) rfl
  have H2 := Lib.hid h2
  have HH := Lib.hid hhd
  clear hr2 hu2 hc1 hhd h2
  obtain ⟨le, hle⟩ : ∃ le, hd / 64 = le := ⟨_, rfl⟩
  obtain ⟨sz, hsz'⟩ : ∃ sz, hd % 64 + 1 = sz := ⟨_, rfl⟩
  obtain ⟨sz0, hsz0⟩ : ∃ sz0, hd % 64 = sz0 := ⟨_, rfl⟩
  have e1 : (hd : Int) / 64 = (le : Int) := by omega
  have e2 : bits .and .u64 (hd : Int) 63 = (sz0 : Int) := by rw [mask64 hd 6 (by omega) (by omega) (by rfl)]; simp [← hsz0]
  have e3 : (sz0 : Int) + 1 = (sz : Int) := by omega
  have hl9 : le < 64 := by omega
  have hs0 : sz0 < 64 := by omega
  have hs9 : sz ≤ 64 := by omega
  have hs1 : 1 ≤ sz := by omega
  have HLE : Hid (getB s.data.toList (i + 1) 12 / 64 = le) := Lib.hid (by rw [HH.out, hle])
  have HSZ : Hid (getB s.data.toList (i + 1) 12 % 64 + 1 = sz) := Lib.hid (by rw [HH.out, hsz'])
  clear hle hsz' hsz0
  go_wp2_with fail
  by_cases h3 : 8 * s.size < i + 1 + 12 + sz
  · have HP : Hid (xnx s i = none) := Lib.hid (by unfold xnx; rw [if_neg H1.out, if_neg HD0.out, if_neg H2.out, HSZ.out, if_pos (by omega)])
    refine (bget_short r s (i + 1 + 12) sz _ HC2.out.1 hs (by have := H2.out; omega) hs9 h3).mono ?_; rintro e w3 ⟨⟨x, rfl⟩, hb3⟩
    have HU := Lib.hid (HU2.out.trans (Upd.of_new (S := fun k => k = r ∨ k = q) hb3))
    clear hb3
    go_wp2_with fail
    go_ret2
    unfold CNext
    rw [HP.out]
    exact ⟨⟨x, rfl⟩, HU.out⟩
  obtain ⟨y, hy⟩ : ∃ y, getB s.data.toList (i + 1 + 12) sz = y := ⟨_, rfl⟩
  have hyl0 : y < 2 ^ sz := by rw [← hy]; exact getB_lt s.data.toList (i + 1 + 12) sz
  have hyl : y < 18446744073709551616 := Nat.lt_of_lt_of_le hyl0 (Nat.pow_le_pow_right (by omega) hs9)
  refine (bget_ok r s (i + 1 + 12) sz _ HC2.out.1 hs (by omega) hs9 (Lib.hid hy)).mono ?_; rintro e w3 ⟨rfl, hr3, hu3⟩
  have HC3 := Lib.hid (cat_upd HC2.out hr3.out hu3 hrq.out)
  have HU3 : Hid (Upd (fun k => k = r ∨ k = q) w w3) := Lib.hid (HU2.out.trans (upd_mono hu3 (fun k h => .inl h)))
  have HX : Hid (∀ z m, (if 64 < le + sz ∨ y % 2 = 0 ∨ blen y ≠ sz then some (0, i + 13 + sz, true) else some (y * 2 ^ (64 - le - sz), i + 13 + sz, false)) = some (z, i + 13 + sz, m) → xnx s i = some (z, i + 1 + 12 + sz, m)) := Lib.hid (by
    intro z m hzm
    unfold xnx
    rw [if_neg H1.out, if_neg HD0.out, if_neg H2.out, HLE.out, HSZ.out, if_neg (by omega), show i + 13 = i + 1 + 12 by omega, hy, show i + 1 + 12 = i + 13 by omega, hzm])
  have HYL := Lib.hid hyl0
  clear hr3 hu3 hc2 h3 hy hyl0 e1 e2 e3 H1 H2 HD0 HH HLE HSZ hhl hs0
  by_cases ha : 64 < le + sz
  · have HP := Lib.hid (HX.out 0 true (by rw [if_pos (.inl ha)]))
    have e1 : (64 : Int) - (le : Int) - (sz : Int) < 0 := by omega
    clear HX
    go_wp2_with fail
    refine (cfault_any r q s (i + 1 + 12 + sz) b f _ HC3 hf.out hrq).mono ?_; rintro e w4 ⟨rfl, f', hf', hc4, hu4⟩
    have HF4 := Lib.hid hf'
    have HU4 := Lib.hid (HU3.out.trans (upd_mono hu4 (fun k h => .inr h)))
    clear hf' hu4
    go_wp2_with fail
    go_ret2
    unfold CNext
    rw [HP.out]
    exact ⟨rfl, f', by rw [Bool.or_true]; exact HF4.out, hc4, HU4.out⟩
  obtain ⟨tr, htr⟩ : ∃ tr, 64 - le - sz = tr := ⟨_, rfl⟩
  have e1 : (64 : Int) - (le : Int) - (sz : Int) = (tr : Int) := by omega
  have e2 : bits .and .u64 (y : Int) 1 = ((y % 2 : Nat) : Int) := by rw [mask64 y 1 hyl (by omega) (by rfl)]
  have htr64 : tr ≤ 64 := by omega
  have HA := Lib.hid ha
  clear ha
  by_cases hodd : y % 2 = 0
  · have HP := Lib.hid (HX.out 0 true (by rw [if_pos (.inr (.inl hodd))]))
    rw [hodd] at e2
    clear HX hodd
    go_wp2_with fail
    refine (cfault_any r q s (i + 1 + 12 + sz) b f _ HC3 hf.out hrq).mono ?_; rintro e w4 ⟨rfl, f', hf', hc4, hu4⟩
    have HF4 := Lib.hid hf'
    have HU4 := Lib.hid (HU3.out.trans (upd_mono hu4 (fun k h => .inr h)))
    clear hf' hu4
    go_wp2_with fail
    go_ret2
    unfold CNext
    rw [HP.out]
    exact ⟨rfl, f', by rw [Bool.or_true]; exact HF4.out, hc4, HU4.out⟩
  have hodd1 : y % 2 = 1 := by omega
  rw [hodd1] at e2
  have HO := Lib.hid hodd
  clear hodd hodd1
  obtain ⟨bl, hbl⟩ : ∃ bl, 64 - blen y = bl := ⟨_, rfl⟩
  have hb64 := (blen_bound (n := y) (by omega)).2.1
  obtain ⟨zs, hzs⟩ : ∃ zs, 64 - sz = zs := ⟨_, rfl⟩
  have e3 : (64 : Int) - (sz : Int) = (zs : Int) := by omega
  go_wp2_with fail
  refine (leads_any y _ (Lib.hid hyl)).mono ?_; rintro e w' ⟨rfl, rfl⟩
  rw [hbl]
  by_cases hbz : bl = zs
  · have HP := Lib.hid (HX.out (y * 2 ^ tr) false (by rw [if_neg (by have := HA.out; have := HO.out; omega), htr]))
    have h64 : y * 2 ^ tr < 18446744073709551616 := by
      have h1 := (xch_of (y := y) (le := le) (sz := sz) (by have := HA.out; omega) hs1 (by have := HO.out; omega) (by omega) HYL.out).1
      rw [htr] at h1
      exact h1
    have e4 : ((bl : Int) != (zs : Int)) = false := by simp; omega
    obtain ⟨X, hX⟩ : ∃ X, y * 2 ^ tr = X := ⟨_, rfl⟩
    have e5 : IntKind.u64.wrap ((y : Int) * 2 ^ tr) = (X : Int) := by
      rw [IntKind.wrap_u64, ← hX]
      rw [show (y : Int) * 2 ^ tr = ((y * 2 ^ tr : Nat) : Int) by simp]
      omega
    rw [hX] at HP
    have hmin : min tr 64 = tr := by omega
    clear HX hbz h64 hbl hb64 hX hzs htr
    go_wp2_with fail
    go_ret2
    unfold CNext
    rw [HP.out]
    exact ⟨rfl, f, by simpa using hf.out, HC3, HU3.out⟩
  · have HP := Lib.hid (HX.out 0 true (by rw [if_pos (.inr (.inr (by omega)))]))
    have e4 : ((bl : Int) != (zs : Int)) = true := by simp; omega
    clear HX hbz hbl hb64 hzs htr
    go_wp2_with fail
    refine (cfault_any r q s (i + 1 + 12 + sz) b f _ HC3 hf.out hrq).mono ?_; rintro e w4 ⟨rfl, f', hf', hc4, hu4⟩
    have HF4 := Lib.hid hf'
    have HU4 := Lib.hid (HU3.out.trans (upd_mono hu4 (fun k h => .inr h)))
    clear hf' hu4
    go_wp2_with fail
    go_ret2
    unfold CNext
    rw [HP.out]
    exact ⟨rfl, f', by rw [Bool.or_true]; exact HF4.out, hc4, HU4.out⟩
end Go.Proofs.YtihoemimiplhfaaDoor
