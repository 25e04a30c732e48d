/-
  hygref18.GetXor; hyglaw21.XorGets: for any bytes and any count the law returns true.
-/
import Derived.Test.YtihoemimiplhfaaDoorXorRefMath
import Derived.Test.YtihoemimiplhfaaDoorManyBase
namespace Go.Proofs.YtihoemimiplhfaaDoor
open Go.RowKit

theorem rrat_upd {S : Nat → Prop} {w w' : World} {p i : Nat} {s : ByteArray} (h : RRAt w p s i) (hu : Upd S w w') (hn : ¬ S p) : RRAt w' p s i := (hu.block p (row_lt h) hn).trans h
theorem rgetb_ok (p : Nat) (s : ByteArray) (i c : Nat) (w : World) (h : RRAt w p s i) (hs : s.size ≤ 1000000000) (hi : i + c ≤ 8 * s.size) (hc : c ≤ 64) {n : Nat} (hn : Hid (getB s.data.toList i c = n)) :
    Calls Tryd.prog 43 #[.pointer (some ⟨p, 0, none⟩), .int .i64 c] w fun e w' => e = .returned (.tuple #[.int .u64 n, .int .i64 0]) ∧ Hid (RRAt w' p s (i + c)) ∧ Upd (fun k => k = p) w w' :=
  (rget_any p s i c w h hs (by omega)).mono fun e w' h2 => by
    unfold RGet at h2
    rw [if_neg (by omega), if_neg (by omega)] at h2
    obtain ⟨h3, h4, h5⟩ := h2
    rw [Int.toNat_natCast] at h3 h5
    rw [hn.out] at h3
    exact ⟨h3, Lib.hid h5, h4⟩
theorem rgetb_short (p : Nat) (s : ByteArray) (i c : Nat) (w : World) (h : RRAt w p s i) (hs : s.size ≤ 1000000000) (hi : i ≤ 8 * s.size) (hc : c ≤ 64) (hx : 8 * s.size < i + c) :
    Calls Tryd.prog 43 #[.pointer (some ⟨p, 0, none⟩), .int .i64 c] w fun e w' => e = .returned (.tuple #[.int .u64 0, .int .i64 1]) ∧ Hid (RRAt w' p s i) ∧ Upd (fun k => k = p) w w' :=
  (rget_any p s i c w h hs hi).mono fun e w' h2 => by
    unfold RGet at h2
    rw [if_neg (by omega), if_pos (by omega)] at h2
    obtain ⟨h3, h4, h5⟩ := h2
    exact ⟨h3, Lib.hid h5, h4⟩
def RXGPost (s : ByteArray) (c : Nat) (w : World) (e : Ending) (w' : World) : Prop :=
  Below w.heap.size w w' ∧ ((∃ ls, GoodX s c ls ∧ ∃ ao cap, e = .returned (.tuple #[.slice ao c cap, .bool true]) ∧ Nats .u64 w' ao ls) ∨
    ((∀ ls, ¬ GoodX s c ls) ∧ e = .returned (.tuple #[.slice none 0 0, .bool false])))
theorem rxg_bad {s : ByteArray} {c : Nat} {w w' : World} (hb : Below w.heap.size w w') (h : ∀ ls, ¬ GoodX s c ls) : RXGPost s c w (.returned (.tuple #[.slice none 0 0, .bool false])) w' := ⟨hb, .inr ⟨h, rfl⟩⟩
theorem rrat_new (s : ByteArray) (w : World) : RRAt (w.alloc (.cells #[.string s, .int .i64 0] 84)) w.heap.size s 0 := heap_alloc_new w _
set_option maxRecDepth 1000000 in
set_option maxHeartbeats 8000000 in
theorem rxget_any (s : ByteArray) (c : Nat) (w : World) (hs : s.size ≤ 4000) (hc : c ≤ 20000) :
    Calls Tryd.prog 15 #[.string s, .int .i64 c] w (RXGPost s c w) := by
  go_enter Tryd.func15, Tryd.ntmps15
  go_wp2_with fail
  obtain ⟨w1, hw1⟩ : ∃ w1, w.alloc (.cells #[.string s, .int .i64 0] 84) = w1 := ⟨_, rfl⟩
  have HR1 : Hid (RRAt w1 w.heap.size s 0) := Lib.hid (hw1 ▸ rrat_new s w)
  have HB1 : Hid (Below w.heap.size w w1) := Lib.hid (hw1 ▸ below_new0 w _)
  have hsz1 : w.heap.size + 1 ≤ w1.heap.size := by rw [← hw1]; simp
  obtain ⟨g, hg⟩ : ∃ g, w.heap.size + 1 = g := ⟨_, rfl⟩
  obtain ⟨p, hp⟩ : ∃ p, w.heap.size = p := ⟨_, rfl⟩
  have HPG : Hid (p < g ∧ w.heap.size ≤ g ∧ w.heap.size ≤ p) := Lib.hid (by omega)
  rw [hg] at hsz1
  rw [hp] at HR1 ⊢
  rw [hw1]
  clear hg hp hw1
  go_loopg [7, 8] c (fun k vo i wr => ∃ (j : Nat) (ls : List Nat) (qq : Nat), j + k = c ∧ i = .int .i64 j ∧ Hid (XRAt s c j ls qq) ∧ Hid (RRAt wr p s qq) ∧ wr.ownsRow g 40 1 vo j (nvals ls) ∧ Below w.heap.size w wr ∧ g ≤ wr.heap.size)
  case atStart => exact ⟨0, [], 0, by omega, rfl, Lib.hid (xrat_start s c), HR1, World.ownsRow_nil _ _ _ _, HB1.out, hsz1⟩
  case round =>
    obtain ⟨j, ls, qq, hj, rfl, HX, HR, hown, hbr, hgs⟩ := hrel
    have HB := Lib.hid hbr
    have HJ := Lib.hid hj
    have HO := Lib.hid hown
    obtain ⟨ao, cap, rfl⟩ := own_slice hown
    have hqle := HX.out.le
    have hlen := HX.out.len
    clear hbr hj hown
    by_cases hjn : j < c
    · have hgk : 0 < gk := by have := HJ.out; omega
      have hi1 : (j : Int) < (c : Int) := by omega
      have hc0 : 0 < c := by omega
      by_cases hz : j = 0
      · have hz' : ((j : Int) == 0) = true := by subst hz; rfl
        have HX0 : Hid (XRAt s c 0 ls qq) := Lib.hid (by have h5 := HX.out; rw [hz] at h5; exact h5)
        have HZ := Lib.hid hz
        clear hz
        go_wp2_with fail
        by_cases hsh : 8 * s.size < qq + 64
        · have HE : Hid (∀ l, ¬ GoodX s c l) := Lib.hid (xrat_short HX0.out hc0 hsh)
          refine (rgetb_short p s qq 64 _ HR.out (by omega) hqle (by omega) hsh).mono ?_; rintro e w3 ⟨rfl, hr3, hu3⟩
          have HB3 : Hid (Below w.heap.size w w3) := Lib.hid (HB.out.trans (hu3.below HB.out.size (fun k _ hk => by have := HPG.out; omega)))
          clear hu3
          go_wp2_with fail
          go_ret2
          exact rxg_bad HB3.out HE.out
        obtain ⟨x, hx⟩ : ∃ x, getB s.data.toList qq 64 = x := ⟨_, rfl⟩
        refine (rgetb_ok p s qq 64 _ HR.out (by omega) (by omega) (by omega) (Lib.hid hx)).mono ?_; rintro e w3 ⟨rfl, hr3, hu3⟩
        have HX3 : Hid (XRAt s c (j + 1) (ls ++ [x]) (qq + 64)) := Lib.hid (by
          have h5 := xrat_first HX0.out (by omega) hx hc0
          rw [HZ.out, h5.1]
          exact h5.2)
        have HB3 : Hid (Below w.heap.size w w3) := Lib.hid (HB.out.trans (hu3.below HB.out.size (fun k _ hk => by have := HPG.out; omega)))
        have hown3 := hu3.own HO.out (fun k hk h => by have h1 := (HO.out.lt k hk).1; have := HPG.out; omega)
        have hgs3 : g ≤ w3.heap.size := Nat.le_trans hgs hu3.size
        clear hu3 hx hsh
        go_wp2_with (at_builtin; refine wpList_app1 (c := 1) (cs := [.int .u64 (x : Int)]) rfl _ _ 22 rfl Tryd.elU64x (by decide) hown3 rfl (by show Value.slice (some ⟨w3.heap.size, 0, none⟩) 1 1 = _; simp) rfl (by simp [Value.oneCell']) (by unfold maxLen; omega) (by omega) hgs3 ?_; intro v' w4 hown' hgrow)
        have HB4 : Hid (Below w.heap.size w w4) := Lib.hid (HB3.out.grown hgrow HB3.out.size (fun k hk => by have h1 := (hown3.lt _ hk).1; have := HPG.out; omega))
        have HO4 : Hid (w4.ownsRow g 40 1 v' (j + 1) (nvals (ls ++ [x]))) := Lib.hid (by simpa [nvals] using hown')
        have HR4 : Hid (RRAt w4 p s (qq + 64)) := Lib.hid ((hgrow.block p (row_lt hr3.out) (fun e => by have h1 := (hown3.lt _ e.symm).1; have := HPG.out; omega)).trans hr3.out)
        have hgs4 : g ≤ w4.heap.size := Nat.le_trans hgs3 hgrow.size
        go_wp2_with fail
        have hj := HJ.out
        go_roundg (gk - 1)
        case measure => omega
        case rel => exact ⟨j + 1, ls ++ [x], qq + 64, by omega, by simp, HX3, HR4, HO4.out, HB4.out, hgs4⟩
      · have hz' : ((j : Int) == 0) = false := by simp; omega
        have hj0 : 0 < j := by omega
        have HJ0 := Lib.hid hj0
        have hne : ls ≠ [] := by intro e; rw [e] at hlen; simp at hlen; omega
        obtain ⟨la, hla⟩ : ∃ la, ls.getLast?.getD 0 = la := ⟨_, rfl⟩
        obtain ⟨jj, hjj⟩ : ∃ jj, j - 1 = jj := ⟨_, rfl⟩
        have hji : (j : Int) - 1 = (jj : Int) := by omega
        have hjl : (jj : Int) < (j : Int) := by omega
        have hjl2 : jj < j := by omega
        have HLA : Hid (ls[jj]? = some la) := Lib.hid (by
          rw [← hla, ← hjj, ← hlen, ← List.getLast?_eq_getElem?]
          cases hh : ls.getLast? with
          | none => exact absurd (List.getLast?_eq_none_iff.1 hh) hne
          | some y => rfl)
        have hlal : la < 18446744073709551616 := by rw [← hla]; exact getLastD_lt HX.out.all
        have HLL := Lib.hid hla
        obtain ⟨ga, gcap, hval, _, hg2, _⟩ := own_some HO.out hj0
        simp only [Value.slice.injEq, true_and] at hval
        obtain ⟨rfl, rfl⟩ := hval
        clear hz hj0 hne hla hjj
        go_wp2_with fail
        by_cases hsh3 : 8 * s.size < qq + 1
        · have HE : Hid (∀ l, ¬ GoodX s c l) := Lib.hid (xrat_bad HX.out HJ0.out hjn (xnx_one hsh3))
          refine (rgetb_short p s (qq) (1) _ HR.out (by omega) hqle (by omega) hsh3).mono ?_; rintro e w3 ⟨rfl, hr3, hu3⟩
          have HB3 : Hid (Below w.heap.size w w3) := Lib.hid (HB.out.trans (hu3.below HB.out.size (fun k _ hk => by have := HPG.out; omega)))
          clear hu3
          go_wp2_with fail
          go_ret2
          exact rxg_bad HB3.out HE.out
        obtain ⟨d, hd⟩ : ∃ d, getB s.data.toList qq 1 = d := ⟨_, rfl⟩
        have hdl : d < 2 := by rw [← hd]; exact getB_lt s.data.toList qq 1
        refine (rgetb_ok p s qq 1 _ HR.out (by omega) (by omega) (by omega) (Lib.hid hd)).mono ?_; rintro e w3 ⟨rfl, hr3, hu3⟩
        have HB3 : Hid (Below w.heap.size w w3) := Lib.hid (HB.out.trans (hu3.below HB.out.size (fun k _ hk => by have := HPG.out; omega)))
        have HO3 := Lib.hid (hu3.own HO.out (fun k hk h => by have h1 := (HO.out.lt k hk).1; have := HPG.out; omega))
        have hgs3 : g ≤ w3.heap.size := Nat.le_trans hgs hu3.size
        have HS3 := Lib.hid hsh3
        clear hu3 hsh3
        by_cases hd0 : d = 0
        · have HX3' := xrat_next (x := 0) (q' := qq + 1) HX.out HJ0.out hjn (by have := HS3.out; omega) (by omega) (.inl ⟨rfl, by omega⟩) (fun y r hx => xnx_zero HS3.out (by rw [hd]; exact hd0) y r hx)
          obtain ⟨n2, hn2⟩ : ∃ n2, la ^^^ 0 = n2 := ⟨_, rfl⟩
          have e9 : bits .xor .u64 (la : Int) 0 = (n2 : Int) := by rw [← hn2]; exact xor64 la 0 hlal (by omega)
          have HX3 : Hid (XRAt s c (j + 1) (ls ++ [n2]) (qq + 1)) := Lib.hid (by rw [HLL.out, hn2] at HX3'; exact HX3')
          subst hd0
          clear hd HX3' hn2 hdl
          have hce : w3.cell? ⟨ga, jj, none⟩ = some (.int .u64 (la : Int)) := by
            rw [HO3.out.cellAt jj (by omega)]
            unfold nvals
            rw [List.getElem?_map, HLA.out]
            rfl
          have hown3 := HO3.out
          go_wp2_with (at_builtin; refine wpList_app1 (c := 1) (cs := [.int .u64 (n2 : Int)]) rfl _ _ 22 rfl Tryd.elU64x (by decide) hown3 rfl (by show Value.slice (some ⟨w3.heap.size, 0, none⟩) 1 1 = _; simp) rfl (by simp [Value.oneCell']) (by unfold maxLen; omega) (by omega) hgs3 ?_; intro v' w9 hown' hgrow)
          have HB9 : Hid (Below w.heap.size w w9) := Lib.hid (HB3.out.grown hgrow HB3.out.size (fun k hk => by have h1 := (hown3.lt _ hk).1; have := HPG.out; omega))
          have HO9 : Hid (w9.ownsRow g 40 1 v' (j + 1) (nvals (ls ++ [n2]))) := Lib.hid (by simpa [nvals] using hown')
          have HR9 : Hid (RRAt w9 p s (qq + 1)) := Lib.hid ((hgrow.block p (row_lt hr3.out) (fun e => by have h1 := (hown3.lt _ e.symm).1; have := HPG.out; omega)).trans hr3.out)
          have hgs9 : g ≤ w9.heap.size := Nat.le_trans hgs3 hgrow.size
          go_wp2_with fail
          have hj := HJ.out
          go_roundg (gk - 1)
          case measure => omega
          case rel => exact ⟨j + 1, ls ++ [n2], qq + 1, by omega, by simp, HX3, HR9, HO9.out, HB9.out, hgs9⟩
        obtain rfl : d = 1 := by omega
        have HD1 : Hid (getB s.data.toList qq 1 ≠ 0) := Lib.hid (by rw [hd]; omega)
        clear hd hdl hd0
        go_wp2_with fail
        by_cases hsh4 : 8 * s.size < qq + 1 + 6
        · have HE : Hid (∀ l, ¬ GoodX s c l) := Lib.hid (xrat_bad HX.out HJ0.out hjn (xnx_head HS3.out HD1.out (by omega)))
          refine (rgetb_short p s (qq + 1) 6 _ hr3.out (by omega) (by have := HS3.out; omega) (by omega) hsh4).mono ?_; rintro e w4 ⟨rfl, hr4, hu4⟩
          have HB4 : Hid (Below w.heap.size w w4) := Lib.hid (HB3.out.trans (hu4.below HB3.out.size (fun k _ hk => by have := HPG.out; omega)))
          have HO4 := Lib.hid (hu4.own HO3.out (fun k hk h => by have h1 := (HO3.out.lt k hk).1; have := HPG.out; omega))
          have hgs4 : g ≤ w4.heap.size := Nat.le_trans hgs3 hu4.size
          clear hu4
          go_wp2_with fail
          refine (rgetb_short p s (qq + 1) 6 _ hr4.out (by omega) (by have := HS3.out; omega) (by omega) hsh4).mono ?_; rintro e w5 ⟨rfl, hr5, hu5⟩
          have HB5 : Hid (Below w.heap.size w w5) := Lib.hid (HB4.out.trans (hu5.below HB4.out.size (fun k _ hk => by have := HPG.out; omega)))
          clear hu5
          go_wp2_with fail
          go_ret2
          exact rxg_bad HB5.out HE.out
        obtain ⟨le, hle⟩ : ∃ le, getB s.data.toList (qq + 1) 6 = le := ⟨_, rfl⟩
        have hlel : le < 64 := by rw [← hle]; exact getB_lt s.data.toList (qq + 1) 6
        refine (rgetb_ok p s (qq + 1) 6 _ hr3.out (by omega) (by omega) (by omega) (Lib.hid hle)).mono ?_; rintro e w4 ⟨rfl, hr4, hu4⟩
        have HB4 : Hid (Below w.heap.size w w4) := Lib.hid (HB3.out.trans (hu4.below HB3.out.size (fun k _ hk => by have := HPG.out; omega)))
        have HO4 := Lib.hid (hu4.own HO3.out (fun k hk h => by have h1 := (HO3.out.lt k hk).1; have := HPG.out; omega))
        have hgs4 : g ≤ w4.heap.size := Nat.le_trans hgs3 hu4.size
        have HS4 := Lib.hid hsh4
        have HLE := Lib.hid hle
        clear hu4 hsh4 hle
        go_wp2_with fail
        by_cases hsh5 : 8 * s.size < qq + 1 + 6 + 6
        · have HE : Hid (∀ l, ¬ GoodX s c l) := Lib.hid (xrat_bad HX.out HJ0.out hjn (xnx_head HS3.out HD1.out (by omega)))
          refine (rgetb_short p s (qq + 1 + 6) (6) _ hr4.out (by omega) (by have := HS4.out; omega) (by omega) hsh5).mono ?_; rintro e w5 ⟨rfl, hr5, hu5⟩
          have HB5 : Hid (Below w.heap.size w w5) := Lib.hid (HB4.out.trans (hu5.below HB4.out.size (fun k _ hk => by have := HPG.out; omega)))
          clear hu5
          go_wp2_with fail
          go_ret2
          exact rxg_bad HB5.out HE.out
        obtain ⟨n, hn⟩ : ∃ n, getB s.data.toList (qq + 1 + 6) 6 = n := ⟨_, rfl⟩
        have hnl : n < 64 := by rw [← hn]; exact getB_lt s.data.toList (qq + 1 + 6) 6
        refine (rgetb_ok p s (qq + 1 + 6) 6 _ hr4.out (by omega) (by omega) (by omega) (Lib.hid hn)).mono ?_; rintro e w5 ⟨rfl, hr5, hu5⟩
        have HB5 : Hid (Below w.heap.size w w5) := Lib.hid (HB4.out.trans (hu5.below HB4.out.size (fun k _ hk => by have := HPG.out; omega)))
        have HO5 := Lib.hid (hu5.own HO4.out (fun k hk h => by have h1 := (HO4.out.lt k hk).1; have := HPG.out; omega))
        have hgs5 : g ≤ w5.heap.size := Nat.le_trans hgs4 hu5.size
        have HP : Hid (∀ y r, xnx s qq = some (y, r, false) → qq + 13 + (n + 1) ≤ 8 * s.size ∧ le + (n + 1) ≤ 64 ∧ y = getB s.data.toList (qq + 13) (n + 1) * 2 ^ (63 - le - n) ∧ r = qq + 13 + (n + 1)) := Lib.hid (fun y r hx => xnx_parts (by omega) HD1.out HLE.out hn hx)
        have HS5 := Lib.hid hsh5
        clear hu5 hsh5 hn
        obtain ⟨tot, htot⟩ : ∃ tot, le + n + 1 = tot := ⟨_, rfl⟩
        have et : (le : Int) + (n : Int) + 1 = (tot : Int) := by omega
        have htl : tot < 200 := by omega
        by_cases h64 : 64 < tot
        · have HE : Hid (∀ l, ¬ GoodX s c l) := Lib.hid (xrat_bad HX.out HJ0.out hjn (fun y r hx => by have := HP.out y r hx; omega))
          clear htot
          go_wp2_with fail
          go_ret2
          exact rxg_bad HB5.out HE.out
        obtain ⟨n1, hn1⟩ : ∃ n1, n + 1 = n1 := ⟨_, rfl⟩
        have en1 : (n : Int) + 1 = (n1 : Int) := by omega
        have HN1 := Lib.hid hn1
        have HTOT := Lib.hid htot
        have hn164 : n1 ≤ 64 := by omega
        clear hn1 htot
        go_wp2_with fail
        by_cases hsh6 : 8 * s.size < qq + 1 + 6 + 6 + n1
        · have HE : Hid (∀ l, ¬ GoodX s c l) := Lib.hid (xrat_bad HX.out HJ0.out hjn (fun y r hx => by have h5 := HP.out y r hx; have h6 := HN1.out; omega))
          refine (rgetb_short p s (qq + 1 + 6 + 6) (n1) _ hr5.out (by omega) (by have := HS5.out; omega) (by omega) hsh6).mono ?_; rintro e w6 ⟨rfl, hr6, hu6⟩
          have HB6 : Hid (Below w.heap.size w w6) := Lib.hid (HB5.out.trans (hu6.below HB5.out.size (fun k _ hk => by have := HPG.out; omega)))
          clear hu6
          go_wp2_with fail
          go_ret2
          exact rxg_bad HB6.out HE.out
        obtain ⟨v, hv⟩ : ∃ v, getB s.data.toList (qq + 1 + 6 + 6) n1 = v := ⟨_, rfl⟩
        have hvl : v < 2 ^ n1 := by rw [← hv]; exact getB_lt s.data.toList _ n1
        refine (rgetb_ok p s (qq + 1 + 6 + 6) n1 _ hr5.out (by omega) (by omega) hn164 (Lib.hid hv)).mono ?_; rintro e w6 ⟨rfl, hr6, hu6⟩
        have HB6 : Hid (Below w.heap.size w w6) := Lib.hid (HB5.out.trans (hu6.below HB5.out.size (fun k _ hk => by have := HPG.out; omega)))
        have HO6 := Lib.hid (hu6.own HO5.out (fun k hk h => by have h1 := (HO5.out.lt k hk).1; have := HPG.out; omega))
        have hgs6 : g ≤ w6.heap.size := Nat.le_trans hgs5 hu6.size
        obtain ⟨sh, hsh⟩ : ∃ sh, 63 - le - n = sh := ⟨_, rfl⟩
        have esh : (63 : Int) - (le : Int) - (n : Int) = (sh : Int) := by have := HTOT.out; omega
        have hsh64 : sh ≤ 63 := by omega
        have hxlt : v * 2 ^ sh < 18446744073709551616 := by
          have h1 : v * 2 ^ sh < 2 ^ n1 * 2 ^ sh := Nat.mul_lt_mul_of_pos_right hvl (Nat.two_pow_pos _)
          rw [← Nat.pow_add] at h1
          have h2 : 2 ^ (n1 + sh) ≤ 2 ^ 64 := Nat.pow_le_pow_right (by omega) (by have := HTOT.out; have := HN1.out; omega)
          exact Nat.lt_of_lt_of_le h1 h2
        obtain ⟨x, hx⟩ : ∃ x, v * 2 ^ sh = x := ⟨_, rfl⟩
        have ex : IntKind.u64.wrap ((v : Int) * 2 ^ sh) = (x : Int) := by
          rw [IntKind.wrap_u64, ← hx, show (v : Int) * 2 ^ sh = ((v * 2 ^ sh : Nat) : Int) by simp]
          omega
        rw [hx] at hxlt
        obtain ⟨n2, hn2⟩ : ∃ n2, la ^^^ x = n2 := ⟨_, rfl⟩
        have e9 : bits .xor .u64 (la : Int) (x : Int) = (n2 : Int) := by rw [← hn2]; exact xor64 la x hlal hxlt
        have HX3 : Hid (XRAt s c (j + 1) (ls ++ [n2]) (qq + 1 + 6 + 6 + n1)) := Lib.hid (by
          have h5 := xrat_next (x := x) (q' := qq + 1 + 6 + 6 + n1) HX.out HJ0.out hjn (by omega) hxlt (.inr (by have := HN1.out; omega)) (fun y r hxx => by
            obtain ⟨_, _, h6, h7⟩ := HP.out y r hxx
            rw [HN1.out] at h6 h7
            rw [show qq + 13 = qq + 1 + 6 + 6 by omega] at h6
            rw [hv, hsh, hx] at h6
            exact ⟨h6, by omega⟩)
          rw [HLL.out, hn2] at h5
          exact h5)
        have hmin : min sh 64 = sh := by omega
        clear hu6 hsh6 hsh hx hn2 hv hvl hxlt h64
        have hce : w6.cell? ⟨ga, jj, none⟩ = some (.int .u64 (la : Int)) := by
          rw [HO6.out.cellAt jj (by omega)]
          unfold nvals
          rw [List.getElem?_map, HLA.out]
          rfl
        have hown6 := HO6.out
        go_wp2_with (at_builtin; refine wpList_app1 (c := 1) (cs := [.int .u64 (n2 : Int)]) rfl _ _ 22 rfl Tryd.elU64x (by decide) hown6 rfl (by show Value.slice (some ⟨w6.heap.size, 0, none⟩) 1 1 = _; simp) rfl (by simp [Value.oneCell']) (by unfold maxLen; omega) (by omega) hgs6 ?_; intro v' w9 hown' hgrow)
        have HB9 : Hid (Below w.heap.size w w9) := Lib.hid (HB6.out.grown hgrow HB6.out.size (fun k hk => by have h1 := (hown6.lt _ hk).1; have := HPG.out; omega))
        have HO9 : Hid (w9.ownsRow g 40 1 v' (j + 1) (nvals (ls ++ [n2]))) := Lib.hid (by simpa [nvals] using hown')
        have HR9 : Hid (RRAt w9 p s (qq + 1 + 6 + 6 + n1)) := Lib.hid ((hgrow.block p (row_lt hr6.out) (fun e => by have h1 := (hown6.lt _ e.symm).1; have := HPG.out; omega)).trans hr6.out)
        have hgs9 : g ≤ w9.heap.size := Nat.le_trans hgs6 hgrow.size
        go_wp2_with fail
        have hj := HJ.out
        go_roundg (gk - 1)
        case measure => omega
        case rel => exact ⟨j + 1, ls ++ [n2], qq + 1 + 6 + 6 + n1, by omega, by simp, HX3, HR9, HO9.out, HB9.out, hgs9⟩
    · obtain rfl : j = c := by have := HJ.out; omega
      have hi1 : ¬ (j : Int) < (j : Int) := by omega
      obtain ⟨S, hS⟩ : ∃ S, (⟨(xbytes ls).toArray⟩ : ByteArray) = S := ⟨_, rfl⟩
      have HS := Lib.hid hS
      have HEND := Lib.hid (xrat_end HX.out)
      have HLT := Lib.hid HX.out.all
      have HCB : Hid (catN (xenc ls) ≤ 900000) := Lib.hid (by have := HX.out.sz; omega)
      have HNO : Hid (Nats .u64 wr ao ls) := Lib.hid (by
        have h2 : wr.ownsRow g 40 1 (.slice ao ls.length cap) ls.length (nvals ls) := by rw [hlen]; exact HO.out
        exact nats_of_own h2)
      have HLEN := Lib.hid hlen
      clear hS hlen
      by_cases hSs : S = s
      · subst hSs
        have HGG := Lib.hid (HEND.out.1 HS.out)
        go_wp2_with fail
        refine (rxput_any ao cap ls j _ HLEN.out HNO.out HLT hc HCB HS).mono ?_; rintro e w3 ⟨rfl, hb3⟩
        have HB3 := Lib.hid (dstep HB.out hb3)
        have HN3 := Lib.hid (HNO.out.below hb3)
        clear hb3
        go_wp2_with fail
        go_ret2
        exact ⟨HB3.out, .inl ⟨ls, HGG.out, ao, cap, rfl, HN3.out⟩⟩
      · have HE : Hid (∀ l, ¬ GoodX s j l) := Lib.hid (HEND.out.2 (by rw [HS.out]; exact hSs))
        have hnb : (S.toList == s.toList) = false := by
          rw [beq_eq_false_iff_ne, ByteArray.toList_eq, ByteArray.toList_eq]
          intro h
          exact hSs (ByteArray.ext (Array.ext' h))
        clear hSs
        go_wp2_with fail
        refine (rxput_any ao cap ls j _ HLEN.out HNO.out HLT hc HCB HS).mono ?_; rintro e w3 ⟨rfl, hb3⟩
        have HB3 := Lib.hid (dstep HB.out hb3)
        clear hb3
        go_wp2_with fail
        go_ret2
        exact rxg_bad HB3.out HE.out
theorem rxget_range (s : ByteArray) (c : Int) (w : World) (hc : c < 0 ∨ 20000 < c) :
    Calls Tryd.prog 15 #[.string s, .int .i64 c] w fun e w' => e = .returned (.tuple #[.slice none 0 0, .bool false]) ∧ w = w' := by
  rcases (by omega : c < 0 ∨ (¬ c < 0 ∧ 20000 < c)) with h | ⟨h, h2⟩
  · go_enter Tryd.func15, Tryd.ntmps15
    go_wp2_with fail
    go_ret2
    exact ⟨rfl, rfl⟩
  · go_enter Tryd.func15, Tryd.ntmps15
    go_wp2_with fail
    go_ret2
    exact ⟨rfl, rfl⟩
theorem nums_none (w : World) : Calls Tryd.prog 13 #[.slice none 0 0, .slice none 0 0] w fun e w' => e = .returned (.bool true) ∧ Below w.heap.size w w' :=
  nums_same none none 0 0 [] w (fun h => absurd rfl h) (fun h => absurd rfl h) (by simp)
theorem rxget_ok (s : ByteArray) (c : Nat) (w : World) (hs : s.size ≤ 4000) (hc : c ≤ 20000) {ls : List Nat} (hr : Hid (GoodX s c ls)) :
    Calls Tryd.prog 15 #[.string s, .int .i64 c] w fun e w' => Below w.heap.size w w' ∧ ∃ ao cap, e = .returned (.tuple #[.slice ao c cap, .bool true]) ∧ Nats .u64 w' ao ls ∧ ls.length = c :=
  (rxget_any s c w hs hc).mono fun e w' ⟨hb, h⟩ => by
    refine ⟨hb, ?_⟩
    rcases h with ⟨ys, hy, ao, cap, he, h3⟩ | ⟨hn, _⟩
    · have := good_oneX hr.out hy
      subst this
      exact ⟨ao, cap, he, h3, hy.1⟩
    · exact absurd hr.out (hn ls)
theorem rxget_no (s : ByteArray) (c : Nat) (w : World) (hs : s.size ≤ 4000) (hc : c ≤ 20000) (hr : Hid (∀ ls, ¬ GoodX s c ls)) :
    Calls Tryd.prog 15 #[.string s, .int .i64 c] w fun e w' => Below w.heap.size w w' ∧ e = .returned (.tuple #[.slice none 0 0, .bool false]) :=
  (rxget_any s c w hs hc).mono fun e w' ⟨hb, h⟩ => by
    refine ⟨hb, ?_⟩
    rcases h with ⟨ys, hy, _⟩ | ⟨_, h2⟩
    · exact absurd hy (hr.out ys)
    · exact h2
set_option maxRecDepth 1000000 in
set_option maxHeartbeats 4000000 in
theorem xgets_long (s : ByteArray) (c : Int) (w : World) (hs : 4000 < s.size) (hm : s.size ≤ 9223372036854775807) :
    Calls Tryd.prog 4 #[.string s, .int .i64 c] w fun e w' => e = .returned (.bool true) ∧ Below w.heap.size w w' := by
  go_enter Tryd.func4, Tryd.ntmps4
  go_wp2_with fail
  refine (first21 w).mono ?_; rintro e w1 ⟨rfl, hb1⟩
  have HB1 := Lib.hid hb1
  clear hb1
  go_wp2_with fail
  refine (first21 w1).mono ?_; rintro e w2 ⟨rfl, hb2⟩
  have HB2 := Lib.hid (dstep HB1.out hb2)
  clear hb2
  go_wp2_with fail
  go_ret
  exact ⟨rfl, HB2.out⟩
set_option maxRecDepth 1000000 in
set_option maxHeartbeats 4000000 in
theorem xgets_range (s : ByteArray) (c : Int) (w : World) (hs : s.size ≤ 4000) (hg : Hid (Glob w)) (hc : Hid (c < 0 ∨ 20000 < c)) (hx : (decide (c ≥ 0) = false) ∨ (decide (c ≥ 0) = true ∧ decide (c ≤ 20000) = false)) :
    Calls Tryd.prog 4 #[.string s, .int .i64 c] w fun e w' => e = .returned (.bool true) ∧ Below w.heap.size w w' := by
  rcases hx with hx | ⟨hx, hx2⟩ <;>
  · go_enter Tryd.func4, Tryd.ntmps4
    go_wp2_with fail
    refine (first21 w).mono ?_; rintro e w1 ⟨rfl, hb1⟩
    have HB1 := Lib.hid (dstep hb1 (below_new0 w1 (.cells #[.int .i64 0, .iface 29 (.int .i64 9)] 105)))
    have HC1 := Lib.hid (codeIs_alloc w1 0 9)
    clear hb1
    go_wp2_with fail
    refine (xget_range s c _ hc.out).mono ?_; rintro e w' ⟨rfl, rfl⟩
    go_wp2_with fail
    refine (rxget_range s c _ hc.out).mono ?_; rintro e w' ⟨rfl, rfl⟩
    go_wp2_with fail
    refine (first21 _).mono ?_; rintro e w2 ⟨rfl, hb2⟩
    have HB2 := Lib.hid (dstep HB1.out hb2)
    have HC2 := Lib.hid (HC1.out.below hb2)
    clear hb2
    go_wp2_with fail
    refine (nums_none _).mono ?_; rintro e w3 ⟨rfl, hb3⟩
    have HB3 := Lib.hid (dstep HB2.out hb3)
    have HC3 := Lib.hid (HC2.out.below hb3)
    clear hb3
    go_wp2_with fail
    refine (codeIs_any _ 9 _ HC3.out (hg.out.below HB3.out)).mono ?_; rintro e w4 ⟨rfl, hb4⟩
    have HB4 := Lib.hid (dstep HB3.out hb4)
    clear hb4
    go_wp2_with fail
    go_ret
    exact ⟨rfl, HB4.out⟩
set_option maxRecDepth 1000000 in
set_option maxHeartbeats 4000000 in
theorem xgets_no (s : ByteArray) (c : Nat) (w : World) (hs : s.size ≤ 4000) (hc : c ≤ 20000) (hr : Hid (∀ ls, ¬ GoodX s c ls)) :
    Calls Tryd.prog 4 #[.string s, .int .i64 c] w fun e w' => e = .returned (.bool true) ∧ Below w.heap.size w w' := by
  go_enter Tryd.func4, Tryd.ntmps4
  go_wp2_with fail
  refine (first21 w).mono ?_; rintro e w1 ⟨rfl, hb1⟩
  have HB1 := Lib.hid hb1
  clear hb1
  go_wp2_with fail
  refine (xget_no s c _ (by omega) hc hr).mono ?_; rintro e w2 ⟨hb2, x, rfl⟩
  have HB2 := Lib.hid (dstep HB1.out hb2)
  clear hb2
  go_wp2_with fail
  refine (rxget_no s c _ (by omega) hc hr).mono ?_; rintro e w3 ⟨hb3, rfl⟩
  have HB3 := Lib.hid (dstep HB2.out hb3)
  clear hb3
  go_wp2_with fail
  refine (first21 _).mono ?_; rintro e w4 ⟨rfl, hb4⟩
  have HB4 := Lib.hid (dstep HB3.out hb4)
  clear hb4
  go_wp2_with fail
  refine (nums_none _).mono ?_; rintro e w5 ⟨rfl, hb5⟩
  have HB5 := Lib.hid (dstep HB4.out hb5)
  clear hb5
  go_wp2_with fail
  go_ret
  exact ⟨rfl, HB5.out⟩
set_option maxRecDepth 1000000 in
set_option maxHeartbeats 4000000 in
theorem xgets_ok (s : ByteArray) (c : Nat) (w : World) (hs : s.size ≤ 4000) (hc : c ≤ 20000) {ls : List Nat} (hr : Hid (GoodX s c ls)) :
    Calls Tryd.prog 4 #[.string s, .int .i64 c] w fun e w' => e = .returned (.bool true) ∧ Below w.heap.size w w' := by
  go_enter Tryd.func4, Tryd.ntmps4
  go_wp2_with fail
  refine (first21 w).mono ?_; rintro e w1 ⟨rfl, hb1⟩
  have HB1 := Lib.hid hb1
  clear hb1
  go_wp2_with fail
  refine (xget_ok s c _ (by omega) hc hr).mono ?_; rintro e w2 ⟨hb2, ao, cap, rfl, h3, h4⟩
  have HB2 := Lib.hid (dstep HB1.out hb2)
  have HN2 := Lib.hid h3
  have HLn := Lib.hid h4
  clear hb2 h3 h4
  go_wp2_with fail
  refine (rxget_ok s c _ (by omega) hc hr).mono ?_; rintro e w3 ⟨hb3, bo, bcap, rfl, h3, h4⟩
  have HB3 := Lib.hid (dstep HB2.out hb3)
  have HN3 := Lib.hid (HN2.out.below hb3)
  have HM3 := Lib.hid h3
  clear hb3 h3 h4
  go_wp2_with fail
  refine (first21 _).mono ?_; rintro e w4 ⟨rfl, hb4⟩
  have HB4 := Lib.hid (dstep HB3.out hb4)
  have HN4 := Lib.hid (HN3.out.below hb4)
  have HM4 := Lib.hid (HM3.out.below hb4)
  clear hb4
  go_wp2_with fail
  refine (nums_len _ _ _ _ ls c _ HLn.out HN4.out HM4.out (by omega)).mono ?_; rintro e w5 ⟨rfl, hb5⟩
  have HB5 := Lib.hid (dstep HB4.out hb5)
  clear hb5
  go_wp2_with fail
  go_ret
  exact ⟨rfl, HB5.out⟩
theorem xgets_walk (s : ByteArray) (c : Int) (w : World) (hm : s.size ≤ 9223372036854775807) (hg : Glob w) :
    Calls Tryd.prog 4 #[.string s, .int .i64 c] w fun e w' => e = .returned (.bool true) ∧ Below w.heap.size w w' := by
  by_cases h1 : 4000 < s.size
  · exact xgets_long s c w h1 hm
  by_cases h2 : c < 0 ∨ 20000 < c
  · refine xgets_range s c w (by omega) (Lib.hid hg) (Lib.hid h2) ?_
    by_cases h3 : c ≥ 0
    · exact .inr ⟨decide_eq_true h3, decide_eq_false (by omega)⟩
    · exact .inl (decide_eq_false h3)
  obtain ⟨n, rfl⟩ := Int.eq_ofNat_of_zero_le (show 0 ≤ c by omega)
  by_cases h3 : ∃ ps, GoodX s n ps
  · obtain ⟨ps, hx⟩ := h3
    exact xgets_ok s n w (by omega) (by omega) (Lib.hid hx)
  · exact xgets_no s n w (by omega) (by omega) (Lib.hid fun ps hx => h3 ⟨ps, hx⟩)
end Go.Proofs.YtihoemimiplhfaaDoor
