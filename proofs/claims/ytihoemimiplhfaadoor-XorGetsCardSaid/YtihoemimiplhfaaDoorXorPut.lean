/-
  xor.Put.
-/
import Derived.Test.YtihoemimiplhfaaDoorXorMath
import Derived.Test.YtihoemimiplhfaaDoorXorBits
import Derived.Test.YtihoemimiplhfaaDoorBitsPut2
import Derived.Test.YtihoemimiplhfaaDoorInts
import Derived.Deep.LoopGhost
namespace Go.Proofs.YtihoemimiplhfaaDoor
open Go.RowKit

theorem wat_below {w w' : World} {p : Nat} {v : Value} {n V : Nat} {l : List UInt8} (hw : WAt w p v n V l) (hu : Upd (putS p v) w w') : Below p w w' :=
  hu.below (Nat.le_of_lt (row_lt hw.1)) (fun k _ hk => by
    rcases hk with rfl | hk
    · exact Nat.le_refl _
    · have := (hw.2.1.lt _ hk).1; omega)
theorem bput_b (p : Nat) (v : Value) (n V N c : Nat) (l : List UInt8) (w : World) (hw : WAt w p v n V l) (hc : c ≤ 64) (hN : Hid (N < 2 ^ c)) (hb : n + c ≤ 1000000) :
    Calls Tryd.prog 31 #[.pointer (some ⟨p, 0, none⟩), .int .u64 N, .int .i64 c] w
      fun e w' => e = .returned .nilIface ∧ ∃ v' l', Hid (WAt w' p v' (n + c) (V * 2 ^ c + N) l') ∧ Below p w w' :=
  (bput_ok p v n V N c l w hw hc hN hb).mono fun _ _ ⟨v', l', h1, h2, h3, _⟩ => ⟨h1, v', l', Lib.hid h2, wat_below hw h3⟩
/-- what differs, as the two numbers that are put -/
structure XDif (x : Nat) (le tr sz hd y : Nat) : Prop where
  le1 : 64 - blen x = le
  tr1 : tz x = tr
  le64 : le < 64
  tr64 : tr < 64
  szv : 64 = le + tr + sz
  sz1 : 1 ≤ sz
  hdv : hd = 4096 + le * 64 + (sz - 1)
  yv : y = x / 2 ^ tr
  ylt : y < 2 ^ sz
  ch : xch x = [(hd, 13), (y, sz)]
theorem xdif {x : Nat} (hx : x < 18446744073709551616) (h0 : x ≠ 0) : ∃ le tr sz hd y, XDif x le tr sz hd y := by
  obtain ⟨f1, f2, f3, f4, f5, f6, f7, f8, _, _⟩ := xch_facts hx h0
  refine ⟨64 - blen x, tz x, blen x - tz x, _, _, rfl, rfl, f1, by omega, by omega, f4, rfl, rfl, f5, ?_⟩
  unfold xch
  rw [if_neg h0]
theorem head_or (le z : Nat) (h1 : le < 64) (h2 : z < 64) : bits .or .u64 (bits .or .u64 4096 ((le : Int) * 64)) (z : Int) = ((4096 + le * 64 + z : Nat) : Int) := by
  rw [show (4096 : Int) = ((4096 : Nat) : Int) by rfl, show (le : Int) * 64 = ((le * 64 : Nat) : Int) by omega, or64 _ _ (by omega) (by omega)]
  have e1 : 4096 ||| le * 64 = 4096 + le * 64 := by
    have := (Nat.two_pow_add_eq_or_of_lt (i := 12) (b := le * 64) (by omega) 1).symm
    simpa using this
  rw [e1, or64 _ _ (by omega) (by omega)]
  have e2 : (4096 + le * 64) ||| z = 4096 + le * 64 + z := by
    have := (Nat.two_pow_add_eq_or_of_lt (i := 6) (b := z) (by omega) (64 + le)).symm
    rw [show 2 ^ 6 * (64 + le) = 4096 + le * 64 by omega] at this
    exact this
  rw [e2]
set_option maxRecDepth 1000000 in
set_option maxHeartbeats 4000000 in
theorem xputd_zero (p : Nat) (v : Value) (n V : Nat) (l : List UInt8) (w : World) (hw : Hid (WAt w p v n V l)) (hb : n + 80 ≤ 1000000) :
    Calls Tryd.prog 32 #[.pointer (some ⟨p, 0, none⟩), .int .u64 0] w
      fun e w' => e = .returned .nilIface ∧ ∃ v' l', Hid (WAt w' p v' (n + 1) (V * 2 + 0) l') ∧ Below p w w' := by
  go_enter Tryd.func32, Tryd.ntmps32
  go_wp2_with fail
  refine (bput_b p v n V 0 1 l w hw.out (by omega) (Lib.hid (by omega)) (by omega)).mono ?_; rintro e w1 ⟨rfl, v1, l1, h1, hb1⟩
  have HB := Lib.hid hb1
  clear hb1
  go_wp2_with fail
  go_ret
  exact ⟨rfl, v1, l1, h1, HB.out⟩
set_option maxRecDepth 1000000 in
set_option maxHeartbeats 4000000 in
theorem xputd_some (p : Nat) (v : Value) (n V : Nat) (l : List UInt8) (w : World) (hw : Hid (WAt w p v n V l)) (hb : n + 80 ≤ 1000000) (x : Nat) (h0 : x ≠ 0) (hx : Hid (x < 18446744073709551616)) {le tr sz hd y : Nat} (hd' : Hid (XDif x le tr sz hd y)) :
    Calls Tryd.prog 32 #[.pointer (some ⟨p, 0, none⟩), .int .u64 x] w
      fun e w' => e = .returned .nilIface ∧ ∃ v' l', Hid (WAt w' p v' (n + 13 + sz) ((V * 2 ^ 13 + hd) * 2 ^ sz + y) l') ∧ Below p w w' := by
  have hz : ((x : Int) == 0) = false := by simp; omega
  go_enter Tryd.func32, Tryd.ntmps32
  go_wp2_with fail
  refine (leads_any x w hx).mono ?_; rintro e w' ⟨rfl, rfl⟩
  rw [hd'.out.le1]
  go_wp2_with fail
  refine (trail_any x w (by omega) hx).mono ?_; rintro e w' ⟨rfl, rfl⟩
  rw [hd'.out.tr1]
  have hl := hd'.out.le64
  have ht := hd'.out.tr64
  have hs := hd'.out.szv
  have hs1 := hd'.out.sz1
  have e1 : (64 : Int) - (le : Int) - (tr : Int) = (sz : Int) := by omega
  obtain ⟨z, hz'⟩ : ∃ z, sz - 1 = z := ⟨_, rfl⟩
  have e2 : (sz : Int) - 1 = (z : Int) := by omega
  have hz64 : z < 64 := by omega
  have e3 : bits .or .u64 (bits .or .u64 4096 ((le : Int) * 64)) (z : Int) = (hd : Int) := by
    rw [head_or le z hl hz64, hd'.out.hdv, hz']
  have e4 : (x : Int) / 2 ^ tr = (y : Int) := by rw [hd'.out.yv]; simp
  have hs64 : sz ≤ 64 := by omega
  clear hz' hs
  go_wp2_with fail
  refine (bput_b p v n V hd 13 l _ hw.out (by omega) (Lib.hid (by have := hd'.out.hdv; omega)) (by omega)).mono ?_; rintro e w1 ⟨rfl, v1, l1, h1, hb1⟩
  have HB1 := Lib.hid hb1
  clear hb1
  go_wp2_with fail
  refine (bput_b p v1 (n + 13) _ y sz l1 _ h1.out hs64 (Lib.hid hd'.out.ylt) (by omega)).mono ?_; rintro e w2 ⟨rfl, v2, l2, h2, hb2⟩
  have HB2 := Lib.hid (HB1.out.trans hb2)
  clear hb2
  go_wp2_with fail
  go_ret
  exact ⟨rfl, v2, l2, h2, HB2.out⟩
theorem xputd_any (p : Nat) (v : Value) (n V : Nat) (l : List UInt8) (w : World) (hw : Hid (WAt w p v n V l)) (hb : n + 80 ≤ 1000000) (x : Nat) (hx : Hid (x < 18446744073709551616)) :
    Calls Tryd.prog 32 #[.pointer (some ⟨p, 0, none⟩), .int .u64 x] w
      fun e w' => e = .returned .nilIface ∧ ∃ v' l', Hid (WAt w' p v' (n + catN (xch x)) (V * 2 ^ catN (xch x) + catV (xch x)) l') ∧ Below p w w' := by
  by_cases h0 : x = 0
  · subst h0
    refine (xputd_zero p v n V l w hw hb).mono fun e w' ⟨h1, v', l', h2, h3⟩ => ⟨h1, v', l', Lib.hid ?_, h3⟩
    have h4 := h2.out
    rw [show xch 0 = [(0, 1)] from rfl]
    exact h4
  · obtain ⟨le, tr, sz, hd, y, hd'⟩ := xdif hx.out h0
    refine (xputd_some p v n V l w hw hb x h0 hx (Lib.hid hd')).mono fun e w' ⟨h1, v', l', h2, h3⟩ => ⟨h1, v', l', Lib.hid ?_, h3⟩
    have h4 := h2.out
    have e1 : catN [(hd, 13), (y, sz)] = 13 + sz := by simp [catN]
    have e2 : catV [(hd, 13), (y, sz)] = hd * 2 ^ sz + y := by simp [catV]
    have e3 : V * 2 ^ (13 + sz) + (hd * 2 ^ sz + y) = (V * 2 ^ 13 + hd) * 2 ^ sz + y := by
      rw [Nat.pow_add, Nat.add_mul, Nat.mul_assoc, Nat.add_assoc]
    rw [hd'.ch, e1, e2, e3, ← Nat.add_assoc]
    exact h4
theorem catN_xch (x : Nat) (hx : x < 18446744073709551616) : catN (xch x) ≤ 77 := by
  by_cases h0 : x = 0
  · subst h0; decide
  · obtain ⟨le, tr, sz, hd, y, hd'⟩ := xdif hx h0
    have := hd'.szv
    rw [hd'.ch]
    simp [catN]
    omega
theorem catN_xpart (l : List Nat) (n : Nat) (hl : ∀ m ∈ l, m < 18446744073709551616) (hn : n < 18446744073709551616) : catN (xpart l n) ≤ 77 := by
  unfold xpart
  split
  · simp [catN]
  · exact catN_xch _ (xor_lt hn (getLastD_lt hl))
/-- as it goes on -/
structure XPAt (l : List Nat) (j last n V : Nat) : Prop where
  la : last = (l.take j).getLast?.getD 0
  nn : n = catN (xenc (l.take j))
  vv : V = catV (xenc (l.take j))
theorem xpat_next {l : List Nat} {j last n V : Nat} (h : XPAt l j last n V) (hj : j < l.length) : XPAt l (j + 1) l[j] (n + catN (xpart (l.take j) l[j])) (V * 2 ^ catN (xpart (l.take j) l[j]) + catV (xpart (l.take j) l[j])) := by
  refine ⟨?_, ?_, ?_⟩
  · rw [List.take_succ_eq_append_getElem hj, List.getLast?_append]; rfl
  · rw [xenc_take hj, catN_append, h.nn]
  · rw [xenc_take hj, catV_append, h.vv]
theorem catN_take_mono (l : List Nat) (j : Nat) : catN (xenc (l.take j)) ≤ catN (xenc l) := by
  rcases Nat.lt_or_ge j l.length with h | h
  · obtain ⟨b, hb⟩ := xenc_split h
    rw [hb, catN_append]; omega
  · rw [List.take_of_length_le h]; exact Nat.le_refl _
set_option maxRecDepth 1000000 in
set_option maxHeartbeats 8000000 in
theorem xput_any (ao : Option Addr) (cap : Nat) (l : List Nat) (w : World) (hN : Nats .u64 w ao l) (hlt : Hid (∀ n ∈ l, n < 18446744073709551616)) (hl : l.length ≤ 20000) (hb : Hid (catN (xenc l) ≤ 900000)) {S : ByteArray} (hS : Hid ((⟨(xbytes l).toArray⟩ : ByteArray) = S)) :
    Calls Tryd.prog 10 #[.slice ao l.length cap] w fun e w' => e = .returned (.tuple #[.string S, .nilIface]) ∧ Below w.heap.size w w' := by
  have HN := Lib.hid hN
  clear hN
  go_enter Tryd.func10, Tryd.ntmps10
  go_wp2_with fail
  go_loopg [5, 16] l.length (fun k la i wr => ∃ (j last n V : Nat) (v : Value) (bs : List UInt8), j + k = l.length ∧ i = .int .i64 j ∧ la = .int .u64 last ∧ Hid (XPAt l j last n V) ∧ Hid (WAt wr w.heap.size v n V bs) ∧ Below w.heap.size w wr)
  case atStart => exact ⟨0, 0, 0, 0, _, [], by omega, rfl, rfl, Lib.hid ⟨rfl, rfl, rfl⟩, Lib.hid ⟨heap_alloc_new w _, World.ownsRow_nil _ _ _ _, wb_nil, by simp⟩, (Below.refl _ _).alloc (Nat.le_refl _) _⟩
  case round =>
    obtain ⟨j, last, n, V, v, bs, hj, rfl, rfl, HX, HW, hbr⟩ := hrel
    have HB := Lib.hid hbr
    have HJ := Lib.hid hj
    have hbs : w.heap.size ≤ wr.heap.size := hbr.size
    clear hbr hj
    by_cases hlt' : j < l.length
    · obtain ⟨b, off, x, HV, rfl, hbl, hc⟩ := (HN.out.below HB.out).at hlt'
      have hx : x < 18446744073709551616 := by rw [HV.out]; exact hlt.out _ (List.getElem_mem _)
      have HXL := Lib.hid hx
      have hi1 : (j : Int) < (l.length : Int) := by omega
      have hi0 : (0 : Int) ≤ (j : Int) := by omega
      have HX2 := Lib.hid (xpat_next HX.out hlt')
      have hn9 : n ≤ 900000 := by rw [HX.out.nn]; exact Nat.le_trans (catN_take_mono l j) hb.out
      have htl : ∀ m ∈ l.take j, m < 18446744073709551616 := fun m hm => hlt.out m (List.mem_of_mem_take hm)
      have hlast : last < 18446744073709551616 := by rw [HX.out.la]; exact getLastD_lt htl
      rw [← HV.out] at HX2
      have HTL := Lib.hid htl
      clear htl
      have HLN : Hid (0 < l.length) := Lib.hid (by omega)
      by_cases hz : j = 0
      · have hp : xpart (l.take j) x = [(x, 64)] := by subst hz; rfl
        have hz' : ((j : Int) == 0) = true := by subst hz; rfl
        rw [hp] at HX2
        clear hz hp
        go_wp2_with fail
        refine (bput_b _ v n V x 64 bs _ HW.out (by omega) (Lib.hid hx) (by omega)).mono ?_; rintro e w1 ⟨rfl, v1, l1, h1, hb1⟩
        have HB1 := Lib.hid (HB.out.trans hb1)
        clear hb1
        go_wp2_with fail
        have hj := HJ.out
        go_roundg (gk - 1)
        case measure => omega
        case rel => exact ⟨j + 1, x, _, _, v1, l1, by omega, by simp, rfl, HX2, Lib.hid (by have := h1.out; simpa [catN, catV] using this), HB1.out⟩
      · have hz' : ((j : Int) == 0) = false := by simp; omega
        have hp : xpart (l.take j) x = xch (x ^^^ last) := by
          unfold xpart
          rw [if_neg (by intro h; have h2 := congrArg List.length h; rw [List.length_take, List.length_nil] at h2; omega), ← HX.out.la]
        obtain ⟨d, hd⟩ : ∃ d, x ^^^ last = d := ⟨_, rfl⟩
        have hdl : Hid (d < 18446744073709551616) := Lib.hid (hd ▸ xor_lt hx hlast)
        have e1 : bits .xor .u64 (x : Int) (last : Int) = (d : Int) := by rw [xor64 x last hx hlast, hd]
        rw [hp, hd] at HX2
        clear hz hp
        go_wp2_with fail
        refine (xputd_any _ v n V bs _ HW (by omega) d hdl).mono ?_; rintro e w1 ⟨rfl, v1, l1, h1, hb1⟩
        have HB1 := Lib.hid (HB.out.trans hb1)
        clear hb1
        go_wp2_with fail
        have hj := HJ.out
        go_roundg (gk - 1)
        case measure => omega
        case rel => exact ⟨j + 1, x, _, _, v1, l1, by omega, by simp, rfl, HX2, h1, HB1.out⟩
    · have hjl : j = l.length := by have := HJ.out; omega
      have hw := HW.out
      have hSS : (⟨bs.toArray⟩ : ByteArray) = S := by
        rw [← hS.out, wb_packB hw.2.2.1 hw.2.2.2, HX.out.nn, HX.out.vv, hjl, List.take_length]
        rfl
      subst hSS
      clear hw hjl
      go_wp2_with fail
      refine (bstr_any _ v n V bs _ HW.out).mono ?_; rintro e w' ⟨rfl, rfl⟩
      go_wp2_with fail
      go_ret2
      exact ⟨rfl, HB.out⟩
end Go.Proofs.YtihoemimiplhfaaDoor
