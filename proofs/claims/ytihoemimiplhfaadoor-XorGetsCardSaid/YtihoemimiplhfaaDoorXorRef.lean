/-
  hygref18.PutXor.
-/
import Derived.Test.YtihoemimiplhfaaDoorXorLaw
import Derived.Test.YtihoemimiplhfaaDoorBitsRefW
import Derived.IntWalk
namespace Go.Proofs.YtihoemimiplhfaaDoor
open Go.RowKit

theorem rwat_below {w w' : World} {q : Nat} {v : Value} {L : List UInt8} (hw : RWAt w q v L) (hu : Upd (putS q v) w w') : Below q w w' :=
  hu.below (Nat.le_of_lt (row_lt hw.1)) (fun k _ hk => by
    rcases hk with rfl | hk
    · exact Nat.le_refl _
    · have := (hw.2.1.lt _ hk).1; omega)
/-- the bits so far: how many, their number -/
def RWN (w : World) (q n V : Nat) : Prop := ∃ v L, RWAt w q v L ∧ L.length = n ∧ bitV L = V
theorem rput_b (q n V N c : Nat) (w : World) (hw : RWN w q n V) (hc : c ≤ 64) (hN : Hid (N < 2 ^ c)) (hb : n + c ≤ 1000000) :
    Calls Tryd.prog 34 #[.pointer (some ⟨q, 0, none⟩), .int .u64 N, .int .i64 c] w
      fun e w' => e = .returned (.int .i64 0) ∧ Hid (RWN w' q (n + c) (V * 2 ^ c + N)) ∧ Below q w w' := by
  obtain ⟨v, L, h1, rfl, rfl⟩ := hw
  refine (rput_ok q v N c L w h1 hc hN hb).mono fun e w' ⟨v', L', h2, h3, h4, h5, h6, _⟩ => ⟨h2, Lib.hid ⟨v', L', h3, h4, h5⟩, rwat_below h1 h6⟩
theorem rtext_b (q n V : Nat) (w : World) (hw : RWN w q n V) (hn : n ≤ 1000000) {S : ByteArray} (hS : Hid ((⟨(packB n V).toArray⟩ : ByteArray) = S)) :
    Calls Tryd.prog 37 #[.pointer (some ⟨q, 0, none⟩)] w fun e w' => e = .returned (.string S) ∧ Below w.heap.size w w' := by
  obtain ⟨v, L, h1, rfl, rfl⟩ := hw
  rw [← hS.out]
  exact rtext_any q v L w h1 hn
theorem rwn_new (w : World) : RWN (w.alloc (.cells #[.slice none 0 0] 68)) w.heap.size 0 0 := ⟨.slice none 0 0, [], ⟨heap_alloc_new w _, World.ownsRow_nil _ _ _ _, by intro b hb; simp at hb⟩, rfl, rfl⟩
theorem tzz_pos {x : Nat} (h : x ≠ 0) : tzz x = tz x := by unfold tzz; rw [if_neg h]
set_option maxRecDepth 1000000 in
set_option maxHeartbeats 8000000 in
theorem rxput_any (ao : Option Addr) (cap : Nat) (l : List Nat) (n : Nat) (w : World) (hln : l.length = n) (hN : Nats .u64 w ao l) (hlt : Hid (∀ n ∈ l, n < 18446744073709551616)) (hl : n ≤ 20000) (hb : Hid (catN (xenc l) ≤ 900000)) {S : ByteArray} (hS : Hid ((⟨(xbytes l).toArray⟩ : ByteArray) = S)) :
    Calls Tryd.prog 11 #[.slice ao n cap] w fun e w' => e = .returned (.tuple #[.string S, .int .i64 0]) ∧ Below w.heap.size w w' := by
  have HN := Lib.hid hN
  have HLN := Lib.hid hln
  clear hN hln
  go_enter Tryd.func11, Tryd.ntmps11
  go_wp2_with fail
  go_loopg [5] n (fun k i wr => ∃ (j last m V : Nat), j + k = n ∧ i = .int .i64 j ∧ Hid (XPAt l j last m V) ∧ Hid (RWN wr w.heap.size m V) ∧ Below w.heap.size w wr)
  case atStart => exact ⟨0, 0, 0, 0, by omega, rfl, Lib.hid ⟨rfl, rfl, rfl⟩, Lib.hid (rwn_new w), below_new0 _ _⟩
  case round =>
    obtain ⟨j, last, m, V, hj, rfl, HX, HW, hbr⟩ := hrel
    have HB := Lib.hid hbr
    have HJ := Lib.hid hj
    have hbs : w.heap.size ≤ wr.heap.size := hbr.size
    clear hbr hj
    by_cases hjn : j < n
    · have hlt' : j < l.length := by rw [HLN.out]; exact hjn
      have hgk : 0 < gk := by have := HJ.out; omega
      obtain ⟨b, off, x, HV, rfl, hbl, hc⟩ := (HN.out.below HB.out).at hlt'
      have hx : x < 18446744073709551616 := by rw [HV.out]; exact hlt.out _ (List.getElem_mem _)
      have hi1 : (j : Int) < (n : Int) := by omega
      have hi0 : (0 : Int) ≤ (j : Int) := by omega
      have HX2 := Lib.hid (xpat_next HX.out hlt')
      have hn9 : m ≤ 900000 := by rw [HX.out.nn]; exact Nat.le_trans (catN_take_mono l j) hb.out
      have htl : ∀ m ∈ l.take j, m < 18446744073709551616 := fun m hm => hlt.out m (List.mem_of_mem_take hm)
      have hlast : last < 18446744073709551616 := by rw [HX.out.la]; exact getLastD_lt htl
      rw [← HV.out] at HX2
      clear htl
      by_cases hz : j = 0
      · have hp : xpart (l.take j) x = [(x, 64)] := by subst hz; rfl
        have hz' : ((j : Int) == 0) = true := by subst hz; rfl
        have hc' : wr.cell? ⟨b, off, none⟩ = some (.int .u64 (x : Int)) := by rw [hz] at hc; exact hc
        have hn0 : 0 < n := by omega
        rw [hp] at HX2
        clear hz hp hc
        go_wp2_with fail
        refine (rput_b _ m V x 64 _ HW.out (by omega) (Lib.hid hx) (by omega)).mono ?_; rintro e w1 ⟨rfl, h1, hb1⟩
        have HB1 := Lib.hid (HB.out.trans hb1)
        clear hb1
        go_wp2_with fail
        have hj := HJ.out
        go_roundg (gk - 1)
        case measure => omega
        case rel => exact ⟨j + 1, x, _, _, by omega, by simp, HX2, Lib.hid (by have := h1.out; simpa [catN, catV] using this), HB1.out⟩
      · have hz' : ((j : Int) == 0) = false := by simp; omega
        have hp : xpart (l.take j) x = xch (x ^^^ last) := by
          unfold xpart
          rw [if_neg (by intro h; have h2 := congrArg List.length h; rw [List.length_take, List.length_nil] at h2; omega), ← HX.out.la]
        have hlt2 : j - 1 < l.length := by omega
        obtain ⟨b2, off2, x2, HV2, hao, hbl2, hc2⟩ := (HN.out.below HB.out).at hlt2
        simp only [Option.some.injEq, Addr.mk.injEq, and_true] at hao
        obtain ⟨rfl, rfl⟩ := hao
        have hxl : x2 = last := by
          rw [HV2.out, HX.out.la, List.getLast?_eq_getElem?, List.length_take, Nat.min_eq_left (by omega), List.getElem?_take_of_lt (by omega), List.getElem?_eq_getElem hlt2]
          rfl
        subst hxl
        obtain ⟨d, hd⟩ : ∃ d, x ^^^ x2 = d := ⟨_, rfl⟩
        have hdl : d < 18446744073709551616 := hd ▸ xor_lt hx hlast
        have HDL := Lib.hid hdl
        have e1 : bits .xor .u64 (x : Int) (x2 : Int) = (d : Int) := by rw [xor64 x x2 hx hlast, hd]
        obtain ⟨jj, hjj⟩ : ∃ jj, j - 1 = jj := ⟨_, rfl⟩
        have hji : (j : Int) - 1 = (jj : Int) := by omega
        have hjl : (jj : Int) < (n : Int) := by omega
        rw [hjj] at hc2
        rw [hp, hd] at HX2
        clear hz hp hjj hlt2 HV2
        go_wp2_with fail
        have hne : Nonempty { w' : World // Below wr.heap.size wr w' } := ⟨⟨_, Below.refl _ _⟩⟩
        have hx1 : ∀ q : { w' : World // Below wr.heap.size wr w' }, q.1.cell? ⟨b, off + j, none⟩ = some (.int .u64 (x : Int)) := fun q => (q.2.cell (p := ⟨b, off + j, none⟩) hbl).trans hc
        have hx2 : ∀ q : { w' : World // Below wr.heap.size wr w' }, q.1.cell? ⟨b, off + jj, none⟩ = some (.int .u64 (x2 : Int)) := fun q => (q.2.cell (p := ⟨b, off + jj, none⟩) hbl).trans hc2
        have hwj : IntKind.i64.wrap (jj : Int) = (jj : Int) := IntWalk.i64_in _ (by omega)
        have hjj0 : (0 : Int) ≤ (jj : Int) := by omega
        refine wp_region_seq (S := fun w' => Below wr.heap.size wr w') [(0, true), (1, true), (2, true), (3, true), (4, true), (5, true), (6, true), (7, true), (8, true), (9, true), (10, true)] (by kernel_rfl) (by kernel_rfl) (by kernel_rfl) (by kernel_rfl) (below_drew0 wr) ?_
        iterate 11 (refine seq_take _ rfl (fun K hK => ?_); go_simp; (first | refine hK _ ?_ | (refine ⟨undef, by rw [if_neg (by simp [undef])], ?_⟩; refine hK _ ?_)); clear hK K)
        refine seq_done ?_
        have HBD := Lib.hid (HB.out.trans ((below_drew0 wr).mono hbs))
        have HWD : Hid (RWN wr.drew w.heap.size m V) := Lib.hid (by
          obtain ⟨v, L, ⟨g1, g2, g3⟩, g4, g5⟩ := HW.out
          exact ⟨v, L, ⟨g1, g2, g3⟩, g4, g5⟩)
        have hbs2 : w.heap.size ≤ wr.drew.heap.size := hbs
        clear hx1 hx2 hne hc hc2
        obtain ⟨w3, hw3⟩ : ∃ w3, wr.drew = w3 := ⟨_, rfl⟩
        rw [hw3] at HBD HWD hbs2 ⊢
        clear hw3
        by_cases hd0 : d = 0
        · subst hd0
          have hch : catN (xch 0) = 1 ∧ catV (xch 0) = 0 := ⟨rfl, rfl⟩
          rw [hch.1, hch.2] at HX2
          clear hch hd e1
          go_wp2_with fail
          refine (rput_b _ m V 0 1 _ HWD.out (by omega) (Lib.hid (by omega)) (by omega)).mono ?_; rintro e w4 ⟨rfl, h1, hb1⟩
          have HB1 := Lib.hid (HBD.out.trans hb1)
          clear hb1
          go_wp2_with fail
          have hj := HJ.out
          go_roundg (gk - 1)
          case measure => omega
          case rel => exact ⟨j + 1, x, _, _, by omega, by simp, HX2, h1, HB1.out⟩
        · have hdz : ((d : Int) == 0) = false := by simp; omega
          obtain ⟨le, tr, sz, hv, y, H⟩ := xdif hdl hd0
          have HD := Lib.hid H
          have hle := H.le64
          have htr := H.tr64
          have hsz1 := H.sz1
          have hsz64 : sz ≤ 64 := by have := H.szv; omega
          have e3 : (64 : Int) - (le : Int) - (tr : Int) = (sz : Int) := by have := H.szv; omega
          obtain ⟨z, hz1⟩ : ∃ z, sz - 1 = z := ⟨_, rfl⟩
          have e4 : (sz : Int) - 1 = (z : Int) := by omega
          have hz64 : z < 64 := by omega
          have e5 : (d : Int) / 2 ^ tr = (y : Int) := by rw [H.yv]; simp
          have hmin : min tr 64 = tr := by omega
          have HX3 : Hid (XPAt l (j + 1) x (m + 1 + 6 + 6 + sz) ((((V * 2 ^ 1 + 1) * 2 ^ 6 + le) * 2 ^ 6 + z) * 2 ^ sz + y)) := Lib.hid (by
            have h5 := HX2.out
            have c1 : catN [(hv, 13), (y, sz)] = 13 + sz := by simp [catN]
            have c2 : catV [(hv, 13), (y, sz)] = hv * 2 ^ sz + y := by simp [catV]
            rw [H.ch, c1, c2, H.hdv, hz1] at h5
            have c3 : (((V * 2 ^ 1 + 1) * 2 ^ 6 + le) * 2 ^ 6 + z) = V * 2 ^ 13 + (4096 + le * 64 + z) := by omega
            rw [c3, Nat.add_mul, Nat.mul_assoc, ← Nat.pow_add, Nat.add_assoc (V * _), show m + 1 + 6 + 6 + sz = m + (13 + sz) by omega]
            exact h5)
          have hlead : (64 - blen d : Nat) = le := H.le1
          have htrail : tzz d = tr := by rw [tzz_pos hd0, H.tr1]
          clear H hz1 hd e1
          go_wp2_with fail
          refine (rlead_any d _ HDL).mono ?_; rintro e w' ⟨rfl, rfl⟩
          rw [hlead]
          go_wp2_with fail
          refine (rtrail_any d _ HDL).mono ?_; rintro e w' ⟨rfl, rfl⟩
          rw [htrail]
          go_wp2_with fail
          refine (rput_b _ m V 1 1 _ HWD.out (by omega) (Lib.hid (by omega)) (by omega)).mono ?_; rintro e w4 ⟨rfl, h1, hb1⟩
          have HB1 := Lib.hid (HBD.out.trans hb1)
          clear hb1
          go_wp2_with fail
          refine (rlead_any d _ HDL).mono ?_; rintro e w' ⟨rfl, rfl⟩
          rw [hlead]
          go_wp2_with fail
          refine (rput_b _ _ _ le 6 _ h1.out (by omega) (Lib.hid (by omega)) (by omega)).mono ?_; rintro e w5 ⟨rfl, h2, hb2⟩
          have HB2 := Lib.hid (HB1.out.trans hb2)
          clear hb2
          go_wp2_with fail
          refine (rput_b _ _ _ z 6 _ h2.out (by omega) (Lib.hid (by omega)) (by omega)).mono ?_; rintro e w6 ⟨rfl, h3, hb3⟩
          have HB3 := Lib.hid (HB2.out.trans hb3)
          clear hb3
          go_wp2_with fail
          refine (rtrail_any d _ HDL).mono ?_; rintro e w' ⟨rfl, rfl⟩
          rw [htrail]
          go_wp2_with fail
          refine (rput_b _ _ _ y sz _ h3.out hsz64 (Lib.hid HD.out.ylt) (by omega)).mono ?_; rintro e w7 ⟨rfl, h4, hb4⟩
          have HB4 := Lib.hid (HB3.out.trans hb4)
          clear hb4
          go_wp2_with fail
          have hj := HJ.out
          go_roundg (gk - 1)
          case measure => omega
          case rel => exact ⟨j + 1, x, _, _, by omega, by simp, HX3, h4, HB4.out⟩
    · have hjl : j = l.length := by have := HJ.out; have := HLN.out; omega
      have hi1 : ¬ (j : Int) < (n : Int) := by omega
      have hm9 : m ≤ 900000 := by rw [HX.out.nn]; exact Nat.le_trans (catN_take_mono l j) hb.out
      have HSS : Hid ((⟨(packB m V).toArray⟩ : ByteArray) = S) := Lib.hid (by
        rw [← hS.out, HX.out.nn, HX.out.vv, hjl, List.take_length]
        rfl)
      clear hjl
      go_wp2_with fail
      refine (rtext_b _ m V _ HW.out (by omega) HSS).mono ?_; rintro e w4 ⟨rfl, hb4⟩
      have HB4 := Lib.hid (HB.out.trans (hb4.mono hbs))
      clear hb4
      go_wp2_with fail
      go_ret2
      exact ⟨rfl, HB4.out⟩
end Go.Proofs.YtihoemimiplhfaaDoor
