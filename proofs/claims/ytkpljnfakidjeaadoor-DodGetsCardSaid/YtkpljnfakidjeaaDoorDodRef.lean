/-
  hygref18.PutDod.
-/
import Derived.Test.YtkpljnfakidjeaaDoorDodPut
namespace Go.Proofs.YtkpljnfakidjeaaDoor
open Go.RowKit

theorem rput_at (n : Nat) (w : World) (hn : n < 2^64) : Calls Tryd.prog 23 #[.int .u64 n] w fun e w' => e = .returned (.string ⟨(vput n).toArray⟩) ∧ Below w.heap.size w w' := refput_any n w (put_start hn) (Lib.hid hn)
theorem rzig_at (z : Int) (x : Nat) (w : World) (h1 : -9223372036854775808 ≤ z) (h2 : z ≤ 9223372036854775807) (hx : Hid (zig z = (x : Int))) :
    Calls Tryd.prog 24 #[.int .i64 z] w fun e w' => e = .returned (.int .u64 x) ∧ w = w' := by
  rw [← hx.out]; exact refzig_any z w h1 h2
theorem enc_zero_step {l : List Nat} {xs : List Nat} {la st : Nat} (h : enc l = (xs, la, st)) (hl : l.length ≤ 1) : st = 0 := by
  rcases (by cases l with
    | nil => exact .inl rfl
    | cons a t => exact .inr (by cases t with
      | nil => exact ⟨a, rfl⟩
      | cons b u => simp at hl) : l = [] ∨ ∃ a, l = [a]) with rfl | ⟨a, rfl⟩
  · simp [enc] at h; exact h.2.2.symm
  · simp [enc, encT] at h; exact h.2.2.symm
theorem ba_join (a b : List UInt8) : (⟨a.toArray⟩ : ByteArray) ++ (⟨b.toArray⟩ : ByteArray) = ⟨(a ++ b).toArray⟩ := ba_append a b
set_option maxRecDepth 1000000 in
set_option maxHeartbeats 4000000 in
theorem rdput_any (ao : Option Addr) (cap : Nat) (l : List Nat) (w : World) (hN : Nats .u64 w ao l) (hlt : Hid (∀ n ∈ l, n < 18446744073709551616)) (hl : l.length ≤ 20000) {S : ByteArray} (hS : Hid ((⟨(vputs (enc l).1).toArray⟩ : ByteArray) = S)) :
    Calls Tryd.prog 10 #[.slice ao l.length cap] w fun e w' => e = .returned (.tuple #[.string S, .int .i64 0]) ∧ Below w.heap.size w w' := by
  go_enter Tryd.func10, Tryd.ntmps10
  go_wp2_with fail
  go_loopg [4, 5, 6, 7] l.length (fun k vs la st i wr => ∃ (j : Nat) (t : List Nat × Nat × Nat) (z : ByteArray), j + k = l.length ∧ i = .int .i64 j ∧ vs = .string z ∧ la = .int .u64 (t.2.1 : Nat) ∧ st = .int .u64 (t.2.2 : Nat) ∧ Hid (enc (l.take j) = t) ∧ Hid (z = ⟨(vputs t.1).toArray⟩) ∧ Below w.heap.size w wr)
  case atStart => exact ⟨0, ([], 0, 0), ⟨#[]⟩, by omega, rfl, rfl, rfl, rfl, Lib.hid rfl, Lib.hid rfl, Below.refl _ _⟩
  case round =>
    obtain ⟨j, t, z, hj, rfl, rfl, rfl, rfl, HT, HZ, hbr⟩ := hrel
    obtain ⟨xs, la, st⟩ := t
    have ok : Ok64 (enc (l.take j)) (l.take j).length := enc_ok _ (fun n hn => hlt.out n (List.mem_of_mem_take hn))
    have hz0 : j ≤ 1 → st = 0 := fun h => enc_zero_step HT.out (by rw [List.length_take]; omega)
    rw [HT.out] at ok
    have hla := ok.last
    have hst := ok.step
    have hxl := ok.len
    simp only at hla hst hxl
    have hvl := vputs_length xs
    have HBR := Lib.hid hbr
    have hzs : z.size = (vputs xs).length := by rw [HZ.out]; exact ba_size _
    clear hbr ok
    by_cases hlt' : j < l.length
    · obtain ⟨b, off, n, HN, rfl, hbl, hc⟩ := (hN.below HBR.out).at hlt'
      have hn : n < 18446744073709551616 := by rw [HN.out]; exact hlt.out _ (List.getElem_mem _)
      have HE := Lib.hid (show enc (l.take (j + 1)) = encT (xs, la, st) n by rw [List.take_succ_eq_append_getElem hlt', enc_snoc, HT.out, HN.out])
      have hxj : xs.length = j := by rw [hxl, List.length_take]; omega
      have hi1 : (j : Int) < (l.length : Int) := by omega
      have hi0 : (0 : Int) ≤ (j : Int) := by omega
      have HJ := Lib.hid hj
      obtain ⟨d1, hd1⟩ : ∃ d1, sub64 n la = d1 := ⟨_, rfl⟩
      obtain ⟨d2, hd2⟩ : ∃ d2, sub64 d1 st = d2 := ⟨_, rfl⟩
      have l1 : d1 < 18446744073709551616 := by rw [← hd1]; exact sub64_lt _ _
      have l2 : d2 < 18446744073709551616 := by rw [← hd2]; exact sub64_lt _ _
      have e1 := wrap_sub n la hn hla
      rw [hd1] at e1
      obtain ⟨x, hx⟩ : ∃ x, zigN d2 = x := ⟨_, rfl⟩
      have lx : x < 18446744073709551616 := by rw [← hx]; exact zigN_lt l2
      have hzb := sgn_bounds d2 l2
      have e2 := wrap_sub d1 st l1 hst
      have e3 := wrap_sgn d2 l2
      have hzs := zig_sgn d2 l2
      rw [hd2] at e2
      rw [hx] at hzs
      have HD : Hid (xs ≠ [] → encT (xs, la, st) n = (xs ++ [x], n, d1)) := Lib.hid fun h => by unfold encT; rw [if_neg h]; simp only [hd1, hd2, hx]
      have hd21 : st = 0 → d2 = d1 := fun h => by subst h; rw [← hd2]; unfold sub64; omega
      generalize sgn64 d2 = zz at hzb e3 hzs
      have HZZ := Lib.hid hzs
      obtain ⟨hz1, hz2⟩ := hzb
      clear hj hd1 hd2 hx hzs
      by_cases hz : j = 0
      · have HX : Hid (xs = []) := Lib.hid (List.length_eq_zero_iff.1 (by omega))
        have ez : ((j : Int) == 0) = true := by simp; omega
        have eg : ¬ 0 < j := by omega
        clear hz hz0 hd21 e2 e3
        go_wp2_with fail
        refine (rput_at n _ hn).mono ?_; rintro e w1 ⟨rfl, hb1⟩
        have HB1 := Lib.hid (HBR.out.trans (hb1.mono HBR.out.size))
        have hc1 : w1.cell? ⟨b, off + j, none⟩ = some (.int .u64 (n : Int)) := (hb1.cell (p := ⟨b, off + j, none⟩) hbl).trans hc
        have hy : (⟨(vput n).toArray⟩ : ByteArray).size ≤ 10 := by rw [ba_size]; exact (vput_length n).2
        have hz9 : z.size ≤ 200000 := by omega
        obtain ⟨z2, hz2'⟩ : ∃ z2, z ++ (⟨(vput n).toArray⟩ : ByteArray) = z2 := ⟨_, rfl⟩
        have HZ2 : Hid (z2 = ⟨(vputs [n]).toArray⟩) := Lib.hid (by rw [← hz2', HZ.out, HX.out, ba_join]; simp [vputs])
        clear hb1
        go_wp2_with fail
        have hj := HJ.out
        go_roundg (gk - 1)
        case measure => omega
        case rel => exact ⟨j + 1, ([n], n, st), z2, by omega, by simp, rfl, rfl, rfl, Lib.hid (by rw [HE.out, HX.out]; rfl), HZ2, HB1.out⟩
      · have HX : Hid (xs ≠ []) := Lib.hid fun h => hz (by rw [← hxj, h]; rfl)
        have ez : ((j : Int) == 0) = false := by simp; omega
        have eg : 0 < j := by omega
        have HDD := Lib.hid (HD.out HX.out)
        by_cases ho : j = 1
        · have eo : ((j : Int) == 1) = true := by simp; omega
          have hdd := hd21 (hz0 (by omega))
          subst hdd
          clear hz hz0 hd21 ho e2
          go_wp2_with fail
          refine (rzig_at zz x _ hz1 hz2 HZZ).mono ?_; rintro e w' ⟨rfl, rfl⟩
          go_wp2_with fail
          refine (rput_at x _ lx).mono ?_; rintro e w1 ⟨rfl, hb1⟩
          have HB1 := Lib.hid (HBR.out.trans (hb1.mono HBR.out.size))
          have hc1 : w1.cell? ⟨b, off + j, none⟩ = some (.int .u64 (n : Int)) := (hb1.cell (p := ⟨b, off + j, none⟩) hbl).trans hc
          have hy : (⟨(vput x).toArray⟩ : ByteArray).size ≤ 10 := by rw [ba_size]; exact (vput_length x).2
          have hz9 : z.size ≤ 200000 := by omega
          obtain ⟨z2, hz2'⟩ : ∃ z2, z ++ (⟨(vput x).toArray⟩ : ByteArray) = z2 := ⟨_, rfl⟩
          have HZ2 : Hid (z2 = ⟨(vputs (xs ++ [x])).toArray⟩) := Lib.hid (by rw [← hz2', HZ.out, ba_join, vputs_snoc])
          clear hb1
          go_wp2_with fail
          have hj := HJ.out
          go_roundg (gk - 1)
          case measure => omega
          case rel => exact ⟨j + 1, (xs ++ [x], n, d2), z2, by omega, by simp, rfl, rfl, rfl, Lib.hid (by rw [HE.out, HDD.out]), HZ2, HB1.out⟩
        · have eo : ((j : Int) == 1) = false := by simp; omega
          clear hz hz0 hd21 ho
          go_wp2_with fail
          refine (rzig_at zz x _ hz1 hz2 HZZ).mono ?_; rintro e w' ⟨rfl, rfl⟩
          go_wp2_with fail
          refine (rput_at x _ lx).mono ?_; rintro e w1 ⟨rfl, hb1⟩
          have HB1 := Lib.hid (HBR.out.trans (hb1.mono HBR.out.size))
          have hc1 : w1.cell? ⟨b, off + j, none⟩ = some (.int .u64 (n : Int)) := (hb1.cell (p := ⟨b, off + j, none⟩) hbl).trans hc
          have hy : (⟨(vput x).toArray⟩ : ByteArray).size ≤ 10 := by rw [ba_size]; exact (vput_length x).2
          have hz9 : z.size ≤ 200000 := by omega
          obtain ⟨z2, hz2'⟩ : ∃ z2, z ++ (⟨(vput x).toArray⟩ : ByteArray) = z2 := ⟨_, rfl⟩
          have HZ2 : Hid (z2 = ⟨(vputs (xs ++ [x])).toArray⟩) := Lib.hid (by rw [← hz2', HZ.out, ba_join, vputs_snoc])
          clear hb1
          go_wp2_with fail
          have hj := HJ.out
          go_roundg (gk - 1)
          case measure => omega
          case rel => exact ⟨j + 1, (xs ++ [x], n, d1), z2, by omega, by simp, rfl, rfl, rfl, Lib.hid (by rw [HE.out, HDD.out]), HZ2, HB1.out⟩
    · have HE : z = S := by
        have : l.take j = l := List.take_of_length_le (by omega)
        rw [HZ.out, ← hS.out, ← this, HT.out]
      subst HE
      go_wp2_with fail
      go_ret2
      exact ⟨rfl, HBR.out⟩
end Go.Proofs.YtkpljnfakidjeaaDoor
