/-
  dod.Put.
-/
import Derived.Test.YtkpljnfakidjeaaDoorStrict
import Derived.Test.YtkpljnfakidjeaaDoorBuilder
import Derived.Test.YtkpljnfakidjeaaDoorDodMath
import Derived.Test.YtkpljnfakidjeaaDoorSeqMath
import Derived.Test.YtkpljnfakidjeaaDoorInts
import Derived.Deep.LoopGhost
namespace Go.Proofs.YtkpljnfakidjeaaDoor
open Go.RowKit

theorem put_at (n : Nat) (w : World) (hn : n < 2^64) : Calls Tryd.prog 20 #[.int .u64 n] w fun e w' => e = .returned (.string ⟨(vput n).toArray⟩) ∧ Below w.heap.size w w' := put_any n w (put_start hn)
theorem zig_at (z : Int) (x : Nat) (w : World) (h1 : -9223372036854775808 ≤ z) (h2 : z ≤ 9223372036854775807) (hx : Hid (zig z = (x : Int))) :
    Calls Tryd.prog 21 #[.int .i64 z] w fun e w' => e = .returned (.int .u64 x) ∧ w = w' := by
  rw [← hx.out]; exact zig_any z w h1 h2
theorem zag_at (x : Nat) (z : Int) (w : World) (hn : x < 2^64) (hz : Hid (zag x = z)) :
    Calls Tryd.prog 28 #[.int .u64 x] w fun e w' => e = .returned (.int .i64 z) ∧ w = w' := by
  rw [← hz.out]; exact zag_any x w (Lib.hid hn)
theorem build_new (w : World) : BuildIn w.heap.size w.heap.size [] (w.alloc (.cells #[.pointer none, .slice none 0 0] 46)) :=
  .inl ⟨Nat.le_refl _, _, heap_alloc_new w _, ⟨rfl, .inl ⟨rfl, rfl⟩⟩, by simp [Value.ownBlock]⟩
theorem BuildIn.below {B b : Nat} {l : List UInt8} {w w' : World} (h : BuildIn B b l w) (hb : Below w.heap.size w w') : BuildIn B b l w' := by
  have key : ∀ p, Lib.BuilderAt 46 5 B b p (Lib.byteCells l) w → Lib.BuilderAt 46 5 B b p (Lib.byteCells l) w' := fun p ⟨h1, v, h2, h3, h4⟩ =>
    ⟨h1, v, (hb.block b (row_lt h2)).trans h2, (Upd.of_new (S := fun _ => False) hb).own h3 (fun _ _ h => h), h4⟩
  rcases h with h | h
  · exact .inl (key _ h)
  · exact .inr (key _ h)
theorem list_bytes (l : List UInt8) : (⟨l.toArray⟩ : ByteArray).data.toList = l := by simp
theorem vputs_snoc (xs : List Nat) (n : Nat) : vputs (xs ++ [n]) = vputs xs ++ vput n := by simp [vputs]
theorem wrap_sub (a b : Nat) (ha : a < 18446744073709551616) (hb : b < 18446744073709551616) : IntKind.u64.wrap ((a : Int) - (b : Int)) = ((sub64 a b : Nat) : Int) := by
  rw [IntKind.wrap_u64]; unfold sub64; omega
theorem wrap_sgn (d : Nat) (hd : d < 18446744073709551616) : wrap64 (d : Int) = sgn64 d := by
  unfold sgn64 wrap64; split <;> omega
theorem zig_sgn (d : Nat) (hd : d < 18446744073709551616) : zig (sgn64 d) = ((zigN d : Nat) : Int) := by
  unfold zigN zig sgn64; split <;> split <;> omega
theorem sgn_bounds (d : Nat) (hd : d < 18446744073709551616) : -9223372036854775808 ≤ sgn64 d ∧ sgn64 d ≤ 9223372036854775807 := by
  unfold sgn64; split <;> omega
set_option maxRecDepth 1000000 in
set_option maxHeartbeats 4000000 in
theorem dput_any (ao : Option Addr) (cap : Nat) (l : List Nat) (w : World) (hN : Nats .u64 w ao l) (hlt : Hid (∀ n ∈ l, n < 18446744073709551616)) (hl : l.length ≤ 20000) {T : List UInt8} (hT : Hid (vputs (enc l).1 = T)) :
    Calls Tryd.prog 9 #[.slice ao l.length cap] w fun e w' => e = .returned (.tuple #[.string ⟨T.toArray⟩, .nilIface]) ∧ Below w.heap.size w w' := by
  go_enter Tryd.func9, Tryd.ntmps9
  go_wp2_with fail
  go_loopg [5, 6, 16] l.length (fun k la st i wr => ∃ j : Nat, ∃ t : List Nat × Nat × Nat, j + k = l.length ∧ i = .int .i64 j ∧ la = .int .u64 (t.2.1 : Nat) ∧ st = .int .u64 (t.2.2 : Nat) ∧ Hid (enc (l.take j) = t) ∧ BuildIn w.heap.size w.heap.size (vputs t.1) wr ∧ Below w.heap.size w wr)
  case atStart => exact ⟨0, ([], 0, 0), by omega, rfl, rfl, rfl, Lib.hid rfl, build_new w, below_new0 _ _⟩
  case round =>
    obtain ⟨j, t, hj, rfl, rfl, rfl, HT, hb, hbr⟩ := hrel
    obtain ⟨xs, la, st⟩ := t
    have ok : Ok64 (enc (l.take j)) (l.take j).length := enc_ok _ (fun n hn => hlt.out n (List.mem_of_mem_take hn))
    rw [HT.out] at ok
    have hla := ok.last
    have hst := ok.step
    have hxl := ok.len
    simp only at hla hst hxl hb
    have hvl := vputs_length xs
    have HB := Lib.hid hb
    have HBR := Lib.hid hbr
    have hws := hbr.size
    clear hb hbr ok
    by_cases hlt' : j < l.length
    · obtain ⟨b, off, n, HN, rfl, hbl, hc⟩ := (hN.below HBR.out).at hlt'
      have hn : n < 18446744073709551616 := by rw [HN.out]; exact hlt.out _ (List.getElem_mem _)
      have HE := Lib.hid (show enc (l.take (j + 1)) = encT (xs, la, st) n by rw [List.take_succ_eq_append_getElem hlt', enc_snoc, HT.out, HN.out])
      have hxj : xs.length = j := by rw [hxl, List.length_take]; omega
      have hi1 : (j : Int) < (l.length : Int) := by omega
      have hi0 : (0 : Int) ≤ (j : Int) := by omega
      have HJ := Lib.hid hj
      clear hj
      by_cases hz : j = 0
      · have HX : Hid (xs = []) := Lib.hid (List.length_eq_zero_iff.1 (by omega))
        have ez : ((j : Int) == 0) = true := by simp; omega
        clear hz
        go_wp2_with fail
        refine (put_at n _ hn).mono ?_; rintro e w1 ⟨rfl, hb1⟩
        have HB1 := Lib.hid (HBR.out.trans (hb1.mono HBR.out.size))
        have HB2 := Lib.hid (HB.out.below hb1)
        have hws1 := HB1.out.size
        have hvn := (vput_length n).2
        clear hb1
        go_wp2_with fail
        refine (write_any w.heap.size w.heap.size (vputs xs) ⟨(vput n).toArray⟩ _ HB2.out (by rw [ba_size]; omega) (by omega)).mono ?_; rintro e w2 ⟨rfl, hbd, hb2⟩
        have HB3 := Lib.hid (HB1.out.trans hb2)
        have HBD := Lib.hid hbd
        clear hb2 hbd
        go_wp2_with fail
        have hj := HJ.out
        go_roundg (gk - 1)
        case measure => omega
        case rel =>
          refine ⟨j + 1, ([n], n, st), by omega, by simp, rfl, rfl, Lib.hid (by rw [HE.out, HX.out]; rfl), ?_, HB3.out⟩
          have := HBD.out
          rw [HX.out] at this
          simpa [vputs] using this
      · have HX : Hid (xs ≠ []) := Lib.hid fun h => hz (by rw [← hxj, h]; rfl)
        have ez : ((j : Int) == 0) = false := by simp; omega
        obtain ⟨d1, hd1⟩ : ∃ d1, sub64 n la = d1 := ⟨_, rfl⟩
        obtain ⟨d2, hd2⟩ : ∃ d2, sub64 d1 st = d2 := ⟨_, rfl⟩
        have l1 : d1 < 18446744073709551616 := by rw [← hd1]; exact sub64_lt _ _
        have l2 : d2 < 18446744073709551616 := by rw [← hd2]; exact sub64_lt _ _
        obtain ⟨x, hx⟩ : ∃ x, zigN d2 = x := ⟨_, rfl⟩
        have lx : x < 18446744073709551616 := by rw [← hx]; exact zigN_lt l2
        have hzb := sgn_bounds d2 l2
        have e1 := wrap_sub n la hn hla
        have e2 := wrap_sub d1 st l1 hst
        have e3 := wrap_sgn d2 l2
        have hzs := zig_sgn d2 l2
        rw [hd1] at e1
        rw [hd2] at e2
        rw [hx] at hzs
        have HD := Lib.hid (show encT (xs, la, st) n = (xs ++ [x], n, d1) by unfold encT; rw [if_neg HX.out]; simp only [hd1, hd2, hx])
        generalize sgn64 d2 = z at hzb e3 hzs
        have HZ := Lib.hid hzs
        obtain ⟨hz1, hz2⟩ := hzb
        clear hz hd1 hd2 hx hzs
        go_wp2_with fail
        refine (zig_at z x _ hz1 hz2 HZ).mono ?_; rintro e w' ⟨rfl, rfl⟩
        go_wp2_with fail
        refine (put_at x _ lx).mono ?_; rintro e w1 ⟨rfl, hb1⟩
        have HB1 := Lib.hid (HBR.out.trans (hb1.mono HBR.out.size))
        have HB2 := Lib.hid (HB.out.below hb1)
        have hws1 := HB1.out.size
        have hvn := (vput_length x).2
        clear hb1
        go_wp2_with fail
        refine (write_any w.heap.size w.heap.size (vputs xs) ⟨(vput x).toArray⟩ _ HB2.out (by rw [ba_size]; omega) (by omega)).mono ?_; rintro e w2 ⟨rfl, hbd, hb2⟩
        have HB3 := Lib.hid (HB1.out.trans hb2)
        have HBD := Lib.hid hbd
        clear hb2 hbd
        go_wp2_with fail
        have hj := HJ.out
        go_roundg (gk - 1)
        case measure => omega
        case rel =>
          refine ⟨j + 1, (xs ++ [x], n, d1), by omega, by simp, rfl, rfl, Lib.hid (by rw [HE.out, HD.out]), ?_, HB3.out⟩
          show BuildIn w.heap.size w.heap.size (vputs (xs ++ [x])) w2
          rw [vputs_snoc]
          exact HBD.out
    · have HE : vputs xs = T := by
        have : l.take j = l := List.take_of_length_le (by omega)
        rw [← hT.out, ← this, HT.out]
      have HB4 : Hid (BuildIn w.heap.size w.heap.size T wr) := Lib.hid (HE ▸ HB.out)
      clear HE
      go_wp2_with fail
      refine (text_any w.heap.size w.heap.size T _ HB4.out (by omega)).mono ?_; rintro e w2 ⟨rfl, hb2⟩
      have HB3 := Lib.hid (HBR.out.trans hb2)
      clear hb2
      go_wp2_with fail
      go_ret2
      exact ⟨rfl, HB3.out⟩
/-- too many -/
theorem dput_many (ao : Option Addr) (cap : Nat) (n : Nat) (w : World) (hl : 20000 < n) (hm : n ≤ maxLen) :
    Calls Tryd.prog 9 #[.slice ao n cap] w fun e w' => (∃ x, e = .returned (.tuple #[.string ⟨#[]⟩, .iface 73 x])) ∧ Below w.heap.size w w' := by
  unfold maxLen at hm
  go_enter Tryd.func9, Tryd.ntmps9
  go_wp2_with fail
  refine (at_any _ _ _ _).mono ?_; rintro e w' ⟨rfl, rfl⟩
  go_wp2_with fail
  go_ret2
  exact ⟨⟨_, rfl⟩, below_new0 _ _⟩
end Go.Proofs.YtkpljnfakidjeaaDoor
