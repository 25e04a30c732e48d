/-
  hyglaw22.RunsDeltas: for any numbers the law returns true.
-/
import Derived.Test.YtkpljnfakidjeabRunsLaw
import Derived.Test.YtkpljnfakidjeabDelta
import Derived.Test.YtkpljnfakidjeabCopyNums
namespace Go.Proofs.Ytkpljnfakidjeab
open Go.RowKit

theorem delta_to (ao : Option Addr) (cap : Nat) (l m : List Nat) (N : Nat) (w : World) (hN : Hid (Nats .u64 w ao l)) (hlt : Hid (∀ n ∈ l, n < 18446744073709551616)) (hl : N ≤ 1000000) (hNl : Hid (l.length = N)) (hm : Hid ((dl l).1 = m)) :
    Calls Try.prog 17 #[.slice ao N cap] w fun e w' => (∃ bo bcap, e = .returned (.slice bo N bcap) ∧ Nats .u64 w' bo m) ∧ Below w.heap.size w w' := by
  have h := delta_any ao cap l w hN hlt (by rw [hNl.out]; exact hl)
  rw [hNl.out, hm.out] at h
  exact h
theorem undelta_to (ao : Option Addr) (cap : Nat) (l m : List Nat) (N : Nat) (w : World) (hN : Hid (Nats .u64 w ao l)) (hlt : Hid (∀ n ∈ l, n < 18446744073709551616)) (hl : N ≤ 1000000) (hNl : Hid (l.length = N)) (hm : Hid ((ul l).1 = m)) :
    Calls Try.prog 18 #[.slice ao N cap] w fun e w' => (∃ bo bcap, e = .returned (.slice bo N bcap) ∧ Nats .u64 w' bo m) ∧ Below w.heap.size w w' := by
  have h := undelta_any ao cap l w hN hlt (by rw [hNl.out]; exact hl)
  rw [hNl.out, hm.out] at h
  exact h
theorem rdelta_to (ao : Option Addr) (cap : Nat) (l m : List Nat) (N : Nat) (w : World) (hN : Hid (Nats .u64 w ao l)) (hlt : Hid (∀ n ∈ l, n < 18446744073709551616)) (hl : N ≤ 1000000) (hNl : Hid (l.length = N)) (hm : Hid ((dl l).1 = m)) :
    Calls Try.prog 19 #[.slice ao N cap] w fun e w' => (∃ bo bcap, e = .returned (.slice bo N bcap) ∧ Nats .u64 w' bo m) ∧ Below w.heap.size w w' := by
  have h := rdelta_any ao cap l w hN hlt (by rw [hNl.out]; exact hl)
  rw [hNl.out, hm.out] at h
  exact h
theorem rundelta_to (ao : Option Addr) (cap : Nat) (l m : List Nat) (N : Nat) (w : World) (hN : Hid (Nats .u64 w ao l)) (hlt : Hid (∀ n ∈ l, n < 18446744073709551616)) (hl : N ≤ 1000000) (hNl : Hid (l.length = N)) (hm : Hid ((ul l).1 = m)) :
    Calls Try.prog 20 #[.slice ao N cap] w fun e w' => (∃ bo bcap, e = .returned (.slice bo N bcap) ∧ Nats .u64 w' bo m) ∧ Below w.heap.size w w' := by
  have h := rundelta_any ao cap l w hN hlt (by rw [hNl.out]; exact hl)
  rw [hNl.out, hm.out] at h
  exact h
theorem copy_to (ao : Option Addr) (cap : Nat) (l : List Nat) (N : Nat) (w : World) (hN : Hid (Nats .u64 w ao l)) (hnil : Hid (ao = none → cap = 0)) (hl : N ≤ 1000000) (hNl : Hid (l.length = N)) :
    Calls Try.prog 16 #[.slice ao N cap] w fun e w' => (∃ bo bcap, e = .returned (.slice bo N bcap) ∧ Nats .u64 w' bo l) ∧ Below w.heap.size w w' := by
  have h := copy_nums ao cap l w hN.out hnil.out (by rw [hNl.out]; exact hl)
  rw [hNl.out] at h
  exact h.mono fun e w' ⟨⟨bo, bcap, he, _, _, h3⟩, hb⟩ => ⟨⟨bo, bcap, he, h3⟩, hb⟩
theorem same_to (ao bo : Option Addr) (cap bcap : Nat) (l : List Nat) (N : Nat) (w : World) (ha : Hid (Nats .u64 w ao l)) (hb : Hid (Nats .u64 w bo l)) (hl : N ≤ 1000000) (hNl : Hid (l.length = N)) :
    Calls Try.prog 12 #[.slice ao N cap, .slice bo N bcap] w fun e w' => e = .returned (.bool true) ∧ Below w.heap.size w w' := by
  have h := nums_same ao bo cap bcap l w ha.out hb.out (by rw [hNl.out]; omega)
  rw [hNl.out] at h
  exact h
theorem Below.nats {k : IntKind} {w w' : World} {ao : Option Addr} {l : List Nat} (hb : Below w.heap.size w w') (h : Hid (Nats k w ao l)) : Hid (Nats k w' ao l) := Lib.hid (h.out.below hb)
set_option maxRecDepth 1000000 in
set_option maxHeartbeats 1000000 in
theorem deltas_long (ao : Option Addr) (cap n : Nat) (w : World) (hl : 2000 < n) (hm : n ≤ 9223372036854775807) :
    Calls Try.prog 7 #[.slice ao n cap] w fun e w' => e = .returned (.bool true) ∧ Below w.heap.size w w' := by
  go_enter Try.func7, Try.ntmps7
  go_wp2_with fail
  refine (first22 w).mono ?_; rintro e w1 ⟨rfl, hb1⟩
  have HB1 := Lib.hid hb1
  clear hb1
  go_wp2_with fail
  refine (first22 w1).mono ?_; rintro e w2 ⟨rfl, hb2⟩
  have HB2 := Lib.hid (dstep HB1.out hb2)
  clear hb2
  go_wp2_with fail
  go_ret
  exact ⟨rfl, HB2.out⟩
set_option maxRecDepth 1000000 in
set_option maxHeartbeats 4000000 in
theorem deltas_walk (ao : Option Addr) (cap N : Nat) (l D U : List Nat) (w : World) (hN : Hid (Nats .u64 w ao l)) (hnil : Hid (ao = none → cap = 0)) (hlt : Hid (∀ n ∈ l, n < 18446744073709551616)) (hl : N ≤ 2000)
    (hNl : Hid (l.length = N)) (hDl : Hid (D.length = N)) (hUl : Hid (U.length = N)) (hD : Hid ((dl l).1 = D)) (hU : Hid ((ul l).1 = U)) (hD2 : Hid ((ul D).1 = l)) (hU2 : Hid ((dl U).1 = l)) (hDlt : Hid (∀ n ∈ D, n < 18446744073709551616)) (hUlt : Hid (∀ n ∈ U, n < 18446744073709551616)) :
    Calls Try.prog 7 #[.slice ao N cap] w fun e w' => e = .returned (.bool true) ∧ Below w.heap.size w w' := by
  have hl' : N ≤ 1000000 := by omega
  go_enter Try.func7, Try.ntmps7
  go_wp2_with fail
  refine (first22 w).mono ?_; rintro e w1 ⟨rfl, hb1⟩
  have HB1 := Lib.hid hb1
  clear hb1
  go_wp2_with fail
  refine (copy_to ao cap l N _ (Below.nats HB1.out hN) hnil hl' hNl).mono ?_; rintro e w2 ⟨⟨bo, bcap, rfl, h3⟩, hb2⟩
  have HB2 := Lib.hid (dstep HB1.out hb2)
  have HI2 := Lib.hid h3
  clear hb2 h3
  go_wp2_with fail
  refine (delta_to bo bcap l D N _ HI2 hlt hl' hNl hD).mono ?_; rintro e w3 ⟨⟨co, ccap, rfl, h3⟩, hb3⟩
  have HB3 := Lib.hid (dstep HB2.out hb3)
  have HI3 := Below.nats hb3 HI2
  have HA3 := Lib.hid h3
  clear hb3 h3
  go_wp2_with fail
  refine (undelta_to bo bcap l U N _ HI3 hlt hl' hNl hU).mono ?_; rintro e w4 ⟨⟨eo, ecap, rfl, h3⟩, hb4⟩
  have HB4 := Lib.hid (dstep HB3.out hb4)
  have HI4 := Below.nats hb4 HI3
  have HA4 := Below.nats hb4 HA3
  have HE4 := Lib.hid h3
  clear hb4 h3
  go_wp2_with fail
  refine (first22 _).mono ?_; rintro e w5 ⟨rfl, hb5⟩
  have HB5 := Lib.hid (dstep HB4.out hb5)
  have HI5 := Below.nats hb5 HI4
  have HA5 := Below.nats hb5 HA4
  have HE5 := Below.nats hb5 HE4
  clear hb5
  go_wp2_with fail
  refine (rdelta_to ao cap l D N _ (Below.nats HB5.out hN) hlt hl' hNl hD).mono ?_; rintro e w6 ⟨⟨fo, fcap, rfl, h3⟩, hb6⟩
  have HB6 := Lib.hid (dstep HB5.out hb6)
  have HI6 := Below.nats hb6 HI5
  have HA6 := Below.nats hb6 HA5
  have HE6 := Below.nats hb6 HE5
  have HF6 := Lib.hid h3
  clear hb6 h3
  go_wp2_with fail
  refine (same_to co fo ccap fcap D N _ HA6 HF6 hl' hDl).mono ?_; rintro e w7 ⟨rfl, hb7⟩
  have HB7 := Lib.hid (dstep HB6.out hb7)
  have HI7 := Below.nats hb7 HI6
  have HA7 := Below.nats hb7 HA6
  have HE7 := Below.nats hb7 HE6
  clear hb7
  go_wp2_with fail
  refine (rundelta_to ao cap l U N _ (Below.nats HB7.out hN) hlt hl' hNl hU).mono ?_; rintro e w8 ⟨⟨go, gcap, rfl, h3⟩, hb8⟩
  have HB8 := Lib.hid (dstep HB7.out hb8)
  have HI8 := Below.nats hb8 HI7
  have HA8 := Below.nats hb8 HA7
  have HE8 := Below.nats hb8 HE7
  have HG8 := Lib.hid h3
  clear hb8 h3
  go_wp2_with fail
  refine (same_to eo go ecap gcap U N _ HE8 HG8 hl' hUl).mono ?_; rintro e w9 ⟨rfl, hb9⟩
  have HB9 := Lib.hid (dstep HB8.out hb9)
  have HI9 := Below.nats hb9 HI8
  have HA9 := Below.nats hb9 HA8
  have HE9 := Below.nats hb9 HE8
  clear hb9
  go_wp2_with fail
  refine (undelta_to co ccap D l N _ HA9 hDlt hl' hDl hD2).mono ?_; rintro e w10 ⟨⟨ho, hcap, rfl, h3⟩, hb10⟩
  have HB10 := Lib.hid (dstep HB9.out hb10)
  have HI10 := Below.nats hb10 HI9
  have HE10 := Below.nats hb10 HE9
  have HH10 := Lib.hid h3
  clear hb10 h3
  go_wp2_with fail
  refine (same_to ho ao hcap cap l N _ HH10 (Below.nats HB10.out hN) hl' hNl).mono ?_; rintro e w11 ⟨rfl, hb11⟩
  have HB11 := Lib.hid (dstep HB10.out hb11)
  have HI11 := Below.nats hb11 HI10
  have HE11 := Below.nats hb11 HE10
  clear hb11
  go_wp2_with fail
  refine (delta_to eo ecap U l N _ HE11 hUlt hl' hUl hU2).mono ?_; rintro e w12 ⟨⟨ko, kcap, rfl, h3⟩, hb12⟩
  have HB12 := Lib.hid (dstep HB11.out hb12)
  have HI12 := Below.nats hb12 HI11
  have HK12 := Lib.hid h3
  clear hb12 h3
  go_wp2_with fail
  refine (same_to ko ao kcap cap l N _ HK12 (Below.nats HB12.out hN) hl' hNl).mono ?_; rintro e w13 ⟨rfl, hb13⟩
  have HB13 := Lib.hid (dstep HB12.out hb13)
  have HI13 := Below.nats hb13 HI12
  clear hb13
  go_wp2_with fail
  refine (same_to bo ao bcap cap l N _ HI13 (Below.nats HB13.out hN) hl' hNl).mono ?_; rintro e w14 ⟨rfl, hb14⟩
  have HB14 := Lib.hid (dstep HB13.out hb14)
  clear hb14
  go_wp2_with fail
  go_ret
  exact ⟨rfl, HB14.out⟩
theorem deltas_any (ao : Option Addr) (cap : Nat) (l : List Nat) (w : World) (hN : Nats .u64 w ao l) (hnil : ao = none → cap = 0) (hlt : ∀ n ∈ l, n < 18446744073709551616) (hl : l.length ≤ 2000) :
    Calls Try.prog 7 #[.slice ao l.length cap] w fun e w' => e = .returned (.bool true) ∧ Below w.heap.size w w' :=
  deltas_walk ao cap l.length l (dl l).1 (ul l).1 w (Lib.hid hN) (Lib.hid hnil) (Lib.hid hlt) hl (Lib.hid rfl) (Lib.hid (dl_ok l hlt).len) (Lib.hid (ul_ok l).len) (Lib.hid rfl) (Lib.hid rfl) (Lib.hid (by rw [ul_dl l hlt])) (Lib.hid (by rw [dl_ul l hlt])) (Lib.hid (dl_ok l hlt).all) (Lib.hid (ul_ok l).all)
end Go.Proofs.Ytkpljnfakidjeab
