/-
  hyglaw20: what the examples fix; DodOne.
-/
import Derived.Test.YtkpljnfakidjeaaDoorDodGet
import Derived.Test.YtkpljnfakidjeaaDoorNumsSame
namespace Go.Proofs.YtkpljnfakidjeaaDoor
open Go.RowKit

theorem dget_ok (s : ByteArray) (c : Nat) (w : World) (hs : s.size ≤ 9223372036854775807) (hc : c ≤ 20000) {xs ls : List Nat} (hr : Hid (rdn s.data.toList c = .ok (xs, s.size, false))) (hl : Hid ((dec xs).1 = ls)) :
    Calls Tryd.prog 13 #[.string s, .int .i64 c] w fun e w' => Below w.heap.size w w' ∧ ∃ ao cap, e = .returned (.tuple #[.slice ao c cap, .nilIface]) ∧ c ≤ cap ∧ (ao = none → cap = 0) ∧ Nats .u64 w' ao ls ∧ ls.length = c :=
  (dget_any s c w hs hc).mono fun e w' ⟨hb, h⟩ => by
    refine ⟨hb, ?_⟩
    rcases h with ⟨ys, hy, ao, cap, he, h1, h2, h3, h4⟩ | ⟨hn, _⟩
    · rw [hr.out] at hy
      simp at hy
      subst hy
      rw [hl.out] at h3 h4
      exact ⟨ao, cap, he, h1, h2, h3, h4⟩
    · exact absurd hr.out (hn xs)
theorem dget_no (s : ByteArray) (c : Nat) (w : World) (hs : s.size ≤ 9223372036854775807) (hc : c ≤ 20000) (hr : Hid (∀ xs, rdn s.data.toList c ≠ .ok (xs, s.size, false))) :
    Calls Tryd.prog 13 #[.string s, .int .i64 c] w fun e w' => Below w.heap.size w w' ∧ ∃ x, e = .returned (.tuple #[.slice none 0 0, .iface 73 x]) :=
  (dget_any s c w hs hc).mono fun e w' ⟨hb, h⟩ => by
    refine ⟨hb, ?_⟩
    rcases h with ⟨ys, hy, _⟩ | ⟨_, h2⟩
    · exact absurd hy (hr.out ys)
    · exact h2
theorem nats_three (w : World) (a b c : Nat) : Nats .u64 (w.alloc (.cells #[.int .u64 (a : Int), .int .u64 (b : Int), .int .u64 (c : Int)] 40)) (some ⟨w.heap.size, 0, none⟩) [a, b, c] := fun _ => by
  refine ⟨w.heap.size, 0, rfl, by simp, fun j hj => ?_⟩
  rw [Nat.zero_add, World.cell?_alloc_at _ _ _ _ rfl]
  rcases (by simp at hj; omega : j = 0 ∨ j = 1 ∨ j = 2) with rfl | rfl | rfl <;> rfl
theorem dstep {a b c : World} (h1 : Below a.heap.size a b) (h2 : Below b.heap.size b c) : Below a.heap.size a c := h1.trans (h2.mono h1.size)
set_option maxRecDepth 1000000 in
set_option maxHeartbeats 4000000 in
theorem first20 (w : World) : Calls Tryd.prog 7 #[] w fun e w' => e = .returned (.bool true) ∧ Below w.heap.size w w' := by
  have HT : Hid (vputs (enc [10, 20, 30]).1 = [10, 20, 0]) := Lib.hid (by decide)
  have HL : Hid (∀ n ∈ [10, 20, 30], n < 18446744073709551616) := Lib.hid (by decide)
  have HR : Hid (rdn (⟨#[10, 20, 0]⟩ : ByteArray).data.toList 3 = .ok ([10, 20, 0], (⟨#[10, 20, 0]⟩ : ByteArray).size, false)) := Lib.hid (rdn_all [10, 20, 0] [] (by decide))
  have HD : Hid ((dec [10, 20, 0]).1 = [10, 20, 30]) := Lib.hid (by decide)
  go_enter Tryd.func7, Tryd.ntmps7
  go_wp2_with fail
  refine (dput_any (some ⟨w.heap.size, 0, none⟩) 3 [10, 20, 30] _ (nats_three w 10 20 30) HL (by decide) HT).mono ?_; rintro e w1 ⟨rfl, hb1⟩
  have HB1 := Lib.hid (dstep (below_new0 w _) hb1)
  clear hb1
  go_wp2_with fail
  refine (dget_ok ⟨#[10, 20, 0]⟩ 3 _ (by decide) (by decide) HR HD).mono ?_; rintro e w2 ⟨hb2, ao, cap, rfl, h1, h2, h3, h4⟩
  have HB2 := Lib.hid (dstep HB1.out hb2)
  have HN := Lib.hid h3
  clear hb2 h1 h2 h3 h4
  go_wp2_with fail
  refine (nums_same ao (some ⟨w2.heap.size, 0, none⟩) cap 3 [10, 20, 30] _ (HN.out.below (below_new0 w2 _)) (nats_three w2 10 20 30) (by decide)).mono ?_; rintro e w3 ⟨rfl, hb3⟩
  have HB3 := Lib.hid (dstep (dstep HB2.out (below_new0 w2 _)) hb3)
  clear hb3
  go_wp2_with fail
  go_ret
  exact ⟨rfl, HB3.out⟩
end Go.Proofs.YtkpljnfakidjeaaDoor
