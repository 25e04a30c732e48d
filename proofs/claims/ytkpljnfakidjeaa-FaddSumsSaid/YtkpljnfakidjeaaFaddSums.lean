/-
  hyglaw7.FaddSums: for any doubles the law returns true.
-/
import Derived.Test.YtkpljnfakidjeaaFaddRAdd
import Derived.Test.YtkpljnfakidjeaaNatsApp
namespace Go.Proofs.Ytkpljnfakidjeaa
open Go.RowKit

theorem Try.elU64 : Elem Try.prog 27 22 (.int .u64 0) 1 8 := ⟨Try.underlying27, by kernel_rfl, by decide⟩
theorem bstep {a b c : World} (h1 : Below a.heap.size a b) (h2 : Below b.heap.size b c) : Below a.heap.size a c := h1.trans (h2.mono h1.size)
theorem own_nats {w : World} {base : Nat} {e : TypeId} {v : Value} {l : List Nat} (h : w.ownsRow base e 1 v l.length (nvals l)) : ∃ bo bcap, v = .slice bo l.length bcap ∧ Nats .u64 w bo l := by
  rcases h.2 with ⟨rfl, h0⟩ | ⟨g, cap, cur, rfl, hb, hgg, _⟩
  · refine ⟨none, 0, by rw [h0], fun hn => absurd (List.length_eq_zero_iff.1 h0) hn⟩
  · exact ⟨_, cap, rfl, nats_of_own h⟩
set_option maxRecDepth 1000000 in
set_option maxHeartbeats 1000000 in
theorem sums_long (ao : Option Addr) (cap : Nat) (l : List Nat) (w : World) (hl : 1000 < l.length) :
    Calls Try.prog 4 #[.slice ao l.length cap] w fun e w' => e = .returned (.bool true) ∧ Below w.heap.size w w' := by
  go_enter Try.func4, Try.ntmps4
  go_wp2_with fail
  refine (first7 _).mono ?_; rintro e w' ⟨rfl, rfl⟩
  go_wp2_with fail
  refine (first7 _).mono ?_; rintro e w' ⟨rfl, rfl⟩
  go_wp2_with fail
  go_ret
  exact ⟨rfl, Below.refl _ _⟩
set_option maxRecDepth 1000000 in
set_option maxHeartbeats 4000000 in
theorem sums_walk (ao : Option Addr) (cap : Nat) (l : List Nat) (R : Nat) (w : World) (hN : Nats .u64 w ao l) (hnil : ao = none → cap = 0) (hlt : Hid (∀ n ∈ l, n < 2^64)) (hl : l.length ≤ 1000) (hR : Hid (sums l = R)) :
    Calls Try.prog 4 #[.slice ao l.length cap] w fun e w' => e = .returned (.bool true) ∧ Below w.heap.size w w' := by
  have HN := Lib.hid hN
  have HNil := Lib.hid hnil
  clear hN hnil
  go_enter Try.func4, Try.ntmps4
  go_wp2_with fail
  refine (first7 _).mono ?_; rintro e w' ⟨rfl, rfl⟩
  go_wp2_with (at_builtin; refine wpList_app_nats _ _ 27 rfl rfl Try.elU64 (owns_zero w 22 w.heap.size (Nat.le_refl _)) rfl (HN.out.below ((Below.refl _ _).alloc (Nat.le_refl _) _)) HNil.out rfl (by unfold maxLen; omega) (by omega) (by simp) ?_; intro v' w1 hown hgrow)
  have HB1 : Hid (Below w.heap.size w w1) := Lib.hid (((Below.refl _ _).alloc (Nat.le_refl _) _).grown hgrow (by simp) (fun k hk => by simp [Value.ownBlock] at hk; omega))
  rw [Nat.zero_add, List.nil_append] at hown
  obtain ⟨bo, bcap, rfl, hM⟩ := own_nats hown
  have HM := Lib.hid hM
  have HN1 := Lib.hid (HN.out.below HB1.out)
  clear hown hgrow hM
  go_wp2_with fail
  refine (sum_at bo bcap l R _ HM.out hlt (by omega) hR).mono ?_; rintro e w' ⟨rfl, rfl⟩
  go_wp2_with fail
  go_loopg [5] l.length (fun k i wr => ∃ j : Nat, j + k = l.length ∧ i = .int .i64 j ∧ Below w1.heap.size w1 wr)
  case atStart => exact ⟨0, by omega, rfl, Below.refl _ _⟩
  case round =>
    obtain ⟨j, hj, rfl, hbr⟩ := hrel
    by_cases hlt' : j < l.length
    · obtain ⟨b, off, n, H1, rfl, hbl, hc⟩ := (HN1.out.below hbr).at hlt'
      obtain ⟨b2, off2, n2, H2, rfl, hbl2, hc2⟩ := (HM.out.below hbr).at hlt'
      obtain rfl : n2 = n := by rw [H1.out, H2.out]
      have hi1 : (j : Int) < (l.length : Int) := by omega
      have hi0 : (0 : Int) ≤ (j : Int) := by omega
      have HJ := Lib.hid hj
      clear hj
      go_wp2_with fail
      go_quiet (fail)
      go_wp2
      have hj := HJ.out
      go_roundg (gk - 1)
      case measure => omega
      case rel => exact ⟨j + 1, by omega, by simp, hbr.trans ⟨rfl, rfl, rfl, Nat.le_refl _, fun _ _ => rfl⟩⟩
    · have HB2 := Lib.hid (bstep HB1.out hbr)
      have HN2 := Lib.hid (HN1.out.below hbr)
      go_wp2_with fail
      refine (first7 _).mono ?_; rintro e w' ⟨rfl, rfl⟩
      go_wp2_with fail
      refine (rsum_at ao cap l R _ HN2.out hlt (by omega) hR).mono ?_; rintro e w' ⟨rfl, rfl⟩
      go_wp2_with fail
      go_ret
      exact ⟨rfl, HB2.out⟩
end Go.Proofs.Ytkpljnfakidjeaa
