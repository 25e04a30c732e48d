/-
  hyglaw7.FaddCuts: for any doubles and any cut the law returns true.
-/
import Derived.Test.YtkpljnfakidjeaaFaddSum
import Derived.Test.YtkpljnfakidjeaaNatsApp
namespace Go.Proofs.Ytkpljnfakidjeaa
open Go.RowKit

theorem Try.elU64c : Elem Try.prog 27 22 (.int .u64 0) 1 8 := ⟨Try.underlying27, by kernel_rfl, by decide⟩
theorem bstepc {a b c : World} (h1 : Below a.heap.size a b) (h2 : Below b.heap.size b c) : Below a.heap.size a c := h1.trans (h2.mono h1.size)
theorem own_nats_c {w : World} {base : Nat} {e : TypeId} {v : Value} {l : List Nat} (h : w.ownsRow base e 1 v l.length (nvals l)) : ∃ bo bcap, v = .slice bo l.length bcap ∧ Nats .u64 w bo l := by
  rcases h.2 with ⟨rfl, h0⟩ | ⟨g, cap, cur, rfl, hb, hgg, _⟩
  · refine ⟨none, 0, by rw [h0], fun hn => absurd (List.length_eq_zero_iff.1 h0) hn⟩
  · exact ⟨_, cap, rfl, nats_of_own h⟩
theorem nats_take {w : World} {ao : Option Addr} {l : List Nat} (h : Nats .u64 w ao l) (c : Nat) : Nats .u64 w ao (l.take c) := fun hn => by
  obtain ⟨b, off, e, hb, hc⟩ := h (by intro e; subst e; simp at hn)
  refine ⟨b, off, e, hb, fun j hj => ?_⟩
  have hj' : j < l.length := by simp at hj; omega
  rw [hc j hj', List.getElem_take]
theorem owns_onec (w : World) (u : Value) (e : TypeId) (base : Nat) (hb : base ≤ w.heap.size) : (w.alloc (.cells #[u] e)).ownsRow base e 1 (.slice (some ⟨w.heap.size, 0, none⟩) 1 1) 1 [u] :=
  ⟨rfl, .inr ⟨w.heap.size, 1, #[u], rfl, hb, heap_alloc_new w _, Nat.le_refl _, by simp [maxLen], rfl, rfl⟩⟩
theorem sums_cons_zero (l : List Nat) : sums (0 :: l) = sums l := by
  have e : Fm.add 0 0 = 0 := by decide +kernel
  unfold sums
  rw [List.foldl_cons, e]
theorem sum_to (ao : Option Addr) (cap : Nat) (l : List Nat) (n : Nat) (R : Nat) (w : World) (hn : n = l.length) (hN : Nats .u64 w ao l) (hlt : Hid (∀ n ∈ l, n < 2^64)) (hl : l.length ≤ 1000000000) (hR : Hid (sums l = R)) :
    Calls Try.prog 18 #[.slice ao n cap] w fun e w' => e = .returned (.int .u64 (R : Nat)) ∧ w = w' := by
  rw [hn]; exact sum_at ao cap l R w hN hlt hl hR
def CutBad (n : Nat) (c : Int) : Prop := 1000 < n ∨ c < 0 ∨ (n : Int) < c
set_option maxRecDepth 1000000 in
set_option maxHeartbeats 1000000 in
theorem cuts_bad (ao : Option Addr) (cap : Nat) (l : List Nat) (c : Int) (w : World) (h : CutBad l.length c) (hl : l.length ≤ maxLen) :
    Calls Try.prog 8 #[.slice ao l.length cap, .int .i64 c] w fun e w' => e = .returned (.bool true) ∧ Below w.heap.size w w' := by
  unfold maxLen at hl
  rcases (by unfold CutBad at h; omega : 1000 < l.length ∨ (l.length ≤ 1000 ∧ c < 0) ∨ (l.length ≤ 1000 ∧ 0 ≤ c ∧ (l.length : Int) < c)) with h1 | ⟨h1, h2⟩ | ⟨h1, h2, h3⟩
  · have d1 : decide ((l.length : Int) > 1000) = true := by simp; omega
    clear h
    go_enter Try.func8, Try.ntmps8
    go_wp2_with fail
    refine (first7 _).mono ?_; rintro e w' ⟨rfl, rfl⟩
    go_wp2_with fail
    refine (first7 _).mono ?_; rintro e w' ⟨rfl, rfl⟩
    go_wp2_with fail
    go_ret
    exact ⟨rfl, Below.refl _ _⟩
  · have d1 : decide ((l.length : Int) > 1000) = false := by simp; omega
    have d2 : decide (c < 0) = true := decide_eq_true h2
    clear h
    go_enter Try.func8, Try.ntmps8
    go_wp2_with fail
    refine (first7 _).mono ?_; rintro e w' ⟨rfl, rfl⟩
    go_wp2_with fail
    refine (first7 _).mono ?_; rintro e w' ⟨rfl, rfl⟩
    go_wp2_with fail
    go_ret
    exact ⟨rfl, Below.refl _ _⟩
  · have d1 : decide ((l.length : Int) > 1000) = false := by simp; omega
    have d2 : decide (c < 0) = false := decide_eq_false (by omega)
    have d3 : decide (c > (l.length : Int)) = true := decide_eq_true h3
    clear h
    go_enter Try.func8, Try.ntmps8
    go_wp2_with fail
    refine (first7 _).mono ?_; rintro e w' ⟨rfl, rfl⟩
    go_wp2_with fail
    refine (first7 _).mono ?_; rintro e w' ⟨rfl, rfl⟩
    go_wp2_with fail
    go_ret
    exact ⟨rfl, Below.refl _ _⟩
set_option maxRecDepth 1000000 in
set_option maxHeartbeats 4000000 in
theorem cuts_walk (ao : Option Addr) (cap : Nat) (l : List Nat) (c : Nat) (R S : Nat) (w : World) (hN : Nats .u64 w ao l) (hnil : ao = none → cap = 0) (hlt : Hid (∀ n ∈ l, n < 2^64)) (hl : l.length ≤ 1000) (hcap : l.length ≤ cap) (hc : c ≤ l.length) (hR : Hid (sums l = R)) (hS : Hid (sums (l.take c) = S)) :
    Calls Try.prog 8 #[.slice ao l.length cap, .int .i64 c] w fun e w' => e = .returned (.bool true) ∧ Below w.heap.size w w' := by
  have HN := Lib.hid hN
  have HNil := Lib.hid hnil
  clear hN hnil
  go_enter Try.func8, Try.ntmps8
  go_wp2_with fail
  refine (first7 _).mono ?_; rintro e w' ⟨rfl, rfl⟩
  go_wp2_with fail
  refine (sum_to ao cap (l.take c) c S _ (by simp; omega) (nats_take HN.out c) (Lib.hid fun n hn => hlt.out n (List.mem_of_mem_take hn)) (by simp; omega) hS).mono ?_; rintro e w' ⟨rfl, rfl⟩
  go_wp2_with fail
  go_loopg [5, 6] l.length (fun k s i wr => ∃ j t : Nat, j + k = l.length + c ∧ j ≤ l.length ∧ i = .int .i64 j ∧ s = .int .u64 t ∧ Hid (sums (l.take j) = t) ∧ wr = w)
  case atStart => exact ⟨c, S, by omega, hc, rfl, rfl, hS, rfl⟩
  case round =>
    obtain ⟨j, t, hj, hj2, rfl, rfl, HT, rfl⟩ := hrel
    have ht : t < 2^64 := by rw [← HT.out]; exact sums_take hlt.out j
    by_cases hlt' : j < l.length
    · obtain ⟨b, off, n, H1, rfl, hbl, hcl⟩ := HN.out.at hlt'
      have hn : n < 2^64 := by rw [H1.out]; exact hlt.out _ (List.getElem_mem _)
      obtain ⟨q, HQ⟩ : ∃ q, Hid (Fm.add t n = q) := ⟨_, Lib.hid rfl⟩
      have hi1 : (j : Int) < (l.length : Int) := by omega
      have hi0 : (0 : Int) ≤ (j : Int) := by omega
      have HJ := Lib.hid hj
      clear hj
      go_wp2_with fail
      refine (add_at t n q _ ht hn HQ).mono ?_; rintro e w' ⟨rfl, rfl⟩
      go_wp2_with fail
      have hj := HJ.out
      go_roundg (gk - 1)
      case measure => omega
      case rel => exact ⟨j + 1, q, by omega, by omega, by simp, rfl, Lib.hid (by rw [take_step hlt', sums_snoc, HT.out, ← H1.out, HQ.out]), rfl⟩
    · have hT : t = R := by rw [← HT.out, ← hR.out, List.take_of_length_le (by omega)]
      subst hT
      have HZ : Hid (sums (0 :: l) = t) := Lib.hid (by rw [sums_cons_zero, hR.out])
      have HL0 : Hid (∀ n ∈ (0 :: l), n < 2^64) := Lib.hid fun n hn => by
        rcases List.mem_cons.1 hn with h | h
        · omega
        · exact hlt.out n h
      go_wp2_with fail
      refine (first7 _).mono ?_; rintro e w' ⟨rfl, rfl⟩
      go_wp2_with fail
      refine (sum_at ao cap l t _ HN.out hlt (by omega) hR).mono ?_; rintro e w' ⟨rfl, rfl⟩
      go_wp2_with (at_builtin; refine wpList_unguard rfl ?_; refine wpList_app_nats _ _ 27 rfl rfl Try.elU64c (owns_onec wr (.int .u64 0) 22 wr.heap.size (Nat.le_refl _)) rfl (HN.out.below ((Below.refl _ _).alloc (Nat.le_refl _) _)) HNil.out rfl (by unfold maxLen; omega) (by omega) (by simp) ?_; intro v' w1 hown hgrow)
      have HB1 : Hid (Below wr.heap.size wr w1) := Lib.hid (((Below.refl _ _).alloc (Nat.le_refl _) _).grown hgrow (by simp) (fun k hk => by simp [Value.ownBlock] at hk; omega))
      have hown2 : w1.ownsRow wr.heap.size 22 1 v' (0 :: l).length (nvals (0 :: l)) := by
        rw [Nat.add_comm] at hown
        exact hown
      obtain ⟨bo, bcap, rfl, hM⟩ := own_nats_c hown2
      clear hown hown2 hgrow
      refine (sum_at bo bcap (0 :: l) t _ hM HL0 (by simp; omega) HZ).mono ?_; rintro e w' ⟨rfl, rfl⟩
      go_wp2_with fail
      go_ret
      exact ⟨rfl, HB1.out⟩
end Go.Proofs.Ytkpljnfakidjeaa
