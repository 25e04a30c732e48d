/-
  hyglaw22: what the examples fix.
-/
import Derived.Test.YtihoemimiplhfaaDoorRunsGet
import Derived.Test.YtihoemimiplhfaaDoorNumsSame
namespace Go.Proofs.YtihoemimiplhfaaDoor
open Go.RowKit

theorem good_one {s : ByteArray} {c : Nat} {a b : List (Nat × Nat)} (ha : GoodR s c a) (hb : GoodR s c b) : a = b := by
  have hr := rdn_all (flatR a) [] ha.2.2.2
  rw [List.append_nil, ← ha.2.1, flatR_length] at hr
  obtain ⟨rest, e, _, _⟩ := good_prefix hb hr
  cases rest with
  | nil => rw [e, List.append_nil]
  | cons p r =>
    have h1 := hb.2.2.1
    have h2 := ha.2.2.1
    have h3 := @expR_pos p r
    rw [e, expR_append, List.length_append] at h1
    omega
theorem rget_ok (s : ByteArray) (c : Nat) (w : World) (hs : s.size ≤ 9223372036854775807) (hc : c ≤ 20000) {ps : List (Nat × Nat)} {ls : List Nat} (hr : Hid (GoodR s c ps)) (hl : Hid (expR ps = ls)) :
    Calls Tryd.prog 17 #[.string s, .int .i64 c] w fun e w' => Below w.heap.size w w' ∧ ∃ ao cap, e = .returned (.tuple #[.slice ao c cap, .nilIface]) ∧ Nats .u64 w' ao ls ∧ ls.length = c :=
  (rget_any s c w hs hc).mono fun e w' ⟨hb, h⟩ => by
    refine ⟨hb, ?_⟩
    rcases h with ⟨ys, hy, ao, cap, he, h3⟩ | ⟨hn, _⟩
    · have := good_one hr.out hy
      subst this
      have h4 := hy.2.2.1
      rw [hl.out] at h3 h4
      exact ⟨ao, cap, he, h3, h4⟩
    · exact absurd hr.out (hn ps)
theorem rget_no (s : ByteArray) (c : Nat) (w : World) (hs : s.size ≤ 9223372036854775807) (hc : c ≤ 20000) (hr : Hid (∀ ps, ¬ GoodR s c ps)) :
    Calls Tryd.prog 17 #[.string s, .int .i64 c] w fun e w' => Below w.heap.size w w' ∧ ∃ x, e = .returned (.tuple #[.slice none 0 0, .iface 103 x]) :=
  (rget_any s c w hs hc).mono fun e w' ⟨hb, h⟩ => by
    refine ⟨hb, ?_⟩
    rcases h with ⟨ys, hy, _⟩ | ⟨_, h2⟩
    · exact absurd hy (hr.out ys)
    · exact h2
theorem good_of (l : List Nat) (h : ∀ n ∈ l, n < 2 ^ 64) (hl : l.length ≤ 20000) : GoodR ⟨(vputs (flatR (runsOf l))).toArray⟩ l.length (runsOf l) := by
  refine ⟨adjR_runsOf l, by simp, by rw [expR_runsOf], ?_⟩
  have key : ∀ (l : List Nat), (∀ n ∈ l, n < 2 ^ 64) → ∀ p ∈ runsOf l, p.1 < 2 ^ 64 ∧ p.2 ≤ l.length := by
    intro l
    induction l with
    | nil => intro _ p hp; simp [runsOf] at hp
    | cons n t ih =>
      intro h p hp
      have iht := ih (fun m hm => h m (List.mem_cons_of_mem _ hm))
      have hn := h n (List.mem_cons_self ..)
      rw [runsOf] at hp
      split at hp
      · simp at hp; subst hp; exact ⟨hn, by simp⟩
      · rename_i m k r hr
        rw [hr] at iht
        have hmk := iht (m, k) (List.mem_cons_self ..)
        split at hp
        · rcases List.mem_cons.1 hp with e | e
          · subst e; exact ⟨hmk.1, by simp; exact hmk.2⟩
          · have := iht p (List.mem_cons_of_mem _ e); exact ⟨this.1, by simp; omega⟩
        · rcases List.mem_cons.1 hp with e | e
          · subst e; exact ⟨hn, by simp⟩
          · have := iht p e; exact ⟨this.1, by simp; omega⟩
  intro n hn
  unfold flatR at hn
  obtain ⟨p, hp, hnp⟩ := List.mem_flatMap.1 hn
  have := key l h p hp
  simp at hnp
  rcases hnp with rfl | rfl
  · exact this.1
  · omega
theorem nats_three (w : World) (a b c : Nat) : Nats .u64 (w.alloc (.cells #[.int .u64 (a : Int), .int .u64 (b : Int), .int .u64 (c : Int)] 40)) (some ⟨w.heap.size, 0, none⟩) [a, b, c] := fun _ => by
  refine ⟨w.heap.size, 0, rfl, by simp, fun j hj => ?_⟩
  rw [Nat.zero_add, World.cell?_alloc_at _ _ _ _ rfl]
  rcases (by simp at hj; omega : j = 0 ∨ j = 1 ∨ j = 2) with rfl | rfl | rfl <;> rfl
theorem dstep {a b c : World} (h1 : Below a.heap.size a b) (h2 : Below b.heap.size b c) : Below a.heap.size a c := h1.trans (h2.mono h1.size)
set_option maxRecDepth 1000000 in
set_option maxHeartbeats 4000000 in
theorem first22 (w : World) : Calls Tryd.prog 16 #[] w fun e w' => e = .returned (.bool true) ∧ Below w.heap.size w w' := by
  have HT : Hid (vputs (flatR (runsOf [7, 7, 7])) = [7, 2]) := Lib.hid (by decide)
  have HL : Hid (∀ n ∈ [7, 7, 7], n < 18446744073709551616) := Lib.hid (by decide)
  have HR : Hid (GoodR ⟨#[7, 2]⟩ 3 [(7, 2)]) := Lib.hid ⟨rfl, rfl, rfl, by decide⟩
  have HD : Hid (expR [(7, 2)] = [7, 7, 7]) := Lib.hid rfl
  go_enter Tryd.func16, Tryd.ntmps16
  go_wp2_with fail
  refine (rput_any (some ⟨w.heap.size, 0, none⟩) 3 [7, 7, 7] _ (nats_three w 7 7 7) HL (by decide) HT).mono ?_; rintro e w1 ⟨rfl, hb1⟩
  have HB1 := Lib.hid (dstep (below_new0 w _) hb1)
  clear hb1
  go_wp2_with fail
  refine (rget_ok ⟨#[7, 2]⟩ 3 _ (by decide) (by decide) HR HD).mono ?_; rintro e w2 ⟨hb2, ao, cap, rfl, h3, h4⟩
  have HB2 := Lib.hid (dstep HB1.out hb2)
  have HN := Lib.hid h3
  clear hb2 h3 h4
  go_wp2_with fail
  refine (nums_same ao (some ⟨w2.heap.size, 0, none⟩) cap 3 [7, 7, 7] _ (HN.out.below (below_new0 w2 _)) (nats_three w2 7 7 7) (by decide)).mono ?_; rintro e w3 ⟨rfl, hb3⟩
  have HB3 := Lib.hid (dstep (dstep HB2.out (below_new0 w2 _)) hb3)
  clear hb3
  go_wp2_with fail
  go_ret
  exact ⟨rfl, HB3.out⟩
end Go.Proofs.YtihoemimiplhfaaDoor
