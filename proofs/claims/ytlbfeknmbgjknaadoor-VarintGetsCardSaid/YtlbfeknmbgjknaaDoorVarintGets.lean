/-
  hyglaw2.VarintGets: for every text and every place the law returns true.
-/
import Derived.Test.YtlbfeknmbgjknaaDoorFirst2
import Derived.Test.YtlbfeknmbgjknaaDoorRefGet
import Derived.Test.YtlbfeknmbgjknaaDoorBlame
namespace Go.Proofs.YtlbfeknmbgjknaaDoor
open Go.RowKit

theorem vget_code {l : List UInt8} {p : Int} {c : Nat} (h : vget l p = .error c) : c = 9 ∨ c = 1 ∨ c = 4 := by
  have aux : ∀ f k m (l : List UInt8), vgetGo f k m l = .error c → c = 1 ∨ c = 4 := by
    intro f
    induction f with
    | zero => intro k m l h; simp [vgetGo] at h; omega
    | succ f ih =>
      intro k m l h
      cases l with
      | nil => simp [vgetGo] at h; omega
      | cons b r =>
        simp only [vgetGo] at h
        split at h
        · simp at h; omega
        · split at h
          · simp at h
          · exact ih _ _ _ h
  unfold vget at h
  split at h
  · simp at h; omega
  · split at h
    · simp at h
    · rename_i he
      simp at h; subst h
      have := aux _ _ _ _ he
      omega
/-- the error that Get makes -/
theorem at_isErr (w : World) (p : Int) (c : Int) : isErr (w.alloc (.cells #[.int .i64 p, .iface 22 (.int .i64 c)] 42)) [(true, p)] (.iface 36 (.pointer (some ⟨w.heap.size, 0, none⟩))) (codeV c) :=
  ⟨w.heap.size, codeV c, rfl, by simp, heap_alloc_new w _, rfl⟩
theorem root_code (c : Int) : isRoot (codeV c) := 
  .inl ⟨c, rfl⟩
theorem below_alloc (w : World) (o : Obj) : Below w.heap.size w (w.alloc o) := (Below.refl _ _).alloc (Nat.le_refl _) o
theorem below_trans {a b c : World} (h1 : Below a.heap.size a b) (h2 : Below b.heap.size b c) : Below a.heap.size a c := h1.trans (h2.mono h1.size)

set_option maxRecDepth 1000000 in
set_option maxHeartbeats 1000000 in
theorem gets_ok (s : ByteArray) (p : Int) (w : World) (hs : s.size ≤ 2000) {n q : Nat} (hv : Hid (vget s.data.toList p = .ok (n, q))) :
    Calls Tryd.prog 6 #[.string s, .int .i64 p] w fun e w' => e = .returned (.bool true) ∧ Below w.heap.size w w' := by
  go_enter Tryd.func6, Tryd.ntmps6
  go_wp2_with fail
  refine (first2 w).mono ?_; rintro e w1 ⟨rfl, hb1⟩
  go_wp2_with fail
  refine (get_ok _ _ w1 (by unfold maxLen; omega) hv.out).mono ?_; rintro e w2 ⟨rfl, rfl⟩
  go_wp2_with fail
  refine (refget_any s p w1 (by omega)).mono ?_
  intro e w2 hp
  rw [hv.out] at hp
  obtain ⟨rfl, rfl⟩ := hp
  go_wp2_with fail
  refine (code_nil w1).mono ?_; rintro e w2 ⟨rfl, rfl⟩
  go_wp2_with fail
  refine (place_nil w1).mono ?_; rintro e w2 ⟨rfl, hb2⟩
  go_wp2_with fail
  refine (first2 w2).mono ?_; rintro e w3 ⟨rfl, hb3⟩
  go_wp2
  go_ret
  exact ⟨rfl, below_trans hb1 (below_trans hb2 hb3)⟩

set_option maxRecDepth 1000000 in
set_option maxHeartbeats 1000000 in
theorem gets_err (s : ByteArray) (p : Int) (w : World) (hs : s.size ≤ 2000) (hg : Glob w) {c : Nat} (hv : Hid (vget s.data.toList p = .error c)) (hc0 : 0 < c) :
    Calls Tryd.prog 6 #[.string s, .int .i64 p] w fun e w' => e = .returned (.bool true) ∧ Below w.heap.size w w' := by
  have HG := Lib.hid hg
  clear hg
  go_enter Tryd.func6, Tryd.ntmps6
  go_wp2_with fail
  refine (first2 w).mono ?_; rintro e w1 ⟨rfl, hb1⟩
  go_wp2_with fail
  refine (get_err _ _ w1 (by unfold maxLen; omega) hv.out).mono ?_; rintro e w2 ⟨rfl, hw2⟩
  have hE : Hid (isErr w2 [(true, p)] (.iface 36 (.pointer (some ⟨w1.heap.size, 0, none⟩))) (codeV c)) := Lib.hid (by rw [hw2]; exact at_isErr w1 p c)
  have hb2 : Below w1.heap.size w1 w2 := by rw [hw2]; exact below_alloc _ _
  have hG2 : Hid (Glob w2) := Lib.hid ((HG.out.below hb1).below hb2)
  clear hw2
  go_wp2_with fail
  refine (refget_any s p w2 (by omega)).mono ?_
  intro e w3 hp
  rw [hv.out] at hp
  obtain ⟨rfl, rfl⟩ := hp
  go_wp2_with fail
  refine (code_any _ _ _ w2 hE.out (root_code _) hG2.out).mono ?_; rintro e w3 ⟨rfl, hb3⟩
  rw [show codeOf (codeV (c : Int)) = (c : Int) from rfl]
  go_wp2_with fail
  refine (place_any _ _ _ w3 (isErr_below hb3 hE.out) (root_code _) (hG2.out.below hb3)).mono ?_; rintro e w4 ⟨rfl, hb4⟩
  rw [show placeN [(true, p)] = p from rfl, show placeB [(true, p)] = true from rfl]
  go_wp2_with fail
  refine (first2 w4).mono ?_; rintro e w5 ⟨rfl, hb5⟩
  go_wp2
  go_ret
  exact ⟨ret_bool (by simp; omega), below_trans hb1 (below_trans hb2 (below_trans hb3 (below_trans hb4 hb5)))⟩

set_option maxRecDepth 1000000 in
theorem gets_long (s : ByteArray) (p : Int) (w : World) (hs : 2000 < s.size) :
    Calls Tryd.prog 6 #[.string s, .int .i64 p] w fun e w' => e = .returned (.bool true) ∧ Below w.heap.size w w' := by
  go_enter Tryd.func6, Tryd.ntmps6
  go_wp2_with fail
  refine (first2 w).mono ?_; rintro e w1 ⟨rfl, hb1⟩
  go_wp2_with fail
  refine (first2 w1).mono ?_; rintro e w2 ⟨rfl, hb2⟩
  go_wp2
  go_ret
  exact ⟨rfl, below_trans hb1 hb2⟩

theorem gets_walk (s : ByteArray) (p : Int) (w : World) (hg : Glob w) :
    Calls Tryd.prog 6 #[.string s, .int .i64 p] w fun e w' => e = .returned (.bool true) ∧ Below w.heap.size w w' := by
  by_cases hs : s.size ≤ 2000
  · cases hv : vget s.data.toList p with
    | ok r => exact gets_ok s p w hs (n := r.1) (q := r.2) (Lib.hid hv)
    | error c =>
      refine gets_err s p w hs hg (Lib.hid hv) ?_
      have := vget_code hv
      omega
  · exact gets_long s p w (by omega)
end Go.Proofs.YtlbfeknmbgjknaaDoor
