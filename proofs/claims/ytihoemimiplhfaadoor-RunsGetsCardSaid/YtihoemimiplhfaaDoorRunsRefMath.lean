/-
  What a text read by the definition answers, in pairs.
-/
import Derived.Test.YtihoemimiplhfaaDoorRunsLaw
import Derived.Test.YtihoemimiplhfaaDoorVarints
namespace Go.Proofs.YtihoemimiplhfaaDoor
open Go.RowKit

/-- two by two -/
def pairs2 : List Nat → List (Nat × Nat)
  | a :: b :: t => (a, b) :: pairs2 t
  | _ => []
theorem flatR_pairs2 : ∀ (k : Nat) (v : List Nat), v.length = 2 * k → flatR (pairs2 v) = v
  | 0, v, h => by rw [List.length_eq_zero_iff.1 (by omega : v.length = 0)]; rfl
  | k + 1, [], h => by simp at h
  | k + 1, [_], h => by simp at h; omega
  | k + 1, a :: b :: t, h => by
    rw [pairs2, flatR_cons, flatR_pairs2 k t (by simp at h; omega)]
theorem pairs2_length {k : Nat} {v : List Nat} (h : v.length = 2 * k) : (pairs2 v).length = k := by
  have h1 := flatR_length (pairs2 v)
  rw [flatR_pairs2 k v h] at h1
  omega
theorem pairs2_at : ∀ (k : Nat) (v : List Nat) (j : Nat) (hv : v.length = 2 * k) (hj : j < k), (pairs2 v)[j]? = some (v[2 * j]'(by omega), v[2 * j + 1]'(by omega))
  | 0, v, j, h, hj => by omega
  | k + 1, [], j, h, hj => by simp at h
  | k + 1, [_], j, h, hj => by simp at h; omega
  | k + 1, a :: b :: t, 0, h, hj => rfl
  | k + 1, a :: b :: t, j + 1, h, hj => by
    rw [pairs2, List.getElem?_cons_succ, pairs2_at k t j (by simp at h; omega) (by omega)]
    have e1 : 2 * (j + 1) = 2 * j + 1 + 1 := by omega
    have e2 : 2 * (j + 1) + 1 = 2 * j + 1 + 1 + 1 := by omega
    simp only [e1, List.getElem_cons_succ]
theorem rd_flat {s : ByteArray} {v : List Nat} {b : Bool} {c : Nat} {g : List (Nat × Nat)} (h : rdn s.data.toList v.length = .ok (v, s.size, b)) (hg : GoodR s c g) : flatR g = v ∧ b = false := by
  have hr := rdn_all (flatR g) [] hg.2.2.2
  rw [List.append_nil, ← hg.2.1, flatR_length] at hr
  rw [show s.data.toList.length = s.size by simp] at hr
  by_cases he : v.length = 2 * g.length
  · rw [he, hr] at h
    simp at h
    exact ⟨h.1, by simp [h.2]⟩
  · exact absurd hr (rdn_other h he (flatR g))
theorem rd_odd {s : ByteArray} {v : List Nat} {b : Bool} {c : Nat} (h : rdn s.data.toList v.length = .ok (v, s.size, b)) (ho : v.length % 2 ≠ 0) (g : List (Nat × Nat)) : ¬ GoodR s c g := fun hg => by
  have := (rd_flat h hg).1
  have h2 := flatR_length g
  rw [this] at h2
  omega
theorem rd_dead {s : ByteArray} {m c q cc : Nat} {xs : List Nat} {b : Bool} (h : rdn s.data.toList m = .ok (xs, q, b)) (hq : q < s.size) (hv : vget s.data.toList (q : Int) = .error cc) (g : List (Nat × Nat)) : ¬ GoodR s c g := fun hg => by
  have hr := rdn_all (flatR g) [] hg.2.2.2
  rw [List.append_nil, ← hg.2.1, flatR_length, show s.data.toList.length = s.size by simp] at hr
  exact rdn_dead h hq hv _ hr
theorem rd_pairs {s : ByteArray} {v : List Nat} {b : Bool} {c : Nat} {g : List (Nat × Nat)} (h : rdn s.data.toList v.length = .ok (v, s.size, b)) {k : Nat} (hk : v.length = 2 * k) (hg : GoodR s c g) : g = pairs2 v :=
  flatR_inj ((rd_flat h hg).1.trans (flatR_pairs2 k v hk).symm)
theorem expR_take {P : List (Nat × Nat)} {j n m : Nat} (h : P[j]? = some (n, m)) : expR (P.take (j + 1)) = expR (P.take j) ++ List.replicate (m + 1) n := by
  obtain ⟨hj, e⟩ := List.getElem?_eq_some_iff.1 h
  rw [List.take_succ_eq_append_getElem hj, e, expR_append]
  simp [expR]
theorem expR_take_le (P : List (Nat × Nat)) (j : Nat) : (expR (P.take j)).length ≤ (expR P).length := by
  conv => rhs; rw [← List.take_append_drop j P]
  rw [expR_append, List.length_append]; omega
/-- the count that stands there is too large -/
theorem rd_over {s : ByteArray} {v : List Nat} {b : Bool} {c j n m : Nat} (h : rdn s.data.toList v.length = .ok (v, s.size, b)) {k : Nat} (hk : v.length = 2 * k) (hp : (pairs2 v)[j]? = some (n, m)) {ls : List Nat} (hls : expR ((pairs2 v).take j) = ls) (hm : c < ls.length + m + 1) (g : List (Nat × Nat)) : ¬ GoodR s c g := fun hg => by
  have e := rd_pairs h hk hg
  have h1 := hg.2.2.1
  have h2 := expR_take_le (pairs2 v) (j + 1)
  rw [expR_take hp, hls, List.length_append, List.length_replicate, ← e, h1] at h2
  omega
/-- all were read: the text is the column, or none is -/
theorem rd_good {s : ByteArray} {v : List Nat} {b : Bool} {c : Nat} (h : rdn s.data.toList v.length = .ok (v, s.size, b)) {k : Nat} (hk : v.length = 2 * k) {ls : List Nat} (hls : expR (pairs2 v) = ls) (hlt : ∀ n ∈ ls, n < 18446744073709551616) (hc : c ≤ 20000) :
    ((⟨(vputs (flatR (runsOf ls))).toArray⟩ : ByteArray) = s ∧ ls.length = c → GoodR s c (runsOf ls)) ∧ (¬ ((⟨(vputs (flatR (runsOf ls))).toArray⟩ : ByteArray) = s ∧ ls.length = c) → ∀ g, ¬ GoodR s c g) := by
  refine ⟨fun ⟨h1, h2⟩ => ?_, fun hn g hg => hn ?_⟩
  · have := good_of ls hlt (by omega)
    rw [h1, h2] at this
    exact this
  · have e := rd_pairs h hk hg
    rw [← e] at hls
    have e2 : runsOf ls = g := by rw [← hls]; exact runsOf_expR g hg.1
    refine ⟨?_, by rw [← hls]; exact hg.2.2.1⟩
    rw [e2]
    exact ByteArray.ext (Array.ext' (by simp [hg.2.1]))
end Go.Proofs.YtihoemimiplhfaaDoor
