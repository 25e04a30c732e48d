/-
  Numbers by how often they stand behind one another.
-/
import Derived.Test.YtihoemimiplhfaaDoorSeqMath
namespace Go.Proofs.YtihoemimiplhfaaDoor
open Go.RowKit

/-- the runs of a list: a number, and how often it comes again -/
def runsOf : List Nat → List (Nat × Nat)
  | [] => []
  | n :: t => match runsOf t with
    | [] => [(n, 0)]
    | (m, k) :: r => if m = n then (m, k + 1) :: r else (n, 0) :: (m, k) :: r
def flatR (ps : List (Nat × Nat)) : List Nat := ps.flatMap fun p => [p.1, p.2]
def expR (ps : List (Nat × Nat)) : List Nat := ps.flatMap fun p => List.replicate (p.2 + 1) p.1
/-- no two neighbours of one number -/
def adjR : List (Nat × Nat) → Bool
  | [] => true
  | [_] => true
  | p :: q :: r => decide (p.1 ≠ q.1) && adjR (q :: r)
theorem flatR_cons (p : Nat × Nat) (ps : List (Nat × Nat)) : flatR (p :: ps) = p.1 :: p.2 :: flatR ps := rfl
theorem flatR_append (a b : List (Nat × Nat)) : flatR (a ++ b) = flatR a ++ flatR b := by simp [flatR]
theorem expR_cons (p : Nat × Nat) (ps : List (Nat × Nat)) : expR (p :: ps) = List.replicate (p.2 + 1) p.1 ++ expR ps := rfl
theorem expR_append (a b : List (Nat × Nat)) : expR (a ++ b) = expR a ++ expR b := by simp [expR]
theorem flatR_length (ps : List (Nat × Nat)) : (flatR ps).length = 2 * ps.length := by
  induction ps with
  | nil => rfl
  | cons p t ih => rw [flatR_cons]; simp [ih]; omega
theorem flatR_inj : ∀ {a b : List (Nat × Nat)}, flatR a = flatR b → a = b
  | [], [], _ => rfl
  | [], q :: b, h => by simp [flatR] at h
  | p :: a, [], h => by simp [flatR] at h
  | p :: a, q :: b, h => by
    rw [flatR_cons, flatR_cons] at h
    simp only [List.cons.injEq] at h
    obtain ⟨h1, h2, h3⟩ := h
    rw [flatR_inj h3, Prod.ext h1 h2]
theorem expR_runsOf (l : List Nat) : expR (runsOf l) = l := by
  induction l with
  | nil => rfl
  | cons n t ih =>
    rw [runsOf]
    split
    · rename_i h
      rw [h] at ih
      rw [← ih]; rfl
    · rename_i m k r h
      rw [h] at ih
      split
      · rename_i hm
        subst hm
        rw [expR_cons] at ih ⊢
        rw [← ih]; rfl
      · rw [expR_cons, ih]; rfl
theorem runsOf_head (n : Nat) (t : List Nat) : ∃ k r, runsOf (n :: t) = (n, k) :: r := by
  rw [runsOf]
  split
  · exact ⟨0, [], rfl⟩
  · split
    · rename_i h; subst h; exact ⟨_, _, rfl⟩
    · exact ⟨0, _, rfl⟩
theorem runsOf_rep (n : Nat) (rest : List Nat) (h : ∀ m, rest.head? = some m → m ≠ n) : ∀ k, runsOf (List.replicate (k + 1) n ++ rest) = (n, k) :: runsOf rest
  | 0 => by
    rw [List.replicate_one, List.singleton_append, runsOf]
    cases rest with
    | nil => rfl
    | cons m t =>
      obtain ⟨k, r, e⟩ := runsOf_head m t
      rw [e]
      simp only
      rw [if_neg (h m rfl)]
  | k + 1 => by
    rw [List.replicate_succ, List.cons_append, runsOf, runsOf_rep n rest h k]
    simp
theorem adjR_tail {p : Nat × Nat} {ps : List (Nat × Nat)} (h : adjR (p :: ps) = true) : adjR ps = true ∧ ∀ q, ps.head? = some q → p.1 ≠ q.1 := by
  cases ps with
  | nil => exact ⟨rfl, by simp⟩
  | cons q r =>
    rw [adjR] at h
    simp at h
    refine ⟨h.2, fun x hx => ?_⟩
    simp at hx
    subst hx
    exact h.1
theorem runsOf_expR : ∀ (ps : List (Nat × Nat)), adjR ps = true → runsOf (expR ps) = ps
  | [], _ => rfl
  | p :: ps, h => by
    obtain ⟨h1, h2⟩ := adjR_tail h
    rw [expR_cons, runsOf_rep, runsOf_expR ps h1]
    intro m hm
    cases ps with
    | nil => simp [expR] at hm
    | cons q r =>
      rw [expR_cons, List.replicate_succ] at hm
      simp at hm
      subst hm
      exact fun e => h2 q rfl e.symm
theorem adjR_runsOf (l : List Nat) : adjR (runsOf l) = true := by
  induction l with
  | nil => rfl
  | cons n t ih =>
    rw [runsOf]
    split
    · rfl
    · rename_i m k r h
      rw [h] at ih
      split
      · cases r with
        | nil => rfl
        | cons q u => rw [adjR] at ih ⊢; exact ih
      · rename_i hm
        rw [adjR, ih]
        simp
        exact fun e => hm e.symm
theorem adjR_append {a b : List (Nat × Nat)} (h : adjR (a ++ b) = true) : adjR a = true := by
  induction a with
  | nil => rfl
  | cons p t ih =>
    cases t with
    | nil => rfl
    | cons q u =>
      rw [List.cons_append, List.cons_append, adjR] at h
      simp only [Bool.and_eq_true] at h
      rw [adjR, h.1, Bool.true_and]
      exact ih h.2
/-- one more pair behind: is it another number than the last one? -/
theorem adjR_snoc (ps : List (Nat × Nat)) (n k : Nat) : adjR (ps ++ [(n, k)]) = (adjR ps && !decide ((expR ps).getLast? = some n)) := by
  induction ps with
  | nil => simp [adjR, expR]
  | cons p t ih =>
    cases t with
    | nil =>
      rw [List.singleton_append, adjR]
      simp [adjR, expR, List.getLast?_replicate]
    | cons q u =>
      rw [List.cons_append, List.cons_append, adjR, ← List.cons_append, ih, adjR, Bool.and_assoc]
      congr 2
      have : (expR (p :: q :: u)).getLast? = (expR (q :: u)).getLast? := by
        rw [expR_cons, List.getLast?_append]
        have hne : expR (q :: u) ≠ [] := by rw [expR_cons, List.replicate_succ]; simp
        obtain ⟨x, hx⟩ : ∃ x, (expR (q :: u)).getLast? = some x := by
          cases hh : (expR (q :: u)).getLast? with
          | none => exact absurd (List.getLast?_eq_none_iff.1 hh) hne
          | some x => exact ⟨x, rfl⟩
        rw [hx]; rfl
      rw [this]
theorem expR_length_snoc (ps : List (Nat × Nat)) (n k : Nat) : (expR (ps ++ [(n, k)])).length = (expR ps).length + k + 1 := by
  rw [expR_append]; simp [expR]; omega
theorem expR_pos {p : Nat × Nat} {ps : List (Nat × Nat)} : 0 < (expR (p :: ps)).length := by rw [expR_cons]; simp; omega

/-- a text that is the column of c numbers -/
def GoodR (s : ByteArray) (c : Nat) (ps : List (Nat × Nat)) : Prop := adjR ps = true ∧ s.data.toList = vputs (flatR ps) ∧ (expR ps).length = c ∧ ∀ n ∈ flatR ps, n < 2 ^ 64
theorem good_prefix {s : ByteArray} {c : Nat} {g ps : List (Nat × Nat)} {q : Nat} {b : Bool} (h : GoodR s c g) (hr : rdn s.data.toList (2 * ps.length) = .ok (flatR ps, q, b)) : ∃ rest, g = ps ++ rest ∧ b = false ∧ q = (vputs (flatR ps)).length := by
  obtain ⟨h1, h2, h3, h4⟩ := h
  have hle : ps.length ≤ g.length := by
    rcases Nat.lt_or_ge g.length ps.length with hl | hl
    · obtain ⟨cc, hc⟩ := rdn_past (flatR g) h4 (2 * ps.length - 2 * g.length - 1)
      rw [flatR_length, show 2 * g.length + (2 * ps.length - 2 * g.length - 1) + 1 = 2 * ps.length by omega, ← h2, hr] at hc
      simp at hc
    · exact hl
  have hp := rdn_puts (flatR g) [] h4 (2 * ps.length) (by rw [flatR_length]; omega)
  rw [List.append_nil, ← h2, hr] at hp
  simp only [Except.ok.injEq, Prod.mk.injEq] at hp
  obtain ⟨e1, e2, e3⟩ := hp
  have e4 : (flatR g).take (2 * ps.length) = flatR (g.take ps.length) := by
    have : g = g.take ps.length ++ g.drop ps.length := (List.take_append_drop _ _).symm
    conv => lhs; rw [this]
    rw [flatR_append, List.take_append_of_le_length (by rw [flatR_length, List.length_take]; omega), List.take_of_length_le (by rw [flatR_length, List.length_take]; omega)]
  rw [e4] at e1 e2
  have e5 := flatR_inj e1
  refine ⟨g.drop ps.length, ?_, e3, by rw [e2, ← e1]⟩
  conv => rhs; rw [e5]
  rw [List.length_take, Nat.min_eq_left hle]
  exact (List.take_append_drop _ _).symm
end Go.Proofs.YtihoemimiplhfaaDoor
