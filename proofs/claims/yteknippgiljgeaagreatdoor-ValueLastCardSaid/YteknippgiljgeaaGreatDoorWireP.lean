/-
  wire.Fixeds, wire.Varints: packed numbers.
-/
import Derived.Test.YteknippgiljgeaaGreatDoorWireR4
namespace Go.Proofs.YteknippgiljgeaaGreatDoor
open Go.RowKit

def nats64 (l : List Nat) : List Value := l.map fun n : Nat => .int .u64 (n : Int)
/-- the numbers of eight bytes each -/
def fixs (l : List UInt8) (k : Nat) : List Nat := (List.range k).map fun i => wlit ((l.drop (8 * i)).take 8)
theorem fixs_succ (l : List UInt8) (k : Nat) : fixs l (k + 1) = fixs l k ++ [wlit ((l.drop (8 * k)).take 8)] := by simp [fixs, List.range_succ]
theorem fixs_len (l : List UInt8) (k : Nat) : (fixs l k).length = k := by simp [fixs]
def FixedsPost (s : ByteArray) (w : World) (e : Ending) (w' : World) : Prop :=
  if s.size % 8 = 0 then ∃ u, e = .returned (.tuple #[u, .nilIface]) ∧ w'.ownsRow w.heap.size 23 1 u (s.size / 8) (nats64 (fixs s.data.toList (s.size / 8))) ∧ Below w.heap.size w w'
  else ∃ v, e = .returned (.tuple #[.slice none 0 0, v]) ∧ ErrNew w ((s.size - s.size % 8 : Nat) : Int) 1 v w'
theorem fixeds_no {s : ByteArray} {w w' : World} {v : Value} {p : Int} (h : ¬ s.size % 8 = 0) (hp : p = ((s.size - s.size % 8 : Nat) : Int)) (hE : ErrNew w p 1 v w') : FixedsPost s w (.returned (.tuple #[.slice none 0 0, v])) w' := by
  subst hp; unfold FixedsPost; rw [if_neg h]; exact ⟨v, rfl, hE⟩
theorem fixeds_ok {s : ByteArray} {w w' : World} {u : Value} {K : Nat} (h : s.size = 8 * K) (ho : w'.ownsRow w.heap.size 23 1 u K (nats64 (fixs s.data.toList K))) (hB : Below w.heap.size w w') : FixedsPost s w (.returned (.tuple #[u, .nilIface])) w' := by
  have e : s.size / 8 = K := by omega
  unfold FixedsPost; rw [if_pos (by omega), e]; exact ⟨u, rfl, ho, hB⟩
/-- the varints that bytes are -/
def wvs : Nat → List UInt8 → Except Nat (List Nat)
  | 0, _ => .ok []
  | f + 1, l => if l = [] then .ok [] else match wv l with
    | .error c => .error c
    | .ok (n, j) => match wvs f (l.drop j) with
      | .error c => .error c
      | .ok ns => .ok (n :: ns)
def wvars (l : List UInt8) : Except Nat (List Nat) := wvs l.length l
theorem wvs_fuel : ∀ (f g : Nat) (l : List UInt8), l.length ≤ f → l.length ≤ g → wvs f l = wvs g l
  | 0, 0, _, _, _ => rfl
  | 0, g + 1, l, hf, _ => by
    have : l = [] := List.length_eq_zero_iff.1 (by omega)
    rw [wvs, wvs, if_pos this]
  | f + 1, 0, l, _, hg => by
    have : l = [] := List.length_eq_zero_iff.1 (by omega)
    rw [wvs, wvs, if_pos this]
  | f + 1, g + 1, l, hf, hg => by
    rw [wvs, wvs]
    split
    · rfl
    · cases h : wv l with
      | error c => rfl
      | ok x =>
        obtain ⟨n, j⟩ := x
        have := wv_bounds h
        dsimp only
        rw [wvs_fuel f g _ (by simp; omega) (by simp; omega)]
theorem wvars_nil : wvars [] = .ok [] := rfl
theorem wvars_no {l : List UInt8} {c : Nat} (h0 : l ≠ []) (h : wv l = .error c) : wvars l = .error c := by
  unfold wvars
  cases hl : l.length with
  | zero => exact absurd (List.length_eq_zero_iff.1 hl) h0
  | succ f => rw [wvs, if_neg h0, h]
theorem wvars_cons {l : List UInt8} {n j : Nat} (h : wv l = .ok (n, j)) : wvars l = match wvars (l.drop j) with
    | .error c => .error c
    | .ok ns => .ok (n :: ns) := by
  have hb := wv_bounds h
  conv => lhs; unfold wvars
  cases hl : l.length with
  | zero => omega
  | succ f =>
    rw [wvs, if_neg (by intro e; subst e; simp at hl), h]
    dsimp only
    have e : wvs f (l.drop j) = wvars (l.drop j) := wvs_fuel _ _ _ (by simp; omega) (by simp)
    rw [e]
def VarsPost (s : ByteArray) (w : World) (e : Ending) (w' : World) : Prop := match wvars s.data.toList with
  | .error c => ∃ v, e = .returned (.tuple #[.slice none 0 0, v]) ∧ ∃ q : Nat, q ≤ s.size ∧ ErrNew w (q : Int) (c : Int) v w'
  | .ok ns => ∃ u, e = .returned (.tuple #[u, .nilIface]) ∧ w'.ownsRow w.heap.size 23 1 u ns.length (nats64 ns) ∧ ns.length ≤ s.size ∧ Below w.heap.size w w'
theorem vars_no {s : ByteArray} {c : Nat} {w w' : World} {v : Value} (h : wvars s.data.toList = .error c) (q : Nat) (hq : q ≤ s.size) (hE : ErrNew w (q : Int) (c : Int) v w') : VarsPost s w (.returned (.tuple #[.slice none 0 0, v])) w' := by
  unfold VarsPost; rw [h]; exact ⟨v, rfl, q, hq, hE⟩
theorem vars_ok {s : ByteArray} {ns : List Nat} {w w' : World} {u : Value} (h : wvars s.data.toList = .ok ns) (ho : w'.ownsRow w.heap.size 23 1 u ns.length (nats64 ns)) (hl : ns.length ≤ s.size) (hB : Below w.heap.size w w') : VarsPost s w (.returned (.tuple #[u, .nilIface])) w' := by
  unfold VarsPost; rw [h]; exact ⟨u, rfl, ho, hl, hB⟩
def VsRel (l : List UInt8) (q : Nat) (acc : List Nat) : Prop := q ≤ l.length ∧ acc.length ≤ q ∧ wvars l = match wvars (l.drop q) with
  | .error c => .error c
  | .ok ns => .ok (acc ++ ns)
theorem vs_start (l : List UInt8) : VsRel l 0 [] := by
  refine ⟨by omega, by simp, ?_⟩
  rw [List.drop_zero]
  cases wvars l <;> rfl
theorem vs_err {l : List UInt8} {q c : Nat} {acc : List Nat} (h : VsRel l q acc) (hq : q < l.length) (hn : wv (l.drop q) = .error c) : wvars l = .error c := by
  rw [h.2.2, wvars_no (by intro e; have := congrArg List.length e; simp at this; omega) hn]
theorem vs_next {l : List UInt8} {q j n : Nat} {acc : List Nat} (h : VsRel l q acc) (hn : wv (l.drop q) = .ok (n, j)) : VsRel l (q + j) (acc ++ [n]) := by
  have hb := wv_bounds hn
  simp at hb
  obtain ⟨h1, h2, h3⟩ := h
  refine ⟨by omega, by simp; omega, ?_⟩
  rw [h3, wvars_cons hn, List.drop_drop]
  cases wvars (l.drop (q + j)) with
  | error c => rfl
  | ok rs => simp
theorem vs_end {l : List UInt8} {acc : List Nat} {q : Nat} (h : VsRel l q acc) (hq : q = l.length) : wvars l = .ok acc := by
  subst hq
  rw [h.2.2, List.drop_length, wvars_nil]
  simp
end Go.Proofs.YteknippgiljgeaaGreatDoor
