/-
  A slice of structs of two one-cell fields that is only read.
-/
import Derived.Test.YtlbfeknmbgjknaaDoorInts
import Derived.Deep.SlicePairs
namespace Go.Proofs.YtlbfeknmbgjknaaDoor
open Go.ChangeShapes Go.WideShapes Go.ChangeAt Go.RowKit Go.Deep

/-- the cells of a slice of structs of two one-cell fields -/
def Prs {α : Type} (f g : α → Value) (w : World) (ao : Option Addr) (l : List α) : Prop :=
  l ≠ [] → ∃ b off, ao = some ⟨b, off, none⟩ ∧ b < w.heap.size ∧ ∀ j (h : j < l.length), w.cell? ⟨b, off + j * 2, none⟩ = some (f l[j]) ∧ w.cell? ⟨b, off + j * 2 + 1, none⟩ = some (g l[j])
theorem Prs.below {α : Type} {f g : α → Value} {w w' : World} {ao : Option Addr} {l : List α} (h : Prs f g w ao l) (hb : Below w.heap.size w w') : Prs f g w' ao l := fun hn => by
  obtain ⟨b, off, e, hlt, hc⟩ := h hn
  exact ⟨b, off, e, Nat.lt_of_lt_of_le hlt hb.size, fun j hj => ⟨(hb.cell (p := ⟨b, off + j * 2, none⟩) hlt).trans (hc j hj).1, (hb.cell (p := ⟨b, off + j * 2 + 1, none⟩) hlt).trans (hc j hj).2⟩⟩
theorem Prs.at {α : Type} {f g : α → Value} {w : World} {ao : Option Addr} {l : List α} (h : Prs f g w ao l) {i : Nat} (hi : i < l.length) :
    ∃ b off x, Hid (x = l[i]) ∧ ao = some ⟨b, off, none⟩ ∧ b < w.heap.size ∧ w.cell? ⟨b, off + i * 2, none⟩ = some (f x) ∧ w.cell? ⟨b, off + i * 2 + 1, none⟩ = some (g x) := by
  obtain ⟨b, off, e, hlt, hc⟩ := h (by intro e; subst e; simp at hi)
  exact ⟨b, off, l[i], Lib.hid rfl, e, hlt, (hc i hi).1, (hc i hi).2⟩
theorem Prs.take {α : Type} {f g : α → Value} {w : World} {ao : Option Addr} {l : List α} (h : Prs f g w ao l) (k : Nat) : Prs f g w ao (l.take k) := fun hn => by
  obtain ⟨b, off, e, hlt, hc⟩ := h (by intro e; subst e; simp at hn)
  refine ⟨b, off, e, hlt, fun j hj => ?_⟩
  have hj' : j < l.length := by simp at hj; omega
  simpa using hc j hj'

/-- an argument that is such a slice, opened: fields of two kinds that a function from data knows -/
theorem open_Prs {α : Type} {H : Type} {enc : TypeId × Value → H} {P : Program} {W : World} {sp : Nat → Bool} {base : Nat} {T E : TypeId} {f0 f1 : Field} {v : Value} {d : DataW H} {p : List MemPlace}
    (f g : α → Value) (good : α → Prop) (hT : P.underlying T = some (.slice E)) (hE : P.underlying E = some (.struct #[f0, f1])) (ce : P.cellsOf E = 2) (o0 : f0.offset = 0) (o1 : f1.offset = 1) (c0 : P.cellsOf f0.type = 1) (c1 : P.cellsOf f1.type = 1)
    (hval : ∀ {fuel : Nat} {V0 V1 : Value} {x0 x1 : DataW H × List MemPlace}, DataW.trod enc P W 0 sp true fuel f0.type [V0] = some x0 → DataW.trod enc P W 0 sp true fuel f1.type [V1] = some x1 → ∃ y : α, V0 = f y ∧ V1 = g y ∧ good y)
    (hv : Value.okWide P W .any base T v) (h : DataW.Trod enc P W 0 sp true T v d p) :
    ∃ ao cap l, v = .slice ao (List.length l) cap ∧ Prs f g W ao l ∧ (∀ y ∈ l, good y) ∧ l.length ≤ maxLen := by
  obtain ⟨ao, len, cap, rfl⟩ := okWide_slice hT hv
  obtain ⟨fuel, hf⟩ := h
  rcases open_slice_pairs hT hE ce o0 o1 c0 c1 hf with ⟨hcs, _⟩ | ⟨a, len', cap', m, n, V0, V1, D0, D1, P0, P1, hcs, _, hl, hm, hmm, hx, hel⟩
  · simp [Value.cells] at hcs
    obtain ⟨rfl, rfl, rfl⟩ := hcs
    exact ⟨none, 0, [], rfl, fun h => absurd rfl h, by simp, by simp [maxLen]⟩
  · simp [Value.cells] at hcs
    obtain ⟨rfl, rfl, rfl⟩ := hcs
    have hle : len ≤ m := by rw [hmm]; split <;> omega
    have hy : ∀ i, i < m → ∃ y : α, V0 i = f y ∧ V1 i = g y ∧ good y := fun i hi => hval (hel i hi).2.2.1 (hel i hi).2.2.2
    rcases Nat.eq_zero_or_pos len with e0 | hpos
    · subst e0
      exact ⟨some a, cap, [], rfl, fun h => absurd rfl h, by simp, by simp [maxLen]⟩
    · obtain ⟨y0, _⟩ := hy 0 (by omega)
      have : Inhabited α := ⟨y0⟩
      obtain ⟨Y, hY⟩ := choose_lt hy
      have hll : ((List.range len).map Y).length = len := by simp
      refine ⟨some a, cap, (List.range len).map Y, by rw [hll], fun _ => ?_, fun y hy' => ?_, by rw [hll]; omega⟩
      · obtain ⟨b, off, spot⟩ := a
        have hspot : spot = none := by simpa [Addr.add] using World.cell?_spot (hel 0 (by omega)).1
        subst hspot
        simp only [Prod.mk.injEq] at hx
        have hb : b < W.heap.size := by
          have := (hel 0 (by omega)).1
          have h0 : (⟨b, off, none⟩ : Addr).add (0 * 2) = ⟨b, off, none⟩ := by simp [Addr.add]
          rw [h0] at this
          exact World.block_lt_of_cell? W ⟨b, off, none⟩ this
        refine ⟨b, off, rfl, hb, fun j hj => ?_⟩
        have hj' : j < len := by simpa using hj
        have h1 := (hel j (by omega)).1
        have h2 := (hel j (by omega)).2.1
        have e1 : (⟨b, off, none⟩ : Addr).add (j * 2) = ⟨b, off + j * 2, none⟩ := by unfold Addr.add; split <;> simp_all
        have e2 : (⟨b, off, none⟩ : Addr).add (j * 2 + 1) = ⟨b, off + j * 2 + 1, none⟩ := by simp [Addr.add, Nat.add_assoc]
        rw [e1] at h1
        rw [e2] at h2
        have := hY j (by omega)
        simp only [List.getElem_map, List.getElem_range]
        rw [h1, h2, this.1, this.2.1]
        exact ⟨rfl, rfl⟩
      · obtain ⟨i, hi, rfl⟩ := List.mem_map.1 hy'
        exact (hY i (by have := List.mem_range.1 hi; omega)).2.2
end Go.Proofs.YtlbfeknmbgjknaaDoor
