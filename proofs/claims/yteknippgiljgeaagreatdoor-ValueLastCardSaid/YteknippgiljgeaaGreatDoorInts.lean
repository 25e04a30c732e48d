/-
  A slice of numbers that is only read: what its cells hold.
-/
import Derived.Test.YteknippgiljgeaaGreatDoorKit
import Derived.ProofKit
namespace Go.Proofs.YteknippgiljgeaaGreatDoor
open Go.ChangeShapes Go.WideShapes Go.ChangeAt Go.RowKit

/-- v is a slice whose elements are the numbers l -/
def Ints (k : IntKind) (w : World) (ao : Option Addr) (l : List Int) : Prop :=
  l ≠ [] → ∃ b off, ao = some ⟨b, off, none⟩ ∧ b < w.heap.size ∧ ∀ j (h : j < l.length), w.cell? ⟨b, off + j, none⟩ = some (.int k l[j])
theorem Ints.below {k : IntKind} {w w' : World} {ao : Option Addr} {l : List Int} (h : Ints k w ao l) (hb : Below w.heap.size w w') : Ints k w' ao l := fun hn => by
  obtain ⟨b, off, e, hlt, hc⟩ := h hn
  exact ⟨b, off, e, Nat.lt_of_lt_of_le hlt hb.size, fun j hj => (hb.cell (p := ⟨b, off + j, none⟩) hlt).trans (hc j hj)⟩
theorem Ints.at {k : IntKind} {w : World} {ao : Option Addr} {l : List Int} (h : Ints k w ao l) {i : Nat} (hi : i < l.length) : ∃ b off, ao = some ⟨b, off, none⟩ ∧ b < w.heap.size ∧ w.cell? ⟨b, off + i, none⟩ = some (.int k l[i]) := by
  obtain ⟨b, off, e, hlt, hc⟩ := h (by intro e; subst e; simp at hi)
  exact ⟨b, off, e, hlt, hc i hi⟩

/-- an argument that is a slice of numbers, opened -/
theorem open_Ints {H : Type} {enc : TypeId × Value → H} {P : Program} {W : World} {sp : Nat → Bool} {base : Nat} {T E : TypeId} {k : IntKind} {v : Value} {d : DataW H} {p : List MemPlace}
    (hT : P.underlying T = some (.slice E)) (hE : P.underlying E = some (.int k)) (hcE : P.cellsOf E = 1) (hv : Value.okWide P W .any base T v)
    (h : DataW.Trod enc P W 0 sp true T v d p) (hlt : ∀ x ∈ p, x.block < W.heap.size) :
    ∃ ao cap l, v = .slice ao (List.length l) cap ∧ Ints k W ao l ∧ (∀ n ∈ l, (Lit.int k n).wf = true) ∧ l.length ≤ maxLen := by
  obtain ⟨ao, len, cap, rfl⟩ := okWide_slice hT hv
  obtain ⟨fuel, hf⟩ := h
  rcases open_ints hT hE hcE hf with ⟨hcs, hx⟩ | ⟨a, len', cap', zs, hcs, _, hl, hm, hz, hx, hcell, hwz⟩
  · simp [Value.cells] at hcs
    obtain ⟨rfl, rfl, rfl⟩ := hcs
    exact ⟨none, 0, [], rfl, fun h => absurd rfl h, by simp, by simp [maxLen]⟩
  · simp [Value.cells] at hcs
    obtain ⟨rfl, rfl, rfl⟩ := hcs
    have hle : len ≤ zs.length := by rw [hz]; split <;> omega
    have hll : (zs.take len).length = len := by simp; omega
    refine ⟨some a, cap, zs.take len, by rw [hll], fun hne => ?_, fun n hn => hwz n (List.mem_of_mem_take hn), by rw [hll]; omega⟩
    have h0 : 0 < len := by
      rcases Nat.eq_zero_or_pos len with e | e
      · subst e; exact absurd rfl hne
      · exact e
    obtain ⟨b, off, spot⟩ := a
    have hspot : spot = none := by simpa [Addr.add] using World.cell?_spot (hcell 0 (by omega))
    subst hspot
    simp only [Prod.mk.injEq] at hx
    have hp : p = MemPlace.row ⟨b, off, none⟩ zs.length := hx.2
    refine ⟨b, off, rfl, hlt (.cell b off) (by rw [hp]; exact MemPlace.mem_row.2 ⟨0, by omega, by simp⟩), fun j hj => ?_⟩
    have hj' : j < zs.length := by omega
    have := hcell j hj'
    have hadd : (⟨b, off, none⟩ : Addr).add j = ⟨b, off + j, none⟩ := by unfold Addr.add; split <;> simp_all
    rw [hadd] at this
    rw [this]
    simp [List.getElem_take, List.getElem?_eq_getElem hj']

/-- the same, the numbers as natural ones -/
def Nats (k : IntKind) (w : World) (ao : Option Addr) (l : List Nat) : Prop :=
  l ≠ [] → ∃ b off, ao = some ⟨b, off, none⟩ ∧ b < w.heap.size ∧ ∀ j (h : j < l.length), w.cell? ⟨b, off + j, none⟩ = some (.int k ((l[j] : Nat) : Int))
theorem Nats.below {k : IntKind} {w w' : World} {ao : Option Addr} {l : List Nat} (h : Nats k w ao l) (hb : Below w.heap.size w w') : Nats k w' ao l := fun hn => by
  obtain ⟨b, off, e, hlt, hc⟩ := h hn
  exact ⟨b, off, e, Nat.lt_of_lt_of_le hlt hb.size, fun j hj => (hb.cell (p := ⟨b, off + j, none⟩) hlt).trans (hc j hj)⟩
/-- the i-th one, under a name of its own -/
theorem Nats.at {k : IntKind} {w : World} {ao : Option Addr} {l : List Nat} (h : Nats k w ao l) {i : Nat} (hi : i < l.length) : ∃ b off n, Hid (n = l[i]) ∧ ao = some ⟨b, off, none⟩ ∧ b < w.heap.size ∧ w.cell? ⟨b, off + i, none⟩ = some (.int k ((n : Nat) : Int)) := by
  obtain ⟨b, off, e, hlt, hc⟩ := h (by intro e; subst e; simp at hi)
  exact ⟨b, off, l[i], Lib.hid rfl, e, hlt, hc i hi⟩
theorem Ints.nats {k : IntKind} {w : World} {ao : Option Addr} {l : List Int} (h : Ints k w ao l) (h0 : ∀ n ∈ l, 0 ≤ n) : Nats k w ao (l.map Int.toNat) := fun hn => by
  obtain ⟨b, off, e, hlt, hc⟩ := h (by intro e; subst e; exact hn rfl)
  refine ⟨b, off, e, hlt, fun j hj => ?_⟩
  have hj' : j < l.length := by simpa using hj
  rw [hc j hj']
  have := h0 l[j] (List.getElem_mem _)
  simp only [List.getElem_map]
  rw [Int.toNat_of_nonneg this]
end Go.Proofs.YteknippgiljgeaaGreatDoor
