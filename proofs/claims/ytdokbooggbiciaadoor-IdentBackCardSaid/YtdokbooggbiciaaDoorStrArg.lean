/-
  An argument that is a slice of texts, opened.
-/
import Derived.Test.YtdokbooggbiciaaDoorTextsSame
import Derived.SliceStrings
namespace Go.Proofs.YtdokbooggbiciaaDoor
open Go.ChangeShapes Go.WideShapes Go.RowKit

theorem open_Strs {H : Type} {enc : TypeId × Value → H} {P : Program} {W : World} {sp : Nat → Bool} {base : Nat} {T E : TypeId} {v : Value} {d : DataW H} {p : List MemPlace}
    (hT : P.underlying T = some (.slice E)) (hE : P.underlying E = some .string) (hcE : P.cellsOf E = 1) (hv : Value.okWide P W .any base T v)
    (h : DataW.Trod enc P W 0 sp true T v d p) (hlt : ∀ x ∈ p, x.block < W.heap.size) :
    ∃ ao cap l, v = .slice ao (List.length l) cap ∧ Strs W ao l ∧ (∀ t ∈ l, t.length ≤ maxLen) ∧ l.length ≤ maxLen := by
  obtain ⟨ao, len, cap, rfl⟩ := okWide_slice hT hv
  obtain ⟨fuel, hf⟩ := h
  rcases open_strings hT hE hcE hf with ⟨hcs, hx⟩ | ⟨a, len', cap', zs, hcs, _, hl, hm, hz, hx, hcell, hwz⟩
  · simp [Value.cells] at hcs
    obtain ⟨rfl, rfl, rfl⟩ := hcs
    exact ⟨none, 0, [], rfl, fun h => absurd rfl h, by simp, by simp [maxLen]⟩
  · simp [Value.cells] at hcs
    obtain ⟨rfl, rfl, rfl⟩ := hcs
    have hle : len ≤ zs.length := by rw [hz]; split <;> omega
    have hll : ((zs.take len).map fun s => s.data.toList).length = len := by simp; omega
    refine ⟨some a, cap, (zs.take len).map fun s => s.data.toList, by rw [hll], fun hne => ?_, fun n hn => ?_, by rw [hll]; omega⟩
    · have h0 : 0 < len := by
        rcases Nat.eq_zero_or_pos len with e | e
        · subst e; exact absurd rfl hne
        · exact e
      obtain ⟨b, off, spot⟩ := a
      have hspot : spot = none := by simpa [Addr.add] using World.cell?_spot (hcell 0 (by omega))
      subst hspot
      simp only [Prod.mk.injEq] at hx
      have hp : p = MemPlace.row ⟨b, off, none⟩ zs.length := hx.2
      refine ⟨b, off, rfl, hlt (.cell b off) (by rw [hp]; exact MemPlace.mem_row.2 ⟨0, by omega, by simp⟩), fun j hj => ?_⟩
      have hj' : j < zs.length := by rw [hll] at hj; omega
      have := hcell j hj'
      have hadd : (⟨b, off, none⟩ : Addr).add j = ⟨b, off + j, none⟩ := by unfold Addr.add; split <;> simp_all
      rw [hadd] at this
      rw [this]
      simp [strV, List.getElem_take, List.getElem?_eq_getElem hj']
    · obtain ⟨s, hs, rfl⟩ := List.mem_map.1 hn
      have := hwz s (List.mem_of_mem_take hs)
      simpa using this
end Go.Proofs.YtdokbooggbiciaaDoor
