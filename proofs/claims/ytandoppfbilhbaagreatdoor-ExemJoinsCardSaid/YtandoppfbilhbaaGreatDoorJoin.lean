/-
  strings.Join of texts, nothing between them.
-/
import Derived.Test.YtandoppfbilhbaaGreatDoorJoinLaid
import Derived.Test.YtandoppfbilhbaaGreatDoorTextsSame
namespace Go.Proofs.YtandoppfbilhbaaGreatDoor
open Go.RowKit

theorem join_flat : ∀ (l : List (List UInt8)), Lib.join l [] = l.flatten
  | [] => rfl
  | [a] => by simp [Lib.join]
  | a :: b :: l => by
    have := join_flat (b :: l)
    simp [Lib.join] at this ⊢
    exact this
theorem join_any (ao : Option Addr) (cap : Nat) (l : List (List UInt8)) (w : World) (h : Strs w ao l) (hcap : l.length ≤ cap) (hl : l.length ≤ 100000000) (hf : l.flatten.length ≤ 100000000) :
    Calls Tryz.prog 85 #[.slice ao l.length cap, .string ⟨#[]⟩] w fun e w' => e = .returned (.string ⟨l.flatten.toArray⟩) ∧ Below w.heap.size w w' := by
  by_cases hn : l = []
  · subst hn
    refine (Tryz.strings_Join_none ao cap ⟨#[]⟩ w).mono ?_
    rintro e w' ⟨rfl, rfl⟩
    exact ⟨rfl, Below.refl _ _⟩
  · obtain ⟨b, off, rfl, hb, hc⟩ := h hn
    have hm : (l.map fun t => (⟨t.toArray⟩ : ByteArray)).map (·.data.toList) = l := by simp [List.map_map, Function.comp_def]
    have key := Tryz.strings_Join b off cap (l.map fun t => (⟨t.toArray⟩ : ByteArray)) ⟨#[]⟩ w (fun j x hx => by
      rw [List.getElem?_map] at hx
      obtain ⟨t, ht, rfl⟩ := Option.map_eq_some_iff.1 hx
      obtain ⟨hj, rfl⟩ := List.getElem?_eq_some_iff.1 ht
      exact hc j hj) hb (by rw [List.length_map]; omega) (by rw [List.length_map]; exact hcap) (by rw [hm, show (⟨#[]⟩ : ByteArray).data.toList = [] from rfl, join_flat]; omega)
    rw [hm, show (⟨#[]⟩ : ByteArray).data.toList = [] from rfl, join_flat, List.length_map] at key
    exact key
end Go.Proofs.YtandoppfbilhbaaGreatDoor
