/-
  hyglaw19.few: are texts few and short?
-/
import Derived.Lib.MinMax
import Derived.Test.YtdokbooggbiciaaDoorEnc
import Derived.Test.YtdokbooggbiciaaDoorOrdT
namespace Go.Proofs.YtdokbooggbiciaaDoor
open Go.RowKit

/-- how much texts are, each of at most 20001 bytes -/
def capSum (l : List (List UInt8)) : Nat := (l.map fun t => min t.length 20001).sum
theorem capSum_snoc (l : List (List UInt8)) (t : List UInt8) : capSum (l ++ [t]) = capSum l + min t.length 20001 := by simp [capSum]
theorem capSum_le : ∀ (l : List (List UInt8)), capSum l ≤ 20001 * l.length
  | [] => by simp [capSum]
  | t :: l => by
    have := capSum_le l
    simp only [capSum, List.map_cons, List.sum_cons, List.length_cons] at *
    omega
/-- few and short -/
def fewB (l : List (List UInt8)) : Bool := decide (l.length ≤ 200) && decide (capSum (l.take 200) ≤ 20000)
set_option maxRecDepth 1000000 in
set_option maxHeartbeats 4000000 in
theorem few_any (ao : Option Addr) (cap : Nat) (l : List (List UInt8)) (w : World) (hN : Strs w ao l) (hm : l.length ≤ 9223372036854775807) (hlt : Hid (∀ t ∈ l, t.length ≤ 9223372036854775807)) {r : Bool} (hr : Hid (fewB l = r)) :
    Calls Tryd.prog 6 #[.slice ao l.length cap] w fun e w' => e = .returned (.bool r) ∧ Below w.heap.size w w' := by
  go_enter Tryd.func6, Tryd.ntmps6
  go_wp2_with fail
  go_loopg [3, 4] (min l.length 200) (fun k vn i wr => ∃ (j S : Nat), j + k = min l.length 200 ∧ i = .int .i64 j ∧ vn = .int .i64 S ∧ Hid (S = capSum (l.take j)) ∧ Below w.heap.size w wr)
  case atStart => exact ⟨0, 0, by omega, rfl, rfl, Lib.hid rfl, Below.refl _ _⟩
  case round =>
    obtain ⟨j, S, hj, rfl, rfl, HS, hbr⟩ := hrel
    have HB := Lib.hid hbr
    have HJ := Lib.hid hj
    have hj200 : j ≤ 200 := by omega
    have hS9 : S ≤ 20001 * 200 := by
      rw [HS.out]
      have := capSum_le (l.take j)
      rw [List.length_take] at this
      omega
    clear hbr hj
    by_cases hlt2 : j < l.length
    · have d1 : decide ((j : Int) < (l.length : Int)) = true := decide_eq_true (by omega)
      by_cases h200 : j < 200
      · obtain ⟨b, off, rfl, hbl, hc⟩ := (hN.below HB.out).at hlt2
        obtain ⟨t, ht⟩ : ∃ t, l[j] = t := ⟨_, rfl⟩
        rw [ht] at hc
        have HT : Hid (capSum (l.take (j + 1)) = S + min t.length 20001) := Lib.hid (by rw [List.take_succ_eq_append_getElem hlt2, capSum_snoc, HS.out, ht])
        have htl : t.length ≤ 9223372036854775807 := ht ▸ hlt.out _ (List.getElem_mem hlt2)
        obtain ⟨X, hX⟩ : ∃ X : ByteArray, (⟨t.toArray⟩ : ByteArray) = X := ⟨_, rfl⟩
        have hXs : X.size = t.length := by rw [← hX, str_size]
        unfold strV at hc
        rw [hX] at hc
        have hi1 : (j : Int) < (l.length : Int) := by omega
        have d2 : decide ((j : Int) < 200) = true := decide_eq_true (by omega)
        obtain ⟨mn, hmn⟩ : ∃ mn, min t.length 20001 = mn := ⟨_, rfl⟩
        have hmi : min (t.length : Int) 20001 = (mn : Int) := by omega
        have hmn9 : mn ≤ 20001 := by omega
        rw [hmn] at HT
        clear ht hX hmn htl
        go_wp2_with fail
        have hj := HJ.out
        go_roundg (gk - 1)
        case measure => omega
        case rel => exact ⟨j + 1, S + mn, by omega, by simp, by simp, Lib.hid HT.out.symm, HB.out⟩
      · have d2 : decide ((j : Int) < 200) = false := decide_eq_false (by omega)
        have hj2 : capSum (l.take j) = capSum (l.take 200) := by rw [show j = 200 by omega]
        have HR : Hid ((decide (l.length ≤ 200) && decide (S ≤ 20000)) = r) := Lib.hid (by rw [← hr.out]; unfold fewB; rw [HS.out, hj2])
        clear hj2 h200
        by_cases h3 : l.length ≤ 200
        · have d3 : decide (l.length ≤ 200) = true := decide_eq_true h3
          by_cases h4 : S ≤ 20000
          · have hre : r = true := by rw [← HR.out, d3, decide_eq_true h4]; rfl
            have d4 : decide ((S : Int) ≤ 20000) = true := decide_eq_true (by omega)
            subst hre
            go_wp2_with fail
            go_ret
            exact ⟨rfl, HB.out⟩
          · have hre : r = false := by rw [← HR.out, d3, decide_eq_false h4]; rfl
            have d4 : decide ((S : Int) ≤ 20000) = false := decide_eq_false (by omega)
            subst hre
            go_wp2_with fail
            go_ret
            exact ⟨rfl, HB.out⟩
        · have hre : r = false := by rw [← HR.out, decide_eq_false h3]; rfl
          subst hre
          go_wp2_with fail
          go_ret
          exact ⟨rfl, HB.out⟩
    · have d1 : decide ((j : Int) < (l.length : Int)) = false := decide_eq_false (by omega)
      have hj2 : capSum (l.take j) = capSum (l.take 200) := by
        have : j = l.length := by have := HJ.out; omega
        rw [this, List.take_length, List.take_of_length_le (by omega)]
      have HR : Hid ((decide (l.length ≤ 200) && decide (S ≤ 20000)) = r) := Lib.hid (by rw [← hr.out]; unfold fewB; rw [HS.out, hj2])
      clear hj2
      by_cases h3 : l.length ≤ 200
      · have d3 : decide (l.length ≤ 200) = true := decide_eq_true h3
        by_cases h4 : S ≤ 20000
        · have hre : r = true := by rw [← HR.out, d3, decide_eq_true h4]; rfl
          have d4 : decide ((S : Int) ≤ 20000) = true := decide_eq_true (by omega)
          subst hre
          go_wp2_with fail
          go_ret
          exact ⟨rfl, HB.out⟩
        · have hre : r = false := by rw [← HR.out, d3, decide_eq_false h4]; rfl
          have d4 : decide ((S : Int) ≤ 20000) = false := decide_eq_false (by omega)
          subst hre
          go_wp2_with fail
          go_ret
          exact ⟨rfl, HB.out⟩
      · exact absurd (by have := HJ.out; omega) h3
end Go.Proofs.YtdokbooggbiciaaDoor
