/-
  Attributes: how many bytes they take at most.
-/
import Derived.Test.YtandoppfbilhbaaGreatDoorValOut
namespace Go.Proofs.YtandoppfbilhbaaGreatDoor
open Go.RowKit

mutual
theorem vout_le : ∀ x : Val, (vout x).length ≤ vb x
 | .mk k s b n l m i u => by
  rw [vout, vb, List.length_append]
  have h1 := vouts_le 1 (by omega) l
  have h2 := kouts_le 1 (by omega) m
  have hB : ∀ (num : Nat) (t : List UInt8), (rB num t).raw.length ≤ 20 + t.length := fun num t => by
   show (vput (8 * num + 2) ++ (vput t.length ++ t)).length ≤ _
   rw [List.length_append, List.length_append]
   have := vput_le10 (8 * num + 2)
   have := vput_le10 t.length
   omega
  have hN : ∀ (num t : Nat), (rN num t).raw.length ≤ 20 := fun num t => by
   show (vput (8 * num + 0) ++ vput t).length ≤ _
   rw [List.length_append]
   have := vput_le10 (8 * num + 0)
   have := vput_le10 t
   omega
  have hF : ∀ (num t : Nat), (rF num t).raw.length ≤ 20 := fun num t => by
   show (vput (8 * num + 1) ++ eight 8 t).length ≤ _
   rw [List.length_append, eight_len]
   have := vput_le10 (8 * num + 1)
   omega
  have : (vrec k s b n (vouts 1 l) (kouts 1 m) i).length ≤ 20 + s.length + i.length + vsw l + ksw m := by
   unfold vrec
   split
   ·have := hB k.toNat s; omega
   ·split
    ·have := hN 2 (if b then 1 else n); omega
    ·split
     ·have := hN 3 n; omega
     ·split
      ·have := hF 4 n; omega
      ·split
       ·have := hB 5 (vouts 1 l ++ i); rw [List.length_append] at this; omega
       ·split
        ·have := hB 6 (kouts 1 m ++ i); rw [List.length_append] at this; omega
        ·simp
  omega
theorem kout_le : ∀ x : KV, (kout x).length ≤ kb x
 | .mk key has v u => by
  rw [kout, kb, List.length_append, List.length_append]
  have h1 := vout_le v
  have h2 := vw_vb v
  have hB : ∀ (num : Nat) (t : List UInt8), (rB num t).raw.length ≤ 20 + t.length := fun num t => by
   show (vput (8 * num + 2) ++ (vput t.length ++ t)).length ≤ _
   rw [List.length_append, List.length_append]
   have := vput_le10 (8 * num + 2)
   have := vput_le10 t.length
   omega
  have h3 : (krec key).length ≤ 20 + key.length := by
   unfold krec
   split
   ·simp
   ·exact hB 1 key
  have h4 := hB 2 (vout v)
  cases has <;> simp <;> omega
theorem vouts_le : ∀ (num : Nat), num ≤ 536870911 → ∀ l : List Val, (vouts num l).length ≤ vsw l
 | num, hn, [] => by rw [vouts]; simp
 | num, hn, x :: xs => by
  rw [vouts, vsw, List.length_append]
  have h1 := vout_le x
  have h2 := vw_vb x
  have h3 := vouts_le num hn xs
  have h4 : (rB num (vout x)).raw.length ≤ 20 + (vout x).length := by
   show (vput (8 * num + 2) ++ (vput (vout x).length ++ vout x)).length ≤ _
   rw [List.length_append, List.length_append]
   have := vput_le10 (8 * num + 2)
   have := vput_le10 (vout x).length
   omega
  omega
theorem kouts_le : ∀ (num : Nat), num ≤ 536870911 → ∀ l : List KV, (kouts num l).length ≤ ksw l
 | num, hn, [] => by rw [kouts]; simp
 | num, hn, x :: xs => by
  rw [kouts, ksw, List.length_append]
  have h1 := kout_le x
  have h2 := kw_kb x
  have h3 := kouts_le num hn xs
  have h4 : (rB num (kout x)).raw.length ≤ 20 + (kout x).length := by
   show (vput (8 * num + 2) ++ (vput (kout x).length ++ kout x)).length ≤ _
   rw [List.length_append, List.length_append]
   have := vput_le10 (8 * num + 2)
   have := vput_le10 (kout x).length
   omega
  omega
end
/-- may it be, at a depth that may lie below 0? -/
def vmayD (x : Val) (d : Int) : Bool := decide (0 ≤ d) && vmay x d
def kmayD (x : KV) (d : Int) : Bool := decide (0 ≤ d) && kmay x d
theorem vmays_all (d : Int) : ∀ l : List Val, vmays l (d - 1) = l.all fun x => vmayD x (d - 2)
 | [] => by rw [vmays]; rfl
 | x :: xs => by
  rw [vmays, vmays_all d xs, List.all_cons, vmayD, show d - 1 - 1 = d - 2 by omega]
  congr 2
  congr 1
  exact propext ⟨fun h => by omega, fun h => by omega⟩
theorem kmays_all (d : Int) : ∀ l : List KV, kmays l (d - 1) = l.all fun x => kmayD x (d - 2)
 | [] => by rw [kmays]; rfl
 | x :: xs => by
  rw [kmays, kmays_all d xs, List.all_cons, kmayD, show d - 1 - 1 = d - 2 by omega]
  congr 2
  congr 1
  exact propext ⟨fun h => by omega, fun h => by omega⟩
end Go.Proofs.YtandoppfbilhbaaGreatDoor
