/-
  Attributes written: may they be, their bytes.
-/
import Derived.Test.YtficgfemmijaaaaGreatDoorValPlain
import Derived.Test.YtficgfemmijaaaaGreatDoorMsgOpen
import Derived.Test.YtficgfemmijaaaaGreatDoorAlikeB
namespace Go.Proofs.YtficgfemmijaaaaGreatDoor
open Go.RowKit
def rF (num n : Nat) : Rec := ⟨num, 1, n, [], vput (8 * num + 1) ++ eight 8 n⟩
def vrec (k : Int) (s : List UInt8) (b : Bool) (n : Nat) (L M i : List UInt8) : List UInt8 :=
  if k = 1 ∨ k = 7 then (rB k.toNat s).raw
  else if k = 2 then (rN 2 (if b then 1 else n)).raw
  else if k = 3 then (rN 3 n).raw
  else if k = 4 then (rF 4 n).raw
  else if k = 5 then (rB 5 (L ++ i)).raw
  else if k = 6 then (rB 6 (M ++ i)).raw
  else []
def krec (key : List UInt8) : List UInt8 := if key = [] then [] else (rB 1 key).raw
mutual
def vout : Val → List UInt8
  | .mk k s b n l m i u => vrec k s b n (vouts 1 l) (kouts 1 m) i ++ u
def kout : KV → List UInt8
  | .mk key has v u => (krec key ++ (if has then (rB 2 (vout v)).raw else [])) ++ u
def vouts : Nat → List Val → List UInt8
  | _, [] => []
  | num, x :: xs => (rB num (vout x)).raw ++ vouts num xs
def kouts : Nat → List KV → List UInt8
  | _, [] => []
  | num, x :: xs => (rB num (kout x)).raw ++ kouts num xs
end
def vnone : Val → Bool
  | .mk k s b n l m i u => decide (k = 0) && u.isEmpty && vpl k s.isEmpty b n l.length m.length i.isEmpty
mutual
def vmay : Val → Int → Bool
  | .mk k s b n l m i u, d => (vpl k s.isEmpty b n l.length m.length i.isEmpty && (!decide (k = 1) || uvalid s) && (!decide (k = 5 ∨ k = 6) || (decide (1 ≤ d) && ((vmays l (d - 1) && kmays m (d - 1)) && munkOk itk i (d - 1))))) && munkOk vtk u d
def kmay : KV → Int → Bool
  | .mk key has v u, d => (uvalid key && (if has then decide (1 ≤ d) && vmay v (d - 1) else vnone v)) && munkOk ktk u d
def vmays : List Val → Int → Bool
  | [], _ => true
  | x :: xs, d => (decide (1 ≤ d) && vmay x (d - 1)) && vmays xs d
def kmays : List KV → Int → Bool
  | [], _ => true
  | x :: xs, d => (decide (1 ≤ d) && kmay x (d - 1)) && kmays xs d
end
def vb : Val → Nat
  | .mk _ s _ _ l m i u => 20 + s.length + i.length + u.length + vsw l + ksw m
def kb : KV → Nat
  | .mk key _ v u => 20 + key.length + u.length + vw v
theorem vw_vb (x : Val) : vw x = vb x + 40 := by cases x; rw [vw, vb]; omega
theorem kw_kb (x : KV) : kw x = kb x + 20 := by cases x; rw [kw, kb]; omega
theorem vsw_len : ∀ (l : List Val), l.length * 60 ≤ vsw l
  | [] => by simp
  | x :: xs => by rw [vsw, List.length_cons]; have := vsw_len xs; have := vw_vb x; cases x; rw [vb] at this; omega
theorem ksw_len : ∀ (l : List KV), l.length * 40 ≤ ksw l
  | [] => by simp
  | x :: xs => by rw [ksw, List.length_cons]; have := ksw_len xs; have := kw_kb x; cases x; rw [kb] at this; omega
theorem wrec_raw {num ty : Nat} (h1 : 1 ≤ num) (h2 : num ≤ 536870911) (h3 : ty ≤ 5) (rest : List UInt8) : wrec (num : Int) (ty : Int) rest = vput (8 * num + ty) ++ rest := by
  unfold wrec
  rw [wtag_ok h1 h2 h3, if_neg (vput_ne _)]
theorem krec_parts (key : List UInt8) : (wbytesP 1 key).flatten = krec key := by
  unfold wbytesP krec
  split
  · rfl
  · rw [show (((1 : Nat) : Int)) = ((1 : Nat) : Int) from rfl]
    have := wrec_raw (num := 1) (ty := 2) (by omega) (by omega) (by omega) (vput key.length ++ key)
    simp only [List.flatten_cons, List.flatten_nil, List.append_nil]
    exact this
open Go.RowKit
mutual
theorem vout_le : ∀ x : Val, (vout x).length ≤ vb x
 | .mk k s b n l m i u => by
  rw [vout, vb, List.length_append]
  have h1 := vouts_le 1 (by omega) l
  have h2 := kouts_le 1 (by omega) m
  have hB : ∀ (num : Nat) (t : List UInt8), (rB num t).raw.length ≤ 20 + t.length := fun num t => by
   show (vput (8 * num + 2) ++ (vput t.length ++ t)).length ≤ _
   rw [List.length_append, List.length_append]
   have := vput_le10 (8 * num + 2)
   have := vput_le10 t.length
   omega
  have hN : ∀ (num t : Nat), (rN num t).raw.length ≤ 20 := fun num t => by
   show (vput (8 * num + 0) ++ vput t).length ≤ _
   rw [List.length_append]
   have := vput_le10 (8 * num + 0)
   have := vput_le10 t
   omega
  have hF : ∀ (num t : Nat), (rF num t).raw.length ≤ 20 := fun num t => by
   show (vput (8 * num + 1) ++ eight 8 t).length ≤ _
   rw [List.length_append, eight_len]
   have := vput_le10 (8 * num + 1)
   omega
  have : (vrec k s b n (vouts 1 l) (kouts 1 m) i).length ≤ 20 + s.length + i.length + vsw l + ksw m := by
   unfold vrec
   split
   ·have := hB k.toNat s; omega
   ·split
    ·have := hN 2 (if b then 1 else n); omega
    ·split
     ·have := hN 3 n; omega
     ·split
      ·have := hF 4 n; omega
      ·split
       ·have := hB 5 (vouts 1 l ++ i); rw [List.length_append] at this; omega
       ·split
        ·have := hB 6 (kouts 1 m ++ i); rw [List.length_append] at this; omega
        ·simp
  omega
theorem kout_le : ∀ x : KV, (kout x).length ≤ kb x
 | .mk key has v u => by
  rw [kout, kb, List.length_append, List.length_append]
  have h1 := vout_le v
  have h2 := vw_vb v
  have hB : ∀ (num : Nat) (t : List UInt8), (rB num t).raw.length ≤ 20 + t.length := fun num t => by
   show (vput (8 * num + 2) ++ (vput t.length ++ t)).length ≤ _
   rw [List.length_append, List.length_append]
   have := vput_le10 (8 * num + 2)
   have := vput_le10 t.length
   omega
  have h3 : (krec key).length ≤ 20 + key.length := by
   unfold krec
   split
   ·simp
   ·exact hB 1 key
  have h4 := hB 2 (vout v)
  cases has <;> simp <;> omega
theorem vouts_le : ∀ (num : Nat), num ≤ 536870911 → ∀ l : List Val, (vouts num l).length ≤ vsw l
 | num, hn, [] => by rw [vouts]; simp
 | num, hn, x :: xs => by
  rw [vouts, vsw, List.length_append]
  have h1 := vout_le x
  have h2 := vw_vb x
  have h3 := vouts_le num hn xs
  have h4 : (rB num (vout x)).raw.length ≤ 20 + (vout x).length := by
   show (vput (8 * num + 2) ++ (vput (vout x).length ++ vout x)).length ≤ _
   rw [List.length_append, List.length_append]
   have := vput_le10 (8 * num + 2)
   have := vput_le10 (vout x).length
   omega
  omega
theorem kouts_le : ∀ (num : Nat), num ≤ 536870911 → ∀ l : List KV, (kouts num l).length ≤ ksw l
 | num, hn, [] => by rw [kouts]; simp
 | num, hn, x :: xs => by
  rw [kouts, ksw, List.length_append]
  have h1 := kout_le x
  have h2 := kw_kb x
  have h3 := kouts_le num hn xs
  have h4 : (rB num (kout x)).raw.length ≤ 20 + (kout x).length := by
   show (vput (8 * num + 2) ++ (vput (kout x).length ++ kout x)).length ≤ _
   rw [List.length_append, List.length_append]
   have := vput_le10 (8 * num + 2)
   have := vput_le10 (kout x).length
   omega
  omega
end
def vmayD (x : Val) (d : Int) : Bool := decide (0 ≤ d) && vmay x d
def kmayD (x : KV) (d : Int) : Bool := decide (0 ≤ d) && kmay x d
theorem vmays_all (d : Int) : ∀ l : List Val, vmays l (d - 1) = l.all fun x => vmayD x (d - 2)
 | [] => by rw [vmays]; rfl
 | x :: xs => by
  rw [vmays, vmays_all d xs, List.all_cons, vmayD, show d - 1 - 1 = d - 2 by omega]
  congr 2
  congr 1
  exact propext ⟨fun h => by omega, fun h => by omega⟩
theorem kmays_all (d : Int) : ∀ l : List KV, kmays l (d - 1) = l.all fun x => kmayD x (d - 2)
 | [] => by rw [kmays]; rfl
 | x :: xs => by
  rw [kmays, kmays_all d xs, List.all_cons, kmayD, show d - 1 - 1 = d - 2 by omega]
  congr 2
  congr 1
  exact propext ⟨fun h => by omega, fun h => by omega⟩
end Go.Proofs.YtficgfemmijaaaaGreatDoor
