/-
 hygref.RoomValue, RoomKeys: are attributes little?
-/
import Derived.Test.YtbdbmkmebeemoaaGreatDoorAlikeB
namespace Go.Proofs.YtbdbmkmebeemoaaGreatDoor
open Go.RowKit

mutual
/-- what a value takes of the room -/
def vw : Val → Nat
 | .mk _ s _ _ l m i u => 60 + s.length + i.length + u.length + vsw l + ksw m
def kw : KV → Nat
 | .mk key _ v u => 40 + key.length + u.length + vw v
def vsw : List Val → Nat
 | [] => 0
 | x :: xs => vw x + vsw xs
def ksw : List KV → Nat
 | [] => 0
 | x :: xs => kw x + ksw xs
end
mutual
/-- no text of it is longer than a text can be -/
def vfit : Val → Prop
 | .mk k s _ n l m i u => (-9223372036854775808 ≤ k ∧ k ≤ 9223372036854775807) ∧ n < 18446744073709551616 ∧ s.length ≤ 9223372036854775807 ∧ i.length ≤ 9223372036854775807 ∧ u.length ≤ 9223372036854775807 ∧ vsfit l ∧ ksfit m
def kfit : KV → Prop
 | .mk key _ v u => key.length ≤ 9223372036854775807 ∧ u.length ≤ 9223372036854775807 ∧ vfit v
def vsfit : List Val → Prop
 | [] => True
 | x :: xs => vfit x ∧ vsfit xs
def ksfit : List KV → Prop
 | [] => True
 | x :: xs => kfit x ∧ ksfit xs
end
theorem ksfit_at : ∀ {l : List KV}, ksfit l → ∀ x ∈ l, kfit x
 | [], _, x, hx => by cases hx
 | y :: ys, h, x, hx => by
  rw [ksfit] at h
  rcases List.mem_cons.1 hx with h1 | h1
  ·exact h1 ▸ h.1
  ·exact ksfit_at h.2 x h1
theorem ksw_app : ∀ (a b : List KV), ksw (a ++ b) = ksw a + ksw b
 | [], b => by rw [ksw]; simp
 | x :: a, b => by rw [List.cons_append, ksw, ksw, ksw_app a b]; omega
theorem ksw_one (x : KV) : ksw [x] = kw x := by rw [ksw, ksw]; rfl
/-- what is left of the room: -1, or no more than was, less the weight -/
def RoomOk (a : Int) (n : Nat) (r : Int) : Prop := r = -1 ∨ 0 ≤ r ∧ r + (n : Int) ≤ a
theorem RoomOk.then {a b c : Int} {n m : Nat} (h : RoomOk a n b) (g : RoomOk b m c) : RoomOk a (n + m) c := by
 unfold RoomOk at *
 omega
theorem RoomOk.le {a b : Int} {n : Nat} (h : RoomOk a n b) (ha : -1 ≤ a ∧ a ≤ 1000000) : -1 ≤ b ∧ b ≤ 1000000 := by
 unfold RoomOk at h
 omega
end Go.Proofs.YtbdbmkmebeemoaaGreatDoor

