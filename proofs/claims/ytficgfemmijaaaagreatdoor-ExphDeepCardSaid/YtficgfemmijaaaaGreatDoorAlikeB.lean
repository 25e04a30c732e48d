/-
  Attributes alike or not; what is read is no longer than what it is read from.
-/
import Derived.Test.YtficgfemmijaaaaGreatDoorVal
import Derived.Test.YtficgfemmijaaaaGreatDoorValTake
import Derived.Test.YtficgfemmijaaaaGreatDoorMsgMath
import Derived.Test.YtficgfemmijaaaaGreatDoorKit
import Derived.Test.YtficgfemmijaaaaGreatDoorWireMath
import Derived.Test.YtficgfemmijaaaaGreatDoorWireR5
import Derived.Test.YtficgfemmijaaaaGreatDoorErrNew
import Derived.Test.YtficgfemmijaaaaGreatDoorMsgRead
import Derived.Test.YtficgfemmijaaaaGreatDoorGet
import Derived.Test.YtficgfemmijaaaaGreatDoorMsgWrite
import Derived.Test.YtficgfemmijaaaaGreatDoorOrd
namespace Go.Proofs.YtficgfemmijaaaaGreatDoor
open Go.RowKit
mutual
def vlim : Val → Prop
  | .mk _ _ _ _ l m _ _ => l.length ≤ 9223372036854775807 ∧ m.length ≤ 9223372036854775807 ∧ vslim l ∧ kslim m
def klim : KV → Prop
  | .mk _ _ v _ => vlim v
def vslim : List Val → Prop
  | [] => True
  | x :: xs => vlim x ∧ vslim xs
def kslim : List KV → Prop
  | [] => True
  | x :: xs => klim x ∧ kslim xs
end
noncomputable def alike {α : Type} (x y : α) : Bool := @decide (x = y) (Classical.propDecidable _)
open Go.RowKit
open Go.RowKit
def CRels {α : Type} (C : Cel α) (w : World) (P : Nat → Prop) (l : List α) (lo : Option Addr) : Prop := ∀ j (hj : j < l.length), ∃ g off cs, lo = some ⟨g, off, none⟩ ∧ P g ∧ g < w.heap.size ∧ Cells w g (off + C.size * j) cs ∧ C.R w P l[j] cs
theorem CRels.upd {α : Type} {C : Cel α} {S : Nat → Prop} {w w' : World} {P Q : Nat → Prop} (hu : Upd S w w') (hs : ∀ k, P k → ¬ S k) (hq : ∀ k, P k → Q k) {l : List α} {lo : Option Addr} (h : CRels C w P l lo) : CRels C w' Q l lo := fun j hj => by
  obtain ⟨g, off, cs, h1, h2, h3, h4, h5⟩ := h j hj
  exact ⟨g, off, cs, h1, hq g h2, Nat.lt_of_lt_of_le h3 hu.size, h4.upd hu h3 (hs g h2), C.upd hu hs hq h5⟩
theorem CRels.lt {α : Type} {C : Cel α} {w : World} {P : Nat → Prop} {l : List α} {lo : Option Addr} (h : CRels C w P l lo) : CRels C w (fun k => P k ∧ k < w.heap.size) l lo := fun j hj => by
  obtain ⟨g, off, cs, h1, h2, h3, h4, h5⟩ := h j hj
  exact ⟨g, off, cs, h1, ⟨h2, h3⟩, h3, h4, C.lt h5⟩
theorem flat_len {css : List (List Value)} {n : Nat} (h : ∀ c ∈ css, c.length = n) : css.flatten.length = n * css.length := by
  induction css with
  | nil => rfl
  | cons c l ih =>
    rw [List.flatten_cons, List.length_append, ih (fun x hx => h x (List.mem_cons_of_mem _ hx)), h c (List.mem_cons_self ..), List.length_cons, Nat.mul_add, Nat.mul_one, Nat.add_comm]
theorem flat_at {css : List (List Value)} {n : Nat} (h : ∀ c ∈ css, c.length = n) (j i : Nat) (hj : j < css.length) (hi : i < n) : css.flatten[n * j + i]? = css[j][i]? := by
  induction css generalizing j with
  | nil => simp at hj
  | cons c l ih =>
    have hc := h c (List.mem_cons_self ..)
    rw [List.flatten_cons]
    cases j with
    | zero =>
      rw [Nat.mul_zero, Nat.zero_add, List.getElem?_append_left (by omega)]
      rfl
    | succ j =>
      have e : n * (j + 1) + i = n * j + i + n := by rw [Nat.mul_add, Nat.mul_one]; omega
      rw [e, List.getElem?_append_right (by omega), hc, Nat.add_sub_cancel]
      exact ih (fun x hx => h x (List.mem_cons_of_mem _ hx)) j (by simpa using hj)
theorem CRels.own {α : Type} {C : Cel α} {w : World} {base : Nat} {T : TypeId} {lo : Option Addr} {cap : Nat} {xs : List α} {css : List (List Value)} {P : Nat → Prop} (ho : w.ownsRow base T C.size (.slice lo xs.length cap) xs.length css.flatten) (hl : css.length = xs.length) (hr : ∀ j (h1 : j < xs.length) (h2 : j < css.length), C.R w P xs[j] css[j]) (hP : ∀ k, (Value.slice lo xs.length cap).ownBlock = some k → P k) : CRels C w P xs lo := fun j hj => by
  obtain ⟨g, cg, hv, hb, hg, _, _⟩ := own_some ho (by omega)
  simp only [Value.slice.injEq] at hv
  obtain ⟨rfl, _, rfl⟩ := hv
  have hln : ∀ c ∈ css, c.length = C.size := fun c hc => by
    obtain ⟨i, hi, rfl⟩ := List.getElem_of_mem hc
    exact C.len (hr i (by omega) hi)
  have hfl := flat_len hln
  refine ⟨g, 0, css[j], rfl, hP g rfl, hg, fun i hi => ?_, hr j hj (by omega)⟩
  have hcl := hln css[j] (List.getElem_mem _)
  have hb2 : C.size * j + i < css.flatten.length := by
    rw [hfl]
    have h1 : C.size * (j + 1) ≤ C.size * css.length := Nat.mul_le_mul_left _ (by omega)
    rw [Nat.mul_add, Nat.mul_one] at h1
    omega
  rw [Nat.zero_add, ho.cellAt (C.size * j + i) (by rw [← hl, Nat.mul_comm css.length, ← hfl]; omega), flat_at hln j i (by omega) (by omega), List.getElem?_eq_getElem hi]
theorem CRels.of_ls {α : Type} {C : Cel α} {T : TypeId} {base : Nat} {lo : Option Addr} {cap : Nat} {xs : List α} {P : Nat → Prop} {w : World} (h : LsAt C T base (.slice lo xs.length cap) xs P w) : CRels C w P xs lo := by
  obtain ⟨css, Q, h1, h2, h3, _, rfl⟩ := h
  exact CRels.own h1 h2 (fun j a b => C.upd (Upd.refl (fun _ => False) w) (fun _ _ h => h) (fun k hk => .inr hk) (h3 j a b)) (fun k hk => .inl hk)
open Go.RowKit
mutual
def vw : Val → Nat
 | .mk _ s _ _ l m i u => 60 + s.length + i.length + u.length + vsw l + ksw m
def kw : KV → Nat
 | .mk key _ v u => 40 + key.length + u.length + vw v
def vsw : List Val → Nat
 | [] => 0
 | x :: xs => vw x + vsw xs
def ksw : List KV → Nat
 | [] => 0
 | x :: xs => kw x + ksw xs
end
mutual
def vfit : Val → Prop
 | .mk k s _ n l m i u => (-9223372036854775808 ≤ k ∧ k ≤ 9223372036854775807) ∧ n < 18446744073709551616 ∧ s.length ≤ 9223372036854775807 ∧ i.length ≤ 9223372036854775807 ∧ u.length ≤ 9223372036854775807 ∧ vsfit l ∧ ksfit m
def kfit : KV → Prop
 | .mk key _ v u => key.length ≤ 9223372036854775807 ∧ u.length ≤ 9223372036854775807 ∧ vfit v
def vsfit : List Val → Prop
 | [] => True
 | x :: xs => vfit x ∧ vsfit xs
def ksfit : List KV → Prop
 | [] => True
 | x :: xs => kfit x ∧ ksfit xs
end
end Go.Proofs.YtficgfemmijaaaaGreatDoor
