/-
  The reference's Next, over what its group answers.
-/
/-
  The reference's Next: texts, groups.
-/
/-
  The reference's group and Next.
-/
/-
  The reference's Next and group, every place; All.
-/
import Derived.Test.YtbdbmkmebeemoaaWireRP
import Derived.Test.YtbdbmkmebeemoaaWireMath
import Derived.Test.YtbdbmkmebeemoaaWireR5
namespace Go.Proofs.Ytbdbmkmebeemoaa
open Go.RowKit

def RNextPost (s : ByteArray) (p : Nat) (d : Int) (w : World) (e : Ending) (w' : World) : Prop := match wnx (s.data.toList.drop p) d with
  | .error _ => e = .returned (.tuple #[rec0, .int .i64 0, .bool false]) ∧ Below w.heap.size w w'
  | .ok (r, j) => e = .returned (.tuple #[recV r, .int .i64 ((p + j : Nat) : Int), .bool true]) ∧ Below w.heap.size w w'
theorem rnext_no {s : ByteArray} {p c : Nat} {d : Int} {w w' : World} {V : Value} (h : wnx (s.data.toList.drop p) d = .error c) (hV : V = rec0) (hB : Below w.heap.size w w') : RNextPost s p d w (.returned (.tuple #[V, .int .i64 0, .bool false])) w' := by
  subst hV; unfold RNextPost; rw [h]; exact ⟨rfl, hB⟩
theorem rnext_ok {s : ByteArray} {p j : Nat} {d : Int} {r : Rec} {w w' : World} (h : wnx (s.data.toList.drop p) d = .ok (r, j)) {V : Value} {Q : Int} (hV : V = recV r) (hQ : Q = ((p + j : Nat) : Int)) (hB : Below w.heap.size w w') :
    RNextPost s p d w (.returned (.tuple #[V, .int .i64 Q, .bool true])) w' := by
  subst hV; subst hQ; unfold RNextPost; rw [h]; exact ⟨rfl, hB⟩
def RGroupPost (s : ByteArray) (p num : Nat) (d : Int) (w : World) (e : Ending) (w' : World) : Prop := match wgroup (s.data.toList.drop p) [num] d with
  | .error _ => (∃ x : Int, e = .returned (.tuple #[.int .i64 x, .bool false])) ∧ Below w.heap.size w w'
  | .ok k => e = .returned (.tuple #[.int .i64 ((p + k : Nat) : Int), .bool true]) ∧ Below w.heap.size w w'
theorem wnx_form {l : List UInt8} {d : Int} {t j : Nat} (h : wv l = .ok (t, j)) (hb : t / 8 < 1 ∨ 536870911 < t / 8 ∨ 5 < t % 8) : wnx l d = .error 3 := wnx_no (whd_form h hb)
/-- how Next stands when a tag was read -/
def TagIs (s : ByteArray) (p t j num ty q : Nat) : Prop := wv (s.data.toList.drop p) = .ok (t, j) ∧ num = t / 8 ∧ ty = t % 8 ∧ q = p + j ∧ q ≤ s.size ∧ t < 2 ^ 64
theorem TagIs.whd {s : ByteArray} {p t j num ty q : Nat} (h : TagIs s p t j num ty q) (h1 : 1 ≤ num) (h2 : num ≤ 536870911) (h3 : ty ≤ 5) : whd (s.data.toList.drop p) = .ok (num, ty, j) := by
  obtain ⟨hv, rfl, rfl, _⟩ := h
  exact whd_ok hv h1 h2 h3
theorem TagIs.get {s : ByteArray} {p t j num ty q : Nat} (h : TagIs s p t j num ty q) (hp : p ≤ s.size) : vget s.data.toList p = .ok (t, q) := by
  obtain ⟨hv, _, _, rfl, _⟩ := h
  exact vget_ok (by simpa using hp) hv
end Go.Proofs.Ytbdbmkmebeemoaa
namespace Go.Proofs.Ytbdbmkmebeemoaa
open Go.RowKit

end Go.Proofs.Ytbdbmkmebeemoaa
namespace Go.Proofs.Ytbdbmkmebeemoaa
open Go.RowKit

theorem og_step {l : List UInt8} {num : Nat} {d : Int} (h1 : 1 ≤ num) (h2 : num ≤ 536870911) : opt (wgroup l [num] d) = if d < 1 then none else match wv l with
    | .error _ => none
    | .ok (t, j) => if t % 8 = 4 then (if t / 8 = num then some j else none) else match opt (wnx l (d - 1)) with
      | none => none
      | some (_, k) => (opt (wgroup (l.drop k) [num] d)).map (k + ·) := by
  rw [← rgr_eq (f := l.length + 2) (by omega) h1 h2, rgr]
  split
  · rfl
  · cases hv : wv l with
    | error c => rfl
    | ok x =>
      obtain ⟨t, j⟩ := x
      dsimp only
      split
      · rfl
      · rw [rnx_eq (by omega)]
        cases hn : wnx l (d - 1) with
        | error c => rfl
        | ok y =>
          obtain ⟨r, k⟩ := y
          show (rgr (l.length + 1) (l.drop k) num d).map (k + ·) = _
          rw [rgr_eq (by simp; omega) h1 h2]
          rfl
theorem rg_no {s : ByteArray} {p num : Nat} {d : Int} {w w' : World} {x : Int} (h : opt (wgroup (s.data.toList.drop p) [num] d) = none) (hB : Below w.heap.size w w') : RGroupPost s p num d w (.returned (.tuple #[.int .i64 x, .bool false])) w' := by
  unfold RGroupPost
  cases hw : wgroup (s.data.toList.drop p) [num] d with
  | error c => exact ⟨⟨x, rfl⟩, hB⟩
  | ok k => rw [hw] at h; cases h
theorem rg_ok {s : ByteArray} {p num k : Nat} {d : Int} {w w' : World} {x : Int} (h : opt (wgroup (s.data.toList.drop p) [num] d) = some k) (hx : x = ((p + k : Nat) : Int)) (hB : Below w.heap.size w w') : RGroupPost s p num d w (.returned (.tuple #[.int .i64 x, .bool true])) w' := by
  subst hx
  unfold RGroupPost
  cases hw : wgroup (s.data.toList.drop p) [num] d with
  | error c => rw [hw] at h; cases h
  | ok k' =>
    rw [hw] at h
    simp only [opt, Option.some.injEq] at h
    subst h
    exact ⟨rfl, hB⟩
def OgRel (s : ByteArray) (p num : Nat) (d : Int) (q : Nat) : Prop := p ≤ q ∧ q ≤ s.size ∧ opt (wgroup (s.data.toList.drop p) [num] d) = (opt (wgroup (s.data.toList.drop q) [num] d)).map (q - p + ·)
theorem og_start {s : ByteArray} {p num : Nat} {d : Int} (hp : p ≤ s.size) : OgRel s p num d p := by
  refine ⟨Nat.le_refl _, hp, ?_⟩
  rw [Nat.sub_self]
  cases opt (wgroup (s.data.toList.drop p) [num] d) <;> simp
theorem og_none {s : ByteArray} {p num q : Nat} {d : Int} (h : OgRel s p num d q) (hn : opt (wgroup (s.data.toList.drop q) [num] d) = none) : opt (wgroup (s.data.toList.drop p) [num] d) = none := by
  rw [h.2.2, hn]; rfl
theorem og_next {s : ByteArray} {p num q k : Nat} {d : Int} (h : OgRel s p num d q) (hk : q + k ≤ s.size) (hn : opt (wgroup (s.data.toList.drop q) [num] d) = (opt (wgroup ((s.data.toList.drop q).drop k) [num] d)).map (k + ·)) : OgRel s p num d (q + k) := by
  obtain ⟨a, b, c⟩ := h
  refine ⟨by omega, hk, ?_⟩
  rw [c, hn, List.drop_drop]
  cases opt (wgroup (s.data.toList.drop (q + k)) [num] d) with
  | none => rfl
  | some z => simp; omega
end Go.Proofs.Ytbdbmkmebeemoaa
namespace Go.Proofs.Ytbdbmkmebeemoaa
open Go.RowKit

end Go.Proofs.Ytbdbmkmebeemoaa

