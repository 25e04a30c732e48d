/-
  hygref2.GetVarint, with every answer that it can give.
-/
import Derived.Test.YtjbingoliffjiaaKit
import Derived.Test.YtjbingoliffjiaaMsgMath
import Derived.Test.YtjbingoliffjiaaWireMath
import Derived.Test.YtjbingoliffjiaaWireR5
import Derived.Test.YtjbingoliffjiaaErrNew
namespace Go.Proofs.Ytjbingoliffjiaa
open Go.RowKit
open Go.RowKit
open Go.RowKit
open Go.RowKit
def TagIs (s : ByteArray) (p t j num ty q : Nat) : Prop := wv (s.data.toList.drop p) = .ok (t, j) ∧ num = t / 8 ∧ ty = t % 8 ∧ q = p + j ∧ q ≤ s.size ∧ t < 2 ^ 64
theorem TagIs.whd {s : ByteArray} {p t j num ty q : Nat} (h : TagIs s p t j num ty q) (h1 : 1 ≤ num) (h2 : num ≤ 536870911) (h3 : ty ≤ 5) : whd (s.data.toList.drop p) = .ok (num, ty, j) := by
 obtain ⟨hv, rfl, rfl, _⟩ := h
 exact whd_ok hv h1 h2 h3
theorem TagIs.get {s : ByteArray} {p t j num ty q : Nat} (h : TagIs s p t j num ty q) (hp : p ≤ s.size) : vget s.data.toList p = .ok (t, q) := by
 obtain ⟨hv, _, _, rfl, _⟩ := h
 exact vget_ok (by simpa using hp) hv
open Go.RowKit
open Go.RowKit
open Go.RowKit
open Go.RowKit
def CodeOk (c : Nat) : Prop := c = 1 ∨ c = 3 ∨ c = 4 ∨ c = 6
end Go.Proofs.Ytjbingoliffjiaa
