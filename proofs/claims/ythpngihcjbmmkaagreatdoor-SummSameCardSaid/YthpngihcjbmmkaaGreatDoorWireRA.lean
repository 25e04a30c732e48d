/-
  hygref2.GetVarint, with every answer that it can give.
-/
/-
  The reference's Next, over what its group answers.
-/
/-
  hyglaw4.plain, hyglaw4.Wrong.
-/
import Derived.Test.YthpngihcjbmmkaaGreatDoorKit
import Derived.Test.YthpngihcjbmmkaaGreatDoorMsgMath
import Derived.Test.YthpngihcjbmmkaaGreatDoorWireMath
import Derived.Test.YthpngihcjbmmkaaGreatDoorWireR5
import Derived.Test.YthpngihcjbmmkaaGreatDoorErrNew
/-
  The reference's fixed, Eight, Tag, Num, Fixed, Bytes, Fixeds, Varints.
-/
/-
  The reference's Fixeds, Varints.
-/
namespace Go.Proofs.YthpngihcjbmmkaaGreatDoor
open Go.RowKit

end Go.Proofs.YthpngihcjbmmkaaGreatDoor
namespace Go.Proofs.YthpngihcjbmmkaaGreatDoor
open Go.RowKit

end Go.Proofs.YthpngihcjbmmkaaGreatDoor
namespace Go.Proofs.YthpngihcjbmmkaaGreatDoor
open Go.RowKit

end Go.Proofs.YthpngihcjbmmkaaGreatDoor
/-
  The reference's Next: texts, groups.
-/
/-
  The reference's group and Next.
-/
/-
  The reference's Next and group, every place; All.
-/
namespace Go.Proofs.YthpngihcjbmmkaaGreatDoor
open Go.RowKit

structure RRow (w : World) (b : Nat) (cs : Array Value) : Prop where
  row : w.heap[b]? = some (.cells cs 78 (0, 0))
theorem RRow.below {w w' : World} {b : Nat} {cs : Array Value} (h : RRow w b cs) (hb : Below w.heap.size w w') : RRow w' b cs := ⟨(hb.block b (row_lt h.row)).trans h.row⟩
theorem RRow.set {w : World} {b : Nat} {cs : Array Value} (h : RRow w b cs) (j : Nat) (u : Value) : RRow (w.setCell ⟨b, j, none⟩ u) b (cs.setIfInBounds j u) := ⟨row_set h.row j u⟩
theorem RRow.other {w : World} {b b' : Nat} {cs : Array Value} (h : RRow w b cs) (hne : b ≠ b') (j : Nat) (u : Value) : RRow (w.setCell ⟨b', j, none⟩ u) b cs := ⟨(Below.heap_setCell w _ _ _ hne).trans h.row⟩
theorem RRow.new (w : World) (cs : Array Value) : RRow (w.alloc (.cells cs 78)) w.heap.size cs := ⟨heap_alloc_new w _⟩
theorem RRow.sets {w : World} {b : Nat} {c0 c1 c2 c3 c4 : Value} (h : RRow w b #[c0, c1, c2, c3, c4]) (v0 v1 v2 v3 v4 : Value) :
    RRow (((((w.setCell ⟨b, 0, none⟩ v0).setCell ⟨b, 1, none⟩ v1).setCell ⟨b, 2, none⟩ v2).setCell ⟨b, 3, none⟩ v3).setCell ⟨b, 4, none⟩ v4) b #[v0, v1, v2, v3, v4] :=
  ((((h.set 0 v0).set 1 v1).set 2 v2).set 3 v3).set 4 v4
/-- how Next stands when a tag was read -/
def TagIs (s : ByteArray) (p t j num ty q : Nat) : Prop := wv (s.data.toList.drop p) = .ok (t, j) ∧ num = t / 8 ∧ ty = t % 8 ∧ q = p + j ∧ q ≤ s.size ∧ t < 2 ^ 64
theorem TagIs.whd {s : ByteArray} {p t j num ty q : Nat} (h : TagIs s p t j num ty q) (h1 : 1 ≤ num) (h2 : num ≤ 536870911) (h3 : ty ≤ 5) : whd (s.data.toList.drop p) = .ok (num, ty, j) := by
  obtain ⟨hv, rfl, rfl, _⟩ := h
  exact whd_ok hv h1 h2 h3
theorem TagIs.get {s : ByteArray} {p t j num ty q : Nat} (h : TagIs s p t j num ty q) (hp : p ≤ s.size) : vget s.data.toList p = .ok (t, q) := by
  obtain ⟨hv, _, _, rfl, _⟩ := h
  exact vget_ok (by simpa using hp) hv
end Go.Proofs.YthpngihcjbmmkaaGreatDoor
namespace Go.Proofs.YthpngihcjbmmkaaGreatDoor
open Go.RowKit

end Go.Proofs.YthpngihcjbmmkaaGreatDoor
namespace Go.Proofs.YthpngihcjbmmkaaGreatDoor
open Go.RowKit

end Go.Proofs.YthpngihcjbmmkaaGreatDoor
namespace Go.Proofs.YthpngihcjbmmkaaGreatDoor
open Go.RowKit

end Go.Proofs.YthpngihcjbmmkaaGreatDoor
namespace Go.Proofs.YthpngihcjbmmkaaGreatDoor
open Go.RowKit

def CodeOk (c : Nat) : Prop := c = 1 ∨ c = 3 ∨ c = 4 ∨ c = 6
theorem whd_code {l : List UInt8} {c : Nat} (h : whd l = .error c) : CodeOk c := by
  unfold whd at h
  cases hv : wv l with
  | error c' =>
    rw [hv] at h
    simp only [Except.error.injEq] at h
    subst h
    rcases wv_err hv with h | h
    · exact .inl h
    · exact .inr (.inr (.inl h))
  | ok x =>
    obtain ⟨t, j⟩ := x
    rw [hv] at h
    dsimp only at h
    split at h
    · simp only [Except.error.injEq] at h
      exact .inr (.inl h.symm)
    · cases h
theorem wbd_code {l : List UInt8} {ty c : Nat} (h : wbd l ty = .error c) : CodeOk c := by
  unfold wbd at h
  split at h
  · split at h
    · simp only [Except.error.injEq] at h
      exact .inl h.symm
    · cases h
  · split at h
    · split at h
      · simp only [Except.error.injEq] at h
        exact .inl h.symm
      · cases h
    · cases hv : wv l with
      | error c' =>
        rw [hv] at h
        simp only [Except.error.injEq] at h
        subst h
        rcases wv_err hv with h | h
        · exact .inl h
        · exact .inr (.inr (.inl h))
      | ok x =>
        obtain ⟨t, j⟩ := x
        rw [hv] at h
        dsimp only at h
        split at h
        · cases h
        · split at h
          · simp only [Except.error.injEq] at h
            exact .inl h.symm
          · cases h
theorem wgr_code : ∀ (f : Nat) {l : List UInt8} {st : List Nat} {d : Int} {c : Nat}, wgr f l st d = .error c → CodeOk c
  | 0, _, _, _, c, h => by
    simp only [wgr, Except.error.injEq] at h
    exact .inl h.symm
  | f + 1, l, st, d, c, h => by
    rw [wgr] at h
    split at h
    · cases h
    · split at h
      · simp only [Except.error.injEq] at h
        exact .inr (.inr (.inr h.symm))
      · cases hh : whd l with
        | error c' =>
          rw [hh] at h
          simp only [Except.error.injEq] at h
          subst h
          exact whd_code hh
        | ok x =>
          obtain ⟨num, ty, j⟩ := x
          rw [hh] at h
          dsimp only at h
          split at h
          · exact wgr_code f (wadd_err h)
          · split at h
            · split at h
              · exact wgr_code f (wadd_err h)
              · simp only [Except.error.injEq] at h
                exact .inr (.inl h.symm)
            · cases hb : wbd (l.drop j) ty with
              | error c' =>
                rw [hb] at h
                simp only [Except.error.injEq] at h
                subst h
                exact wbd_code hb
              | ok y =>
                obtain ⟨n, t, k⟩ := y
                rw [hb] at h
                exact wgr_code f (wadd_err h)
theorem wnx_code {l : List UInt8} {d : Int} {c : Nat} (h : wnx l d = .error c) : CodeOk c := by
  cases hh : whd l with
  | error c' =>
    rw [wnx_no hh] at h
    simp only [Except.error.injEq] at h
    subst h
    exact whd_code hh
  | ok x =>
    obtain ⟨num, ty, j⟩ := x
    by_cases h4 : ty = 4
    · subst h4
      rw [wnx_end hh] at h
      simp only [Except.error.injEq] at h
      exact .inr (.inl h.symm)
    · by_cases h3 : ty = 3
      · subst h3
        rw [wnx_group hh] at h
        cases hg : wgroup (l.drop j) [num] d with
        | error c' =>
          rw [hg] at h
          simp only [Except.error.injEq] at h
          subst h
          exact wgr_code _ hg
        | ok k => rw [hg] at h; cases h
      · rw [wnx_body hh h3 h4] at h
        cases hb : wbd (l.drop j) ty with
        | error c' =>
          rw [hb] at h
          simp only [Except.error.injEq] at h
          subst h
          exact wbd_code hb
        | ok y => obtain ⟨n, t, k⟩ := y; rw [hb] at h; cases h
theorem wal_code : ∀ (f : Nat) {l : List UInt8} {d : Int} {c : Nat}, wal f l d = .error c → CodeOk c
  | 0, _, _, _, h => by cases h
  | f + 1, l, d, c, h => by
    rw [wal] at h
    split at h
    · cases h
    · cases hn : wnx l d with
      | error c' =>
        rw [hn] at h
        simp only [Except.error.injEq] at h
        subst h
        exact wnx_code hn
      | ok x =>
        obtain ⟨r, j⟩ := x
        rw [hn] at h
        dsimp only at h
        cases hw : wal f (l.drop j) d with
        | error c' =>
          rw [hw] at h
          simp only [Except.error.injEq] at h
          subst h
          exact wal_code f hw
        | ok rs => rw [hw] at h; cases h
end Go.Proofs.YthpngihcjbmmkaaGreatDoor

