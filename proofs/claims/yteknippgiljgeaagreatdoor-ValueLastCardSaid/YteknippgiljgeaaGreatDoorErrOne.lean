/-
  The error that one wrap of a code is.
-/
import Derived.Test.YteknippgiljgeaaGreatDoorNums
import Derived.Test.YteknippgiljgeaaGreatDoorBlame
namespace Go.Proofs.YteknippgiljgeaaGreatDoor
open Go.RowKit

theorem vget_code {l : List UInt8} {p : Int} {c : Nat} (h : vget l p = .error c) : c = 9 ∨ c = 1 ∨ c = 4 := by
  have aux : ∀ f k m (l : List UInt8), vgetGo f k m l = .error c → c = 1 ∨ c = 4 := by
    intro f
    induction f with
    | zero => intro k m l h; simp [vgetGo] at h; omega
    | succ f ih =>
      intro k m l h
      cases l with
      | nil => simp [vgetGo] at h; omega
      | cons b r =>
        simp only [vgetGo] at h
        split at h
        · simp at h; omega
        · split at h
          · simp at h
          · exact ih _ _ _ h
  unfold vget at h
  split at h
  · simp at h; omega
  · split at h
    · simp at h
    · rename_i he
      simp at h; subst h
      have := aux _ _ _ _ he
      omega
/-- the error that Get makes -/
theorem at_isErr (w : World) (p : Int) (c : Int) : isErr (w.alloc (.cells #[.int .i64 p, .iface 54 (.int .i64 c)] 126)) [(true, p)] (.iface 124 (.pointer (some ⟨w.heap.size, 0, none⟩))) (codeV c) :=
  ⟨w.heap.size, codeV c, rfl, by simp, heap_alloc_new w _, rfl⟩
theorem root_code (c : Int) : isRoot (codeV c) := 
  ⟨c, rfl⟩
end Go.Proofs.YteknippgiljgeaaGreatDoor
