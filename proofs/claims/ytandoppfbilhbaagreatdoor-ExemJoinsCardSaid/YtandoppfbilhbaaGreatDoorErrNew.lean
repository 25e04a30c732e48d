/-
  The error that one wrap of a code is.
-/
/-
  What code an error has.
-/
/-
  An error that a call has made: a new wrap of a code, at a place.
-/
import Derived.Test.YtandoppfbilhbaaGreatDoorNums
import Derived.Test.YtandoppfbilhbaaGreatDoorBlame
import Derived.Test.YtandoppfbilhbaaGreatDoorUpd
import Derived.Test.YtandoppfbilhbaaGreatDoorErrMk
namespace Go.Proofs.YtandoppfbilhbaaGreatDoor
open Go.RowKit

theorem vget_code {l : List UInt8} {p : Int} {c : Nat} (h : vget l p = .error c) : c = 9 ∨ c = 1 ∨ c = 4 := by
  have aux : ∀ f k m (l : List UInt8), vgetGo f k m l = .error c → c = 1 ∨ c = 4 := by
    intro f
    induction f with
    | zero => intro k m l h; simp [vgetGo] at h; omega
    | succ f ih =>
      intro k m l h
      cases l with
      | nil => simp [vgetGo] at h; omega
      | cons b r =>
        simp only [vgetGo] at h
        split at h
        · simp at h; omega
        · split at h
          · simp at h
          · exact ih _ _ _ h
  unfold vget at h
  split at h
  · simp at h; omega
  · split at h
    · simp at h
    · rename_i he
      simp at h; subst h
      have := aux _ _ _ _ he
      omega
/-- the error that Get makes -/
theorem at_isErr (w : World) (p : Int) (c : Int) : isErr (w.alloc (.cells #[.int .i64 p, .iface 42 (.int .i64 c)] 135)) [(true, p)] (.iface 132 (.pointer (some ⟨w.heap.size, 0, none⟩))) (codeV c) :=
  ⟨w.heap.size, codeV c, rfl, by simp, heap_alloc_new w _, rfl⟩
theorem root_code (c : Int) : isRoot (codeV c) := 
  ⟨c, rfl⟩
end Go.Proofs.YtandoppfbilhbaaGreatDoor
namespace Go.Proofs.YtandoppfbilhbaaGreatDoor
open Go.RowKit

theorem isErr_new {w : World} {a : Nat} {n c : Int} (h : w.heap[a]? = some (.cells #[.int .i64 n, .iface 42 (.int .i64 c)] 135 (0, 0))) : isErr w [(true, n)] (.iface 132 (.pointer (some ⟨a, 0, none⟩))) (codeV c) :=
  ⟨a, codeV c, rfl, row_lt h, h, rfl⟩
/-- the code of an error is c (of none: 0) -/
def CodeIs (w : World) (v : Value) (c : Int) : Prop := (v = .nilIface ∧ c = 0) ∨ ∃ ws, isErr w ws v (codeV c)
theorem CodeIs.below {w w' : World} {v : Value} {c : Int} (h : CodeIs w v c) (hb : Below w.heap.size w w') : CodeIs w' v c := by
  rcases h with h | ⟨ws, h⟩
  · exact .inl h
  · exact .inr ⟨ws, isErr_below hb h⟩
theorem codeIs_any (v : Value) (c : Int) (w : World) (h : CodeIs w v c) (hg : Glob w) : Calls Tryz.prog 25 #[v] w fun e w' => e = .returned (.int .i64 c) ∧ Below w.heap.size w w' := by
  rcases h with ⟨rfl, rfl⟩ | ⟨ws, h⟩
  · exact (code_nil w).mono fun e w' ⟨h1, h2⟩ => ⟨h1, by rw [← h2]; exact Below.refl _ _⟩
  · exact (code_any ws v (codeV c) w h (root_code c) hg).mono fun e w' ⟨h1, h2⟩ => ⟨h1, h2⟩
theorem isErr_upd {S : Nat → Prop} {w w' : World} {ws : List (Bool × Int)} {v r : Value} (hU : Upd S w w') (hS : ∀ k, S k → ∀ (b : Bool) (n : Int) (e : Value), w.heap[k]? ≠ some (.cells #[.int .i64 n, e] (wrapS b) (0, 0))) (h : isErr w ws v r) : isErr w' ws v r :=
  isErr_kept (fun k _ ho ⟨b, n, e, he⟩ => (hU.block k (row_lt ho) (fun hk => hS k hk b n e (he ▸ ho))).trans ho) hU.size h
end Go.Proofs.YtandoppfbilhbaaGreatDoor
namespace Go.Proofs.YtandoppfbilhbaaGreatDoor
open Go.RowKit

/-- such an error, told by the call's own end -/
theorem ErrNew.isErr {w : World} {n c : Int} {v : Value} {w' : World} (h : ErrNew w n c v w') : isErr w' [(true, n)] v (codeV c) := by
  obtain ⟨⟨a, _, rfl, hh⟩, _⟩ := h
  exact isErr_new hh
theorem ErrNew.codeIs {w : World} {n c : Int} {v : Value} {w' : World} (h : ErrNew w n c v w') : CodeIs w' v c := .inr ⟨_, h.isErr⟩
end Go.Proofs.YtandoppfbilhbaaGreatDoor
