/-
  hygref2.GetVarint, its two ways.
-/
import Derived.Test.YtdokbooggbiciaaDoorRefGet
namespace Go.Proofs.YtdokbooggbiciaaDoor
open Go.RowKit

theorem rg_ok (s : ByteArray) (p : Int) (w : World) (hs : s.size ≤ 1000000000) {n q : Nat} (h : vget s.data.toList p = .ok (n, q)) :
    Calls Tryd.prog 18 #[.string s, .int .i64 p] w fun e w' => e = .returned (.tuple #[.int .u64 n, .int .i64 q, .int .i64 0]) ∧ w = w' :=
  (refget_any s p w (by omega)).mono fun e w' ⟨h1, h2⟩ => by rw [h] at h2; exact ⟨h2, h1⟩
theorem rg_err (s : ByteArray) (p : Int) (w : World) (hs : s.size ≤ 1000000000) {c : Nat} (h : vget s.data.toList p = .error c) :
    Calls Tryd.prog 18 #[.string s, .int .i64 p] w fun e w' => e = .returned (.tuple #[.int .u64 0, .int .i64 0, .int .i64 c]) ∧ w = w' :=
  (refget_any s p w (by omega)).mono fun e w' ⟨h1, h2⟩ => by rw [h] at h2; exact ⟨h2, h1⟩
theorem vget_codes {l : List UInt8} {p : Int} {c : Nat} (h : vget l p = .error c) : c ≠ 0 := by
  have key : ∀ (f k m : Nat) (l : List UInt8) (c : Nat), vgetGo f k m l = .error c → c ≠ 0 := by
    intro f
    induction f with
    | zero => intro k m l c h; simp [vgetGo] at h; omega
    | succ f ih =>
      intro k m l c h
      cases l with
      | nil => simp [vgetGo] at h; omega
      | cons a t =>
        rw [vgetGo] at h
        split at h
        · simp at h; omega
        · split at h
          · simp at h
          · exact ih _ _ _ _ h
  unfold vget at h
  split at h
  · simp at h; omega
  · split at h
    · simp at h
    · rename_i c' hc
      simp at h
      subst h
      exact key _ _ _ _ _ hc
end Go.Proofs.YtdokbooggbiciaaDoor
