/-
  Texts behind their lengths; a Builder, made.
-/
import Derived.Test.YtdokbooggbiciaaDoorTextsSame
import Derived.Test.YtdokbooggbiciaaDoorBuilder
import Derived.Test.YtdokbooggbiciaaDoorSeqMath
import Derived.Test.YtdokbooggbiciaaDoorStrict
import Derived.Laws.OwnMore
namespace Go.Proofs.YtdokbooggbiciaaDoor
open Go.RowKit

theorem Tryd.elStr : Elem Tryd.prog 22 9 (.string ⟨#[]⟩) 1 16 := ⟨Tryd.underlying22, by kernel_rfl, by decide⟩
theorem str_size (t : List UInt8) : (⟨t.toArray⟩ : ByteArray).size = t.length := by simp [ByteArray.size]
theorem str_data (t : List UInt8) : (⟨t.toArray⟩ : ByteArray).data.toList = t := by simp
theorem dstepd {a b c : World} (h1 : Below a.heap.size a b) (h2 : Below b.heap.size b c) : Below a.heap.size a c := h1.trans (h2.mono h1.size)
/-- a text behind its length; texts so -/
def encT (t : List UInt8) : List UInt8 := vput t.length ++ t
def encs (D : List (List UInt8)) : List UInt8 := D.flatMap encT
theorem encs_snoc (D : List (List UInt8)) (t : List UInt8) : encs (D ++ [t]) = encs D ++ vput t.length ++ t := by simp [encs, encT]
theorem encs_append (D E : List (List UInt8)) : encs (D ++ E) = encs D ++ encs E := by simp [encs]
theorem encs_take {D : List (List UInt8)} {j : Nat} (h : j < D.length) : encs (D.take (j + 1)) = encs (D.take j) ++ vput D[j].length ++ D[j] := by rw [List.take_succ_eq_append_getElem h, encs_snoc]
theorem encs_take_le (D : List (List UInt8)) (j : Nat) : (encs (D.take j)).length ≤ (encs D).length := by
  conv => rhs; rw [← List.take_append_drop j D]
  rw [encs_append, List.length_append]; omega
theorem encs_mem {D : List (List UInt8)} {t : List UInt8} (h : t ∈ D) : t.length + 1 ≤ (encs D).length := by
  obtain ⟨a, b, rfl⟩ := List.append_of_mem h
  have h1 := (vput_length t.length).1
  have e : encs (a ++ t :: b) = encs a ++ (vput t.length ++ (t ++ encs b)) := by simp [encs, encT]
  rw [e]
  simp only [List.length_append]
  omega
theorem encs_length (D : List (List UInt8)) : D.length ≤ (encs D).length := by
  induction D with
  | nil => simp [encs]
  | cons t D ih =>
    have h1 := (vput_length t.length).1
    have e : encs (t :: D) = vput t.length ++ (t ++ encs D) := by simp [encs, encT]
    rw [e]
    simp only [List.length_append, List.length_cons]
    omega
theorem put_d (n : Nat) (w : World) (hn : n < 2^64) : Calls Tryd.prog 21 #[.int .u64 n] w fun e w' => e = .returned (.string ⟨(vput n).toArray⟩) ∧ Below w.heap.size w w' := put_any n w (put_start hn)
theorem build_new_d (w : World) : BuildIn w.heap.size w.heap.size [] (w.alloc (.cells #[.pointer none, .slice none 0 0] 51)) :=
  .inl ⟨Nat.le_refl _, _, heap_alloc_new w _, ⟨rfl, .inl ⟨rfl, rfl⟩⟩, by simp [Value.ownBlock]⟩
theorem BuildIn.belowd {B b : Nat} {l : List UInt8} {w w' : World} (h : BuildIn B b l w) (hb : Below w.heap.size w w') : BuildIn B b l w' := by
  have key : ∀ p, Lib.BuilderAt 51 5 B b p (Lib.byteCells l) w → Lib.BuilderAt 51 5 B b p (Lib.byteCells l) w' := fun p ⟨h1, v, h2, h3, h4⟩ =>
    ⟨h1, v, (hb.block b (row_lt h2)).trans h2, (Upd.of_new (S := fun _ => False) hb).own h3 (fun _ _ h => h), h4⟩
  rcases h with h | h
  · exact .inl (key _ h)
  · exact .inr (key _ h)
theorem vget_mid {l a b : List UInt8} {n : Nat} (hn : n < 2 ^ 64) (e : l = a ++ (vput n ++ b)) : vget l (a.length : Int) = .ok (n, a.length + (vput n).length) := by
  subst e
  rw [← List.append_assoc]
  exact vget_vput _ _ hn
theorem encs_split {D : List (List UInt8)} {j : Nat} (h : j < D.length) : encs D = encs (D.take j) ++ (vput D[j].length ++ (D[j] ++ encs (D.drop (j + 1)))) := by
  have e : D = D.take j ++ D[j] :: D.drop (j + 1) := by rw [List.getElem_cons_drop, List.take_append_drop]
  conv => lhs; rw [e]
  rw [encs_append]
  have e2 : encs (D[j] :: D.drop (j + 1)) = vput D[j].length ++ (D[j] ++ encs (D.drop (j + 1))) := by unfold encs; rw [List.flatMap_cons]; unfold encT; rw [List.append_assoc]
  rw [e2]
theorem encs_front : ∀ (D D' : List (List UInt8)) (r : List UInt8), D.length = D'.length → (encs D).length < 2 ^ 63 → (encs D').length < 2 ^ 63 → encs D' = encs D ++ r → D' = D ∧ r = []
  | [], [], r, _, _, _, h => ⟨rfl, by simpa [encs] using h.symm⟩
  | [], _ :: _, r, h, _, _, _ => by simp at h
  | _ :: _, [], r, h, _, _, _ => by simp at h
  | t :: T, t' :: T', r, hl, h1, h2, h => by
    have e1 : encs (t :: T) = vput t.length ++ (t ++ encs T) := by unfold encs; rw [List.flatMap_cons]; unfold encT; rw [List.append_assoc]
    have e2 : encs (t' :: T') = vput t'.length ++ (t' ++ encs T') := by unfold encs; rw [List.flatMap_cons]; unfold encT; rw [List.append_assoc]
    rw [e1] at h1 h
    rw [e2] at h2 h
    simp only [List.length_append] at h1 h2
    have v1 := vget_mid (l := vput t'.length ++ (t' ++ encs T')) (a := []) (b := t' ++ encs T') (n := t'.length) (by omega) rfl
    have v2 := vget_mid (l := vput t.length ++ (t ++ encs T) ++ r) (a := []) (b := (t ++ encs T) ++ r) (n := t.length) (by omega) (by simp)
    rw [h, v2] at v1
    simp only [Except.ok.injEq, Prod.mk.injEq] at v1
    have hn : t.length = t'.length := v1.1
    rw [← hn, List.append_assoc, List.append_cancel_left_eq, List.append_assoc] at h
    obtain ⟨h3, h4⟩ := List.append_inj h hn.symm
    obtain ⟨h5, h6⟩ := encs_front T T' r (by simpa using hl) (by omega) (by omega) h4
    exact ⟨by rw [h3, h5], h6⟩
end Go.Proofs.YtdokbooggbiciaaDoor
