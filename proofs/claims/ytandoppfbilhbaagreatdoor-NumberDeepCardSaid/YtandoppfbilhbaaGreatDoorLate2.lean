/-
  What the other texts leave out here, for numbers.
-/
import Derived.Test.YtandoppfbilhbaaGreatDoorLate
import Derived.Test.YtandoppfbilhbaaGreatDoorVal
import Derived.Test.YtandoppfbilhbaaGreatDoorFx
import Derived.Test.YtandoppfbilhbaaGreatDoorFld
import Derived.Test.YtandoppfbilhbaaGreatDoorExBack
namespace Go.Proofs.YtandoppfbilhbaaGreatDoor
open Go.RowKit Go.Extern.Stop Go.Stop Go.Extern

/-- a block of eight cells, of eleven -/
theorem row8 {w : World} {g : Nat} {c0 c1 c2 c3 c4 c5 c6 c7 : Value} {T : TypeId} {fr : Nat × Nat} (h : w.heap[g]? = some (.cells #[c0, c1, c2, c3, c4, c5, c6, c7] T fr)) : w.cell? ⟨g, 0, none⟩ = some c0 ∧ w.cell? ⟨g, 1, none⟩ = some c1 ∧ w.cell? ⟨g, 2, none⟩ = some c2 ∧ w.cell? ⟨g, 3, none⟩ = some c3 ∧ w.cell? ⟨g, 4, none⟩ = some c4 ∧ w.cell? ⟨g, 5, none⟩ = some c5 ∧ w.cell? ⟨g, 6, none⟩ = some c6 ∧ w.cell? ⟨g, 7, none⟩ = some c7 := ⟨row_cell h (j := 0) rfl, row_cell h (j := 1) rfl, row_cell h (j := 2) rfl, row_cell h (j := 3) rfl, row_cell h (j := 4) rfl, row_cell h (j := 5) rfl, row_cell h (j := 6) rfl, row_cell h (j := 7) rfl⟩
theorem var_out (num n : Nat) : ((var32F num).out n).flatMap Rec.raw = if n = 0 then [] else (rN num n).raw := by
  show (if n = 0 then [] else [rN num n]).flatMap Rec.raw = _
  split
  · rfl
  · simp
theorem var32F_free (num : Nat) : (var32F num).Free := fun _ _ _ _ _ _ => ⟨_, rfl⟩
theorem kvF_free (num : Nat) : (listF num kvS).Free := fun d s s' r y hy => by
  cases h : kread 1000001 r.s (d - 1) with
  | error c => exact absurd ((kv_no (num := num) (l := s) h).symm.trans hy) (by intro e; cases e)
  | ok x => exact ⟨_, kv_ok h⟩
/-- each field of what was read -/
theorem Fld.and_fst {A B : Fld} (hap : A.Apart B) {d : Int} {rs : List Rec} {a a' : A.σ} {b b' : B.σ} (h : (A.and B).rd d (a, b) rs = .ok (a', b')) : A.rd d a rs = .ok a' ∧ B.rd d b rs = .ok b' := by
  have h1 := Fld.and_rd hap d rs a b
  cases ha : A.rd d a rs with
  | error c => rw [ha] at h1; obtain ⟨c, h1⟩ := h1; rw [h1] at h; cases h
  | ok a1 =>
    cases hb : B.rd d b rs with
    | error c => rw [ha, hb] at h1; obtain ⟨c, h1⟩ := h1; rw [h1] at h; cases h
    | ok b1 =>
      rw [ha, hb] at h1
      have h1 : (A.and B).rd d (a, b) rs = .ok (a1, b1) := h1
      rw [h1] at h
      have h := Except.ok.inj h
      exact ⟨by rw [(Prod.mk.inj h).1], by rw [(Prod.mk.inj h).2]⟩
theorem kv_count {num : Nat} {d : Int} : ∀ (rs : List Rec) (s y : List KV), mfold (listTk num) (listStep kvS d) s rs = .ok y → y.length = s.length + (rs.filter (listTk num)).length
  | [], s, y, h => by simp only [mfold, Except.ok.injEq] at h; subst h; simp
  | r :: rs, s, y, h => by
    rw [mfold] at h
    rw [List.filter_cons]
    split at h
    · rename_i hk
      rw [if_pos hk]
      split at h
      · cases h
      · rename_i s1 hs
        have := kv_count rs s1 y h
        unfold listStep at hs
        split at hs
        · cases hs
        · simp only [Except.ok.injEq] at hs
          subst hs
          rw [List.length_append] at this
          simp only [List.length_cons, List.length_nil] at this ⊢
          omega
    · rename_i hk
      rw [if_neg hk]
      exact kv_count rs s y h
/-- one behind the other -/
theorem fld_join {F : Fld} (hf : F.Free) {s t u v : List UInt8} {x y : F.σ} {d : Int} (h1 : mread F.tk (F.step d) F.z s d = .ok (x, u)) (h2 : mread F.tk (F.step d) F.z t d = .ok (y, v)) : ∃ z rs ts, mread F.tk (F.step d) F.z (s ++ t) d = .ok (z, u ++ v) ∧ F.rd d F.z rs = .ok x ∧ F.rd d F.z ts = .ok y ∧ F.rd d F.z (rs ++ ts) = .ok z := by
  unfold mread at h1 h2
  split at h1
  · cases h1
  · rename_i h0
    rw [if_neg h0] at h2
    cases hw1 : wall s d with
    | error c => rw [hw1] at h1; cases h1
    | ok rs =>
      cases hw2 : wall t d with
      | error c => rw [hw2] at h2; cases h2
      | ok ts =>
        rw [hw1] at h1
        rw [hw2] at h2
        dsimp only at h1 h2
        cases hf1 : mfold F.tk (F.step d) F.z rs with
        | error c => rw [hf1] at h1; cases h1
        | ok x1 =>
          cases hf2 : mfold F.tk (F.step d) F.z ts with
          | error c => rw [hf2] at h2; cases h2
          | ok y1 =>
            rw [hf1] at h1
            rw [hf2] at h2
            simp only [Except.ok.injEq, Prod.mk.injEq] at h1 h2
            obtain ⟨rfl, rfl⟩ := h1
            obtain ⟨rfl, rfl⟩ := h2
            obtain ⟨z, hz⟩ := hf.rd ts F.z x1 hf2
            have hz : mfold F.tk (F.step d) x1 ts = .ok z := hz
            have hz2 : mfold F.tk (F.step d) F.z (rs ++ ts) = .ok z := by rw [mfold_append, hf1]; exact hz
            refine ⟨z, rs, ts, ?_, hf1, hf2, hz2⟩
            unfold mread
            rw [if_neg h0, wall_append _ t (Nat.le_refl _) hw1, hw2]
            dsimp only
            rw [hz2]
            dsimp only
            rw [munk_append]
theorem var32F_code (num : Nat) : (var32F num).Code := fun d s r c h => by
  have h : (Except.ok (r.n % 4294967296) : Except Nat Nat) = .error c := h
  cases h
theorem numF_free (num : Nat) : (numF num).Free := fun _ _ _ _ _ _ => ⟨_, rfl⟩
theorem kindF_free (a b : Nat) : (kindF a b).Free := fun _ _ _ _ _ _ => ⟨_, rfl⟩
theorem Fld.wrap_fst {A B : Fld} (hap : A.Apart B) {pre post : A.σ → List Rec} {d : Int} {rs : List Rec} {a a' : A.σ} {b b' : B.σ} (h : (A.wrap B pre post).rd d (a, b) rs = .ok (a', b')) : A.rd d a rs = .ok a' ∧ B.rd d b rs = .ok b' := Fld.and_fst hap h
def kindStep (b : Nat) (_ : Int × Nat) (r : Rec) : Except Nat (Int × Nat) := .ok (if r.num = b then 2 else 1, r.n)
/-- the last number of a kind counts -/
theorem kind_from {tk : Rec → Bool} {b : Nat} : ∀ (rs : List Rec) (s y : Int × Nat), mfold (σ := Int × Nat) tk (kindStep b) s rs = .ok y → (y = s ∧ mfold (σ := Int × Nat) tk (kindStep b) (0, 0) rs = .ok (0, 0)) ∨ (0 < y.1 ∧ mfold (σ := Int × Nat) tk (kindStep b) (0, 0) rs = .ok y)
  | [], s, y, h => by
    rw [mfold] at h
    exact .inl ⟨(Except.ok.inj h).symm, rfl⟩
  | r :: rs, s, y, h => by
    rw [mfold] at h ⊢
    cases hk : tk r with
    | false =>
      rw [hk, if_neg (by simp)] at h
      rw [if_neg (by simp)]
      exact kind_from rs s y h
    | true =>
      rw [hk, if_pos rfl] at h
      rw [if_pos rfl]
      have h : mfold (σ := Int × Nat) tk (kindStep b) (if r.num = b then 2 else 1, r.n) rs = .ok y := h
      refine .inr ⟨?_, h⟩
      rcases kind_from rs _ y h with ⟨h1, _⟩ | ⟨h1, _⟩
      · rw [h1]; show 0 < (if r.num = b then (2 : Int) else 1); split <;> decide
      · exact h1
theorem kind_join {a b : Nat} {d : Int} {rs ts : List Rec} {x y z : Int × Nat} (h1 : (kindF a b).rd d ((0 : Int), (0 : Nat)) rs = .ok x) (h2 : (kindF a b).rd d ((0 : Int), (0 : Nat)) ts = .ok y) (h3 : (kindF a b).rd d ((0 : Int), (0 : Nat)) (rs ++ ts) = .ok z) : (y.1 = 0 ∧ z = x) ∨ (0 < y.1 ∧ z = y) := by
  have h1 : mfold (σ := Int × Nat) (kindF a b).tk (kindStep b) (0, 0) rs = .ok x := h1
  have h2 : mfold (σ := Int × Nat) (kindF a b).tk (kindStep b) (0, 0) ts = .ok y := h2
  have h3 : mfold (σ := Int × Nat) (kindF a b).tk (kindStep b) (0, 0) (rs ++ ts) = .ok z := h3
  rw [mfold_append, h1] at h3
  dsimp only at h3
  rcases kind_from ts x z h3 with ⟨e, h⟩ | ⟨e, h⟩
  · rw [h2] at h
    have h := Except.ok.inj h
    exact .inl ⟨by rw [h], e⟩
  · rw [h2] at h
    have h := Except.ok.inj h
    exact .inr ⟨by rw [h]; exact e, h.symm⟩
end Go.Proofs.YtandoppfbilhbaaGreatDoor
