/-
  What was read lies within limits.
-/
import Derived.Test.YteknippgiljgeaaGreatDoorAlikeB
namespace Go.Proofs.YteknippgiljgeaaGreatDoor
open Go.RowKit

theorem lfold_lim {α : Type} {rd : List UInt8 → Int → Except Nat α} {P : α → Prop} {N : Nat} {d : Int} (hrd : ∀ l x, l.length ≤ N → rd l d = .ok x → P x) : ∀ (rs : List Rec) (xs ys : List α), (∀ r ∈ rs, r.s.length ≤ N) → (∀ x ∈ xs, P x) → mfold itk (lstep rd d) xs rs = .ok ys → (∀ y ∈ ys, P y) ∧ ys.length ≤ xs.length + rs.length
  | [], xs, ys, _, hx, h => by
    simp only [mfold, Except.ok.injEq] at h
    subst h
    exact ⟨hx, by simp⟩
  | r :: rs, xs, ys, hr, hx, h => by
    rw [mfold] at h
    have hrs := fun z hz => hr z (List.mem_cons_of_mem _ hz)
    split at h
    · cases hs : lstep rd d xs r with
      | error c => rw [hs] at h; cases h
      | ok st =>
        rw [hs] at h
        unfold lstep at hs
        cases hq : rd r.s d with
        | error c => rw [hq] at hs; cases hs
        | ok x =>
          rw [hq] at hs
          simp only [Except.ok.injEq] at hs
          subst hs
          have ih := lfold_lim hrd rs _ _ hrs (fun y hy => by
            rcases List.mem_append.1 hy with h1 | h1
            · exact hx y h1
            · rw [List.mem_singleton.1 h1]; exact hrd _ _ (hr r (List.mem_cons_self ..)) hq) h
          exact ⟨ih.1, by have := ih.2; simp only [List.length_append, List.length_cons, List.length_nil] at *; omega⟩
    · have ih := lfold_lim hrd rs _ _ hrs hx h
      exact ⟨ih.1, by have := ih.2; simp only [List.length_cons] at *; omega⟩
theorem rec_len {l : List UInt8} {rs : List Rec} {d : Int} (h : wall l d = .ok rs) : ∀ r ∈ rs, r.s.length ≤ l.length := fun r hr => by
  have h1 := isrec_s (wall_recs _ (Nat.le_refl _) h r hr)
  have h2 : rs.flatMap Rec.raw = l := (wall_raws _ (Nat.le_refl _) h).1
  have h3 : r.raw.length ≤ (rs.flatMap Rec.raw).length := by
    obtain ⟨a, b, rfl⟩ := List.append_of_mem hr
    simp
    omega
  rw [h2] at h3
  omega
theorem lread_lim {α : Type} {rd : List UInt8 → Int → Except Nat α} {P : α → Prop} {l : List UInt8} {d : Int} {ys : List α} {i : List UInt8} (hrd : ∀ m x, m.length ≤ l.length → rd m (d - 1) = .ok x → P x) (h : lread rd l d = .ok (ys, i)) : (∀ y ∈ ys, P y) ∧ ys.length ≤ l.length := by
  unfold lread mread at h
  split at h
  · cases h
  · cases hw : wall l d with
    | error c => rw [hw] at h; cases h
    | ok rs =>
      rw [hw] at h
      dsimp only at h
      cases hm : mfold itk (lstep rd (d - 1)) [] rs with
      | error c => rw [hm] at h; cases h
      | ok zs =>
        rw [hm] at h
        simp only [Except.ok.injEq, Prod.mk.injEq] at h
        obtain ⟨rfl, _⟩ := h
        have h1 := lfold_lim hrd rs [] zs (rec_len hw) (fun x hx => by cases hx) hm
        have h2 := wall_length hw
        exact ⟨h1.1, by have := h1.2; simp only [List.length_nil] at this; omega⟩
theorem vzero_lim : vlim (.mk 0 [] false 0 [] [] [] []) := by
  rw [vlim]
  exact ⟨by simp, by simp, by rw [vslim]; trivial, by rw [kslim]; trivial⟩
theorem plain_lim (k : Int) (s : List UInt8) (b : Bool) (n : Nat) (i u : List UInt8) : vlim (.mk k s b n [] [] i u) := by
  rw [vlim]
  exact ⟨by simp, by simp, by rw [vslim]; trivial, by rw [kslim]; trivial⟩
theorem both_lim : ∀ (f : Nat), (∀ l d x, l.length ≤ 9223372036854775807 → vread f l d = .ok x → vlim x) ∧ (∀ l d x, l.length ≤ 9223372036854775807 → kread f l d = .ok x → klim x)
  | 0 => ⟨fun l d x _ h => (by rw [vread] at h; cases h), fun l d x _ h => (by rw [kread] at h; cases h)⟩
  | f + 1 => by
    obtain ⟨iv, ik⟩ := both_lim f
    refine ⟨fun l d x hl h => ?_, fun l d x hl h => ?_⟩
    · rw [vread] at h
      cases hm : mread vtk ostep one0 l d with
      | error c => rw [hm] at h; cases h
      | ok y =>
        obtain ⟨o, unk⟩ := y
        rw [hm] at h
        dsimp only at h
        have hol : o.ps.flatten.length ≤ l.length := by
          unfold mread at hm
          split at hm
          · cases hm
          · cases hw : wall l d with
            | error c => rw [hw] at hm; cases hm
            | ok rs =>
              rw [hw] at hm
              dsimp only at hm
              cases hf : mfold vtk ostep one0 rs with
              | error c => rw [hf] at hm; cases hm
              | ok o' =>
                rw [hf] at hm
                simp only [Except.ok.injEq, Prod.mk.injEq] at hm
                obtain ⟨rfl, _⟩ := hm
                have h1 := (ofold_len rs (wall_recs _ (Nat.le_refl _) hw) hf).1
                rw [(wall_raws _ (Nat.le_refl _) hw).1] at h1
                rcases h1 with h1 | h1
                · rw [h1]; simp [one0]
                · simp only [one0, List.flatten_nil, List.length_nil] at h1; omega
        unfold stands at h
        split at h
        · simp only [Except.ok.injEq] at h; subst h; exact plain_lim _ _ _ _ _ _
        · split at h
          · simp only [Except.ok.injEq] at h; subst h; exact plain_lim _ _ _ _ _ _
          · split at h
            · simp only [Except.ok.injEq] at h; subst h; exact plain_lim _ _ _ _ _ _
            · split at h
              · cases hr : lread (vread f) o.ps.flatten (d - 1) with
                | error c => rw [hr] at h; cases h
                | ok y =>
                  obtain ⟨xs, i⟩ := y
                  rw [hr] at h
                  simp only [Except.ok.injEq] at h
                  subst h
                  have h2 := lread_lim (P := vlim) (fun m x hm h => iv m _ x (by omega) h) hr
                  rw [vlim]
                  exact ⟨by omega, by simp, vslim_of h2.1, by rw [kslim]; trivial⟩
              · split at h
                · cases hr : lread (kread f) o.ps.flatten (d - 1) with
                  | error c => rw [hr] at h; cases h
                  | ok y =>
                    obtain ⟨xs, i⟩ := y
                    rw [hr] at h
                    simp only [Except.ok.injEq] at h
                    subst h
                    have h2 := lread_lim (P := klim) (fun m x hm h => ik m _ x (by omega) h) hr
                    rw [vlim]
                    exact ⟨by simp, by omega, by rw [vslim]; trivial, kslim_of h2.1⟩
                · simp only [Except.ok.injEq] at h; subst h; exact plain_lim _ _ _ _ _ _
    · rw [kread] at h
      cases hm : mread ktk kstep ([], []) l d with
      | error c => rw [hm] at h; cases h
      | ok y =>
        obtain ⟨st, unk⟩ := y
        rw [hm] at h
        dsimp only at h
        have hol : st.2.flatten.length ≤ l.length := by
          unfold mread at hm
          split at hm
          · cases hm
          · cases hw : wall l d with
            | error c => rw [hw] at hm; cases hm
            | ok rs =>
              rw [hw] at hm
              dsimp only at hm
              cases hf : mfold ktk kstep ([], []) rs with
              | error c => rw [hf] at hm; cases hm
              | ok o' =>
                rw [hf] at hm
                simp only [Except.ok.injEq, Prod.mk.injEq] at hm
                obtain ⟨rfl, _⟩ := hm
                have h1 := (kfold_len rs (wall_recs _ (Nat.le_refl _) hw) hf).1
                rw [(wall_raws _ (Nat.le_refl _) hw).1] at h1
                rcases h1 with h1 | h1
                · rw [h1]; simp
                · simp only [List.flatten_nil, List.length_nil] at h1; omega
        split at h
        · simp only [Except.ok.injEq] at h; subst h; rw [klim]; exact vzero_lim
        · cases hv : vread f st.2.flatten (d - 1) with
          | error c => rw [hv] at h; cases h
          | ok v =>
            rw [hv] at h
            simp only [Except.ok.injEq] at h
            subst h
            rw [klim]
            exact iv _ _ _ (by omega) hv
end Go.Proofs.YteknippgiljgeaaGreatDoor
