/-
  Records one behind the other: joined, cut.
-/
import Derived.Test.YtdokbooggbiciaaWireMath
namespace Go.Proofs.Ytdokbooggbiciaa

theorem wall_inv {l : List UInt8} {d : Int} {rs : List Rec} (h : wall l d = .ok rs) : (l = [] ∧ rs = []) ∨ ∃ r q ks, wnx l d = .ok (r, q) ∧ wall (l.drop q) d = .ok ks ∧ rs = r :: ks ∧ 2 ≤ q ∧ q ≤ l.length ∧ r.raw = l.take q := by
  by_cases h0 : l = []
  · subst h0
    rw [wall_nil] at h
    simp only [Except.ok.injEq] at h
    exact .inl ⟨rfl, h.symm⟩
  · cases hn : wnx l d with
    | error c => rw [wall_no h0 hn] at h; cases h
    | ok x =>
      obtain ⟨r, q⟩ := x
      rw [wall_cons hn] at h
      have hb := wnx_bounds hn
      cases hk : wall (l.drop q) d with
      | error c => rw [hk] at h; cases h
      | ok ks =>
        rw [hk] at h
        simp only [Except.ok.injEq] at h
        exact .inr ⟨r, q, ks, rfl, hk, h.symm, hb.1, hb.2.1, hb.2.2.1⟩
theorem wall_raws : ∀ (n : Nat) {l : List UInt8} {d : Int} {rs : List Rec}, l.length ≤ n → wall l d = .ok rs → rs.flatMap Rec.raw = l ∧ ∀ r ∈ rs, 2 ≤ r.raw.length
  | n, l, d, rs, hn, h => by
    rcases wall_inv h with ⟨rfl, rfl⟩ | ⟨r, q, ks, h1, h2, rfl, h3, h4, h5⟩
    · simp
    · match n, hn with
      | 0, hn => omega
      | n + 1, hn =>
        have ih := wall_raws n (by simp; omega) h2
        refine ⟨?_, fun x hx => ?_⟩
        · rw [List.flatMap_cons, ih.1, h5, List.take_append_drop]
        · rcases List.mem_cons.1 hx with rfl | hx
          · rw [h5]; simp; omega
          · exact ih.2 x hx
theorem wall_append : ∀ (n : Nat) {l : List UInt8} {d : Int} {rs : List Rec} (t : List UInt8), l.length ≤ n → wall l d = .ok rs → wall (l ++ t) d = match wall t d with
    | .error c => .error c
    | .ok ks => .ok (rs ++ ks)
  | n, l, d, rs, t, hn, h => by
    rcases wall_inv h with ⟨rfl, rfl⟩ | ⟨r, q, ks, h1, h2, rfl, h3, h4, h5⟩
    · rw [List.nil_append]
      cases wall t d <;> rfl
    · match n, hn with
      | 0, hn => omega
      | n + 1, hn =>
        have ih := wall_append n t (by simp; omega) h2
        rw [wall_cons (wnx_append t h1), List.drop_append_of_le_length h4, ih]
        cases wall t d <;> rfl
theorem wall_cut {l s' u : List UInt8} {d : Int} {ini : List Rec} {last : Rec} (h : wall l d = .ok (ini ++ [last])) (hl : l = s' ++ u) (h0 : u ≠ []) (hu : u.length < last.raw.length) : ∃ c, wall s' d = .error c := by
  cases hs : wall s' d with
  | error c => exact ⟨c, rfl⟩
  | ok rs =>
    exfalso
    have ha := wall_append _ u (Nat.le_refl _) hs
    rw [← hl, h] at ha
    cases hk : wall u d with
    | error c => rw [hk] at ha; cases ha
    | ok ks =>
      rw [hk] at ha
      simp only [Except.ok.injEq] at ha
      have hr := (wall_raws _ (Nat.le_refl _) hk).1
      have hk0 : ks ≠ [] := by intro e; subst e; exact h0 (by simpa using hr.symm)
      have e1 : ks = ks.dropLast ++ [ks.getLast hk0] := (List.dropLast_concat_getLast hk0).symm
      rw [e1, ← List.append_assoc] at ha
      have e2 : last = ks.getLast hk0 := by
        have := congrArg List.getLast? ha
        simpa using this
      rw [e1] at hr
      have e3 := congrArg List.length hr
      simp at e3
      rw [← e2] at e3
      omega
theorem raws_le {rs : List Rec} {l : List UInt8} (h : rs.flatMap Rec.raw = l) (i : Nat) : ((rs.take i).flatMap Rec.raw).length ≤ l.length := by
  have e : rs.flatMap Rec.raw = (rs.take i).flatMap Rec.raw ++ (rs.drop i).flatMap Rec.raw := by rw [← List.flatMap_append, List.take_append_drop]
  rw [← h, e, List.length_append]
  omega
theorem raw_le {rs : List Rec} {l : List UInt8} (h : rs.flatMap Rec.raw = l) {r : Rec} (hr : r ∈ rs) : r.raw.length ≤ l.length := by
  obtain ⟨a, b, rfl⟩ := List.append_of_mem hr
  rw [← h]
  simp
  omega
theorem raws_step {rs : List Rec} {i : Nat} (h : i < rs.length) : (rs.take (i + 1)).flatMap Rec.raw = (rs.take i).flatMap Rec.raw ++ rs[i].raw := by
  rw [List.take_succ_eq_append_getElem h, List.flatMap_append]
  simp
end Go.Proofs.Ytdokbooggbiciaa
