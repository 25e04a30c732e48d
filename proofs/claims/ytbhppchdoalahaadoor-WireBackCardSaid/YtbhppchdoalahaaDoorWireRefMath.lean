/-
  Records of the wire as the reference reads them: the same ones.
-/
import Derived.Test.YtbhppchdoalahaaDoorWireMath
namespace Go.Proofs.YtbhppchdoalahaaDoor

/-- the reference's Next, over what its group answers -/
def rnx (G : List UInt8 → Nat → Int → Option Nat) (l : List UInt8) (d : Int) : Option (Rec × Nat) := match whd l with
  | .error _ => none
  | .ok (num, ty, j) =>
    if ty = 4 then none
    else if ty = 3 then (G (l.drop j) num d).map fun k => (⟨num, 3, 0, [], l.take (j + k)⟩, j + k)
    else match wbd (l.drop j) ty with
      | .error _ => none
      | .ok (n, s, k) => some (⟨num, ty, n, s, l.take (j + k)⟩, j + k)
/-- the reference's group -/
def rgr : Nat → List UInt8 → Nat → Int → Option Nat
  | 0, _, _, _ => none
  | f + 1, l, num, d => if d < 1 then none else match wv l with
    | .error _ => none
    | .ok (t, j) =>
      if t % 8 = 4 then (if t / 8 = num then some j else none)
      else match rnx (rgr f) l (d - 1) with
        | none => none
        | some (_, k) => (rgr f (l.drop k) num d).map (k + ·)
def rgroup (l : List UInt8) (num : Nat) (d : Int) : Option Nat := rgr (l.length + 1) l num d
def opt {α : Type} : Except Nat α → Option α
  | .error _ => none
  | .ok x => some x
theorem opt_wadd (j : Nat) (x : Except Nat Nat) : opt (wadd j x) = (opt x).map (j + ·) := by cases x <;> rfl
/-- a group read by the stack is a group read by the reference, and then the rest -/
theorem wgr_rgr : ∀ (f : Nat) (l : List UInt8) (st : List Nat) (d : Int) (num : Nat), l.length < f → 1 ≤ num → num ≤ 536870911 →
    opt (wgroup l (num :: st) d) = (rgr f l num (d - st.length)).bind fun k => (opt (wgroup (l.drop k) st d)).map (k + ·)
  | 0, _, _, _, _, h, _, _ => by omega
  | f + 1, l, st, d, num, hf, hn1, hn2 => by
    rw [rgr]
    by_cases hd : d - st.length < 1
    · rw [if_pos hd, wgroup_deep (by simp) (by simp; omega)]; rfl
    · rw [if_neg hd]
      have hd' : ((num :: st).length : Int) ≤ d := by simp; omega
      cases hv : wv l with
      | error c => rw [wgroup_no (by simp) hd' (whd_no hv)]; rfl
      | ok x =>
        obtain ⟨t, j⟩ := x
        have hvb := wv_bounds hv
        dsimp only
        by_cases h4 : t % 8 = 4
        · rw [if_pos h4]
          by_cases hnum : t / 8 = num
          · have hh := whd_ok hv (by omega) (by omega) (by omega)
            rw [hnum, h4] at hh
            rw [if_pos hnum, wgroup_end hd' hh, opt_wadd]; rfl
          · rw [if_neg hnum]
            by_cases hr : t / 8 < 1 ∨ 536870911 < t / 8
            · rw [wgroup_no (by simp) hd' (whd_form hv (by omega))]; rfl
            · have hh := whd_ok hv (by omega) (by omega) (by omega)
              rw [h4] at hh
              rw [wgroup_other hd' hh hnum]; rfl
        · rw [if_neg h4]
          unfold rnx
          cases hh : whd l with
          | error c => rw [wgroup_no (by simp) hd' hh]; rfl
          | ok y =>
            obtain ⟨m, ty, i⟩ := y
            have hb := whd_bounds hh
            have hty : ty ≠ 4 := by
              intro e
              have := hb.2.2.2.2.2
              rw [hv] at this
              simp only [Except.ok.injEq, Prod.mk.injEq] at this
              omega
            dsimp only
            rw [if_neg hty]
            by_cases h3 : ty = 3
            · subst h3
              rw [if_pos rfl, wgroup_begin (by simp) hd' hh, opt_wadd, wgr_rgr f (l.drop i) (num :: st) d m (by simp; omega) hb.2.2.1 hb.2.2.2.1]
              have e : d - ((num :: st).length : Int) = d - st.length - 1 := by simp; omega
              rw [e]
              cases hg : rgr f (l.drop i) m (d - st.length - 1) with
              | none => rfl
              | some k =>
                dsimp only [Option.bind, Option.map]
                rw [List.drop_drop]
                have := wgr_rgr f (l.drop (i + k)) st d num (by simp; omega) hn1 hn2
                rw [this]
                cases hg2 : rgr f (l.drop (i + k)) num (d - st.length) with
                | none => rfl
                | some k2 =>
                  dsimp only [Option.bind, Option.map]
                  rw [List.drop_drop]
                  cases opt (wgroup (l.drop (i + k + k2)) st d) with
                  | none => rfl
                  | some z => simp [Nat.add_assoc]
            · rw [if_neg h3]
              cases hbd : wbd (l.drop i) ty with
              | error c => rw [wgroup_bodyNo (by simp) hd' hh h3 hty hbd]; rfl
              | ok z =>
                obtain ⟨n, s, k⟩ := z
                rw [wgroup_bodyOk (by simp) hd' hh h3 hty hbd, opt_wadd]
                dsimp only
                rw [wgr_rgr f (l.drop (i + k)) st d num (by simp; omega) hn1 hn2]
                cases hg2 : rgr f (l.drop (i + k)) num (d - st.length) with
                | none => rfl
                | some k2 =>
                  dsimp only [Option.bind, Option.map]
                  rw [List.drop_drop]
                  cases opt (wgroup (l.drop (i + k + k2)) st d) with
                  | none => rfl
                  | some z => simp [Nat.add_assoc]
theorem rgr_eq {f : Nat} {l : List UInt8} {num : Nat} {d : Int} (hf : l.length < f) (h1 : 1 ≤ num) (h2 : num ≤ 536870911) : rgr f l num d = opt (wgroup l [num] d) := by
  have := wgr_rgr f l [] d num hf h1 h2
  simp only [List.length_nil, Int.natCast_zero, Int.sub_zero] at this
  rw [this]
  cases rgr f l num d with
  | none => rfl
  | some k =>
    dsimp only [Option.bind]
    rw [wgroup_nil]; rfl
/-- the reference's Next answers what the stack answers -/
theorem rnx_eq {f : Nat} {l : List UInt8} {d : Int} (hf : l.length < f) : rnx (rgr f) l d = opt (wnx l d) := by
  unfold rnx wnx
  cases hh : whd l with
  | error c => rfl
  | ok y =>
    obtain ⟨m, ty, i⟩ := y
    have hb := whd_bounds hh
    dsimp only
    split
    · rfl
    · split
      · rw [rgr_eq (by simp; omega) hb.2.2.1 hb.2.2.2.1]
        cases wgroup (l.drop i) [m] d with
        | error c => rfl
        | ok k => rfl
      · cases wbd (l.drop i) ty with
        | error c => rfl
        | ok z => rfl
end Go.Proofs.YtbhppchdoalahaaDoor
