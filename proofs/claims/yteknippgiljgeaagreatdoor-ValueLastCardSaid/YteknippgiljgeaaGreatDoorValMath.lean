/-
  Values told in records that are written out.
-/
import Derived.Test.YteknippgiljgeaaGreatDoorVal
namespace Go.Proofs.YteknippgiljgeaaGreatDoor

/-- a record of bytes, of a number -/
def rB (num : Nat) (s : List UInt8) : Rec := ⟨num, 2, 0, s, vput (8 * num + 2) ++ (vput s.length ++ s)⟩
def rN (num n : Nat) : Rec := ⟨num, 0, n, [], vput (8 * num + 0) ++ vput n⟩
theorem rB_is {num : Nat} {s : List UInt8} (h1 : 1 ≤ num) (h2 : num ≤ 536870911) (hs : s.length < 2 ^ 64) (d : Int) : IsRec d (rB num s) := txt_isrec (txt_bytes h1 h2 hs) d
theorem rN_is {num n : Nat} (h1 : 1 ≤ num) (h2 : num ≤ 536870911) (hn : n < 2 ^ 64) (d : Int) : IsRec d (rN num n) := txt_isrec (txt_num h1 h2 hn) d
theorem munk_all {tk : Rec → Bool} {rs : List Rec} (h : ∀ r ∈ rs, tk r = true) : munk tk rs = [] := by
  unfold munk mrest
  rw [List.filter_eq_nil_iff.2 (fun r hr => by rw [h r hr]; simp)]
  rfl
/-- records that are all taken -/
theorem mread_recs {σ : Type} {tk : Rec → Bool} {step : σ → Rec → Except Nat σ} {st : σ} {rs : List Rec} {d : Int} (hd : 0 ≤ d) (h : ∀ r ∈ rs, ∀ d, IsRec d r) (hk : ∀ r ∈ rs, tk r = true) :
    mread tk step st (rs.flatMap Rec.raw) d = match mfold tk step st rs with
      | .error c => .error c
      | .ok st' => .ok (st', []) := by
  unfold mread
  rw [if_neg (by omega), recs_wall rs d (fun r hr => h r hr d)]
  dsimp only
  rw [munk_all hk]
  cases mfold tk step st rs <;> rfl
theorem vread_recs {rs : List Rec} {d : Int} {f : Nat} (hd : 0 ≤ d) (h : ∀ r ∈ rs, ∀ d, IsRec d r) (hk : ∀ r ∈ rs, vtk r = true) :
    vread (f + 1) (rs.flatMap Rec.raw) d = match mfold vtk ostep one0 rs with
      | .error c => .error c
      | .ok o => stands (vread f) (kread f) o (d - 1) [] := by
  rw [vread, mread_recs hd h hk]
  cases mfold vtk ostep one0 rs <;> rfl
theorem vread_num {n d f : Nat} (hn : n < 2 ^ 64) : vread (f + 1) (rN 3 n).raw (d : Int) = .ok (.mk 3 [] false n [] [] [] []) := by
  have h := vread_recs (rs := [rN 3 n]) (d := (d : Int)) (f := f) (by omega) (fun r hr d => by rw [List.mem_singleton] at hr; subst hr; exact rN_is (by omega) (by omega) hn d) (fun r hr => by rw [List.mem_singleton] at hr; subst hr; rfl)
  rw [List.flatMap_singleton] at h
  rw [h]
  rfl
/-- of several kinds told the last one counts; a text must be one -/
theorem last_one {s t : List UInt8} {n f : Nat} (hs : s.length < 2 ^ 64) (ht : t.length < 2 ^ 64) (hn : n < 2 ^ 64) :
    vread (f + 1) ((rB 1 s).raw ++ ((rN 3 n).raw ++ (rB 7 t).raw)) 0 = if uvalid s then .ok (.mk 7 t false 0 [] [] [] []) else .error 5 := by
  have h := vread_recs (rs := [rB 1 s, rN 3 n, rB 7 t]) (d := 0) (f := f) (by omega) (fun r hr d => by
    simp only [List.mem_cons, List.not_mem_nil, or_false] at hr
    rcases hr with rfl | rfl | rfl
    · exact rB_is (by omega) (by omega) hs d
    · exact rN_is (by omega) (by omega) hn d
    · exact rB_is (by omega) (by omega) ht d) (fun r hr => by
    simp only [List.mem_cons, List.not_mem_nil, or_false] at hr
    rcases hr with rfl | rfl | rfl <;> rfl)
  have e : [rB 1 s, rN 3 n, rB 7 t].flatMap Rec.raw = (rB 1 s).raw ++ ((rN 3 n).raw ++ (rB 7 t).raw) := by simp
  rw [e] at h
  rw [h]
  cases hv : uvalid s with
  | false =>
    have : mfold vtk ostep one0 [rB 1 s, rN 3 n, rB 7 t] = .error 5 := by
      rw [mfold, if_pos (by rfl)]
      unfold ostep
      rw [if_pos ⟨rfl, hv⟩]
    rw [this]
    rfl
  | true =>
    have : mfold vtk ostep one0 [rB 1 s, rN 3 n, rB 7 t] = .ok ⟨rB 7 t, [t]⟩ := by
      rw [mfold, if_pos (by rfl)]
      have h1 : ostep one0 (rB 1 s) = .ok ⟨rB 1 s, [s]⟩ := by
        unfold ostep
        rw [if_neg (by intro h; rw [show (rB 1 s).s = s from rfl, hv] at h; simp at h)]
        rfl
      rw [h1]
      rfl
    rw [this]
    rfl
theorem last_two {s t : List UInt8} {f : Nat} (hs : s.length < 2 ^ 64) (ht : t.length < 2 ^ 64) :
    vread (f + 1) ((rB 7 t).raw ++ (rB 1 s).raw) 0 = if uvalid s then .ok (.mk 1 s false 0 [] [] [] []) else .error 5 := by
  have h := vread_recs (rs := [rB 7 t, rB 1 s]) (d := 0) (f := f) (by omega) (fun r hr d => by
    simp only [List.mem_cons, List.not_mem_nil, or_false] at hr
    rcases hr with rfl | rfl
    · exact rB_is (by omega) (by omega) ht d
    · exact rB_is (by omega) (by omega) hs d) (fun r hr => by
    simp only [List.mem_cons, List.not_mem_nil, or_false] at hr
    rcases hr with rfl | rfl <;> rfl)
  have e : [rB 7 t, rB 1 s].flatMap Rec.raw = (rB 7 t).raw ++ (rB 1 s).raw := by simp
  rw [e] at h
  rw [h]
  have h0 : mfold vtk ostep one0 [rB 7 t, rB 1 s] = match ostep ⟨rB 7 t, [t]⟩ (rB 1 s) with | .error c => .error c | .ok o => .ok o := by
    rw [mfold, if_pos (by rfl)]
    have h1 : ostep one0 (rB 7 t) = .ok ⟨rB 7 t, [t]⟩ := by
      unfold ostep
      rw [if_neg (by intro h; exact absurd h.1 (by show ¬ (7 : Nat) = 1; omega))]
      rfl
    rw [h1]
    dsimp only
    rw [mfold, if_pos (by rfl)]
    cases ostep ⟨rB 7 t, [t]⟩ (rB 1 s) <;> rfl
  rw [h0]
  cases hv : uvalid s with
  | false =>
    have : ostep ⟨rB 7 t, [t]⟩ (rB 1 s) = .error 5 := by
      unfold ostep
      rw [if_pos ⟨rfl, hv⟩]
    rw [this]
    rfl
  | true =>
    have : ostep ⟨rB 7 t, [t]⟩ (rB 1 s) = .ok ⟨rB 1 s, [s]⟩ := by
      unfold ostep
      rw [if_neg (by intro h; rw [show (rB 1 s).s = s from rfl, hv] at h; simp at h)]
      rfl
    rw [this]
    rfl
def vN (n : Nat) : Val := .mk 3 [] false n [] [] [] []
/-- a list of numbers -/
theorem list_nums {n f : Nat} (hn : n < 2 ^ 64) : ∀ (k : Nat), lread (vread (f + 1)) ((List.replicate k (rB 1 (rN 3 n).raw)).flatMap Rec.raw) 1 = .ok (List.replicate k (vN n), []) := by
  intro k
  have hraw : (rN 3 n).raw.length < 2 ^ 64 := by
    have h1 := (vput_length n).2
    have h2 := (vput_length (8 * 3 + 0)).2
    show (vput (8 * 3 + 0) ++ vput n).length < 2 ^ 64
    rw [List.length_append]
    omega
  unfold lread
  rw [mread_recs (by omega) (fun r hr d => by rw [(List.mem_replicate.1 hr).2]; exact rB_is (by omega) (by omega) hraw d) (fun r hr => by rw [(List.mem_replicate.1 hr).2]; rfl)]
  have aux : ∀ (k : Nat) (xs : List Val), mfold itk (lstep (vread (f + 1)) (1 - 1)) xs (List.replicate k (rB 1 (rN 3 n).raw)) = .ok (xs ++ List.replicate k (vN n)) := by
    intro k
    induction k with
    | zero => intro xs; simp [mfold]
    | succ k ih =>
      intro xs
      rw [List.replicate_succ, mfold, if_pos (by rfl)]
      have h1 : lstep (vread (f + 1)) (1 - 1) xs (rB 1 (rN 3 n).raw) = .ok (xs ++ [vN n]) := by
        unfold lstep
        rw [show (rB 1 (rN 3 n).raw).s = (rN 3 n).raw from rfl, show ((1 : Int) - 1) = ((0 : Nat) : Int) from rfl, vread_num hn]
        rfl
      rw [h1]
      dsimp only
      rw [ih, List.append_assoc]
      rfl
  rw [aux k []]
  rfl
def oneL (n : Nat) : List UInt8 := (rB 1 (rN 3 n).raw).raw
theorem oneL_len (n : Nat) : (oneL n).length ≤ 60 := by
  have h1 := (vput_length n).2
  have h2 := (vput_length (8 * 3 + 0)).2
  have h3 := (vput_length (8 * 1 + 2)).2
  have h4 := (vput_length (vput (8 * 3 + 0) ++ vput n).length).2
  show (vput (8 * 1 + 2) ++ (vput (vput (8 * 3 + 0) ++ vput n).length ++ (vput (8 * 3 + 0) ++ vput n))).length ≤ 60
  simp only [List.length_append] at *
  omega
/-- a list told in two records is one list -/
theorem last_list {n f : Nat} (hn : n < 2 ^ 64) : vread (f + 3) ((rB 5 (oneL n)).raw ++ (rB 5 (oneL n ++ oneL n)).raw) 2 = .ok (.mk 5 [] false 0 [vN n, vN n, vN n] [] [] []) := by
  have hl := oneL_len n
  have h := vread_recs (rs := [rB 5 (oneL n), rB 5 (oneL n ++ oneL n)]) (d := 2) (f := f + 2) (by omega) (fun r hr d => by
    simp only [List.mem_cons, List.not_mem_nil, or_false] at hr
    rcases hr with rfl | rfl
    · exact rB_is (by omega) (by omega) (by omega) d
    · exact rB_is (by omega) (by omega) (by rw [List.length_append]; omega) d) (fun r hr => by
    simp only [List.mem_cons, List.not_mem_nil, or_false] at hr
    rcases hr with rfl | rfl <;> rfl)
  have e : [rB 5 (oneL n), rB 5 (oneL n ++ oneL n)].flatMap Rec.raw = (rB 5 (oneL n)).raw ++ (rB 5 (oneL n ++ oneL n)).raw := by simp
  rw [e] at h
  rw [h]
  have h0 : mfold vtk ostep one0 [rB 5 (oneL n), rB 5 (oneL n ++ oneL n)] = .ok ⟨rB 5 (oneL n ++ oneL n), [oneL n, oneL n ++ oneL n]⟩ := by rfl
  rw [h0]
  have h3 := list_nums (n := n) (f := f + 1) hn 3
  have e3 : (List.replicate 3 (rB 1 (rN 3 n).raw)).flatMap Rec.raw = [oneL n, oneL n ++ oneL n].flatten := by simp [oneL, List.replicate]
  rw [e3] at h3
  show stands (vread (f + 2)) (kread (f + 2)) ⟨rB 5 (oneL n ++ oneL n), [oneL n, oneL n ++ oneL n]⟩ (2 - 1) [] = _
  unfold stands
  rw [if_neg (by show ¬ ((5 : Nat) = 1 ∨ (5 : Nat) = 7); omega), if_neg (by show ¬ (5 : Nat) = 2; omega), if_neg (by show ¬ ((5 : Nat) = 3 ∨ (5 : Nat) = 4); omega), if_pos (by rfl)]
  rw [show ((2 : Int) - 1) = 1 from rfl]
  dsimp only
  rw [h3]
  rfl
theorem last_other {n f : Nat} (hn : n < 2 ^ 64) : vread (f + 3) ((rB 5 (oneL n)).raw ++ ((rN 2 1).raw ++ (rB 5 (oneL n)).raw)) 2 = .ok (.mk 5 [] false 0 [vN n] [] [] []) := by
  have hl := oneL_len n
  have h := vread_recs (rs := [rB 5 (oneL n), rN 2 1, rB 5 (oneL n)]) (d := 2) (f := f + 2) (by omega) (fun r hr d => by
    simp only [List.mem_cons, List.not_mem_nil, or_false] at hr
    rcases hr with rfl | rfl | rfl
    · exact rB_is (by omega) (by omega) (by omega) d
    · exact rN_is (by omega) (by omega) (by omega) d
    · exact rB_is (by omega) (by omega) (by omega) d) (fun r hr => by
    simp only [List.mem_cons, List.not_mem_nil, or_false] at hr
    rcases hr with rfl | rfl | rfl <;> rfl)
  have e : [rB 5 (oneL n), rN 2 1, rB 5 (oneL n)].flatMap Rec.raw = (rB 5 (oneL n)).raw ++ ((rN 2 1).raw ++ (rB 5 (oneL n)).raw) := by simp
  rw [e] at h
  rw [h]
  have h0 : mfold vtk ostep one0 [rB 5 (oneL n), rN 2 1, rB 5 (oneL n)] = .ok ⟨rB 5 (oneL n), [oneL n]⟩ := by rfl
  rw [h0]
  have h3 := list_nums (n := n) (f := f + 1) hn 1
  have e3 : (List.replicate 1 (rB 1 (rN 3 n).raw)).flatMap Rec.raw = [oneL n].flatten := by simp [oneL, List.replicate]
  rw [e3] at h3
  show stands (vread (f + 2)) (kread (f + 2)) ⟨rB 5 (oneL n), [oneL n]⟩ (2 - 1) [] = _
  unfold stands
  rw [if_neg (by show ¬ ((5 : Nat) = 1 ∨ (5 : Nat) = 7); omega), if_neg (by show ¬ (5 : Nat) = 2; omega), if_neg (by show ¬ ((5 : Nat) = 3 ∨ (5 : Nat) = 4); omega), if_pos (by rfl)]
  rw [show ((2 : Int) - 1) = 1 from rfl]
  dsimp only
  rw [h3]
  rfl
end Go.Proofs.YteknippgiljgeaaGreatDoor
