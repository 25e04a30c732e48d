/-
  Attributes: what is written is read again.
-/
import Derived.Test.YtandoppfbilhbaaGreatDoorVoutLe
namespace Go.Proofs.YtandoppfbilhbaaGreatDoor
open Go.RowKit

theorem rF_is {num n : Nat} (h1 : 1 ≤ num) (h2 : num ≤ 536870911) (hn : n < 2 ^ 64) (d : Int) : IsRec d (rF num n) := txt_isrec (txt_fixed h1 h2 hn) d
/-- a record is read, then what is behind it -/
theorem mread_fold_no {σ : Type} {tk : Rec → Bool} {step : σ → Rec → Except Nat σ} {st : σ} {rs : List Rec} {u : List UInt8} {d : Int} {c : Nat} (hd : 0 ≤ d) (h : ∀ r ∈ rs, ∀ d, IsRec d r) (hf : mfold tk step st rs = .error c) :
    ∃ c, mread tk step st (rs.flatMap Rec.raw ++ u) d = .error c := by
  have h1 := recs_wall rs d (fun r hr => h r hr d)
  unfold mread
  rw [if_neg (by omega), wall_append _ u (Nat.le_refl _) h1]
  cases wall u d with
  | error c2 => exact ⟨c2, rfl⟩
  | ok us =>
    dsimp only
    rw [mfold_append, hf]
    exact ⟨c, rfl⟩
section
variable {α : Type} {rd : List UInt8 → Int → Except Nat α} {out : α → List UInt8}
theorem lfold_ok {d : Int} : ∀ (l xs : List α), (∀ x ∈ l, rd (out x) d = .ok x) → mfold itk (lstep rd d) xs (l.map fun x => rB 1 (out x)) = .ok (xs ++ l)
  | [], xs, _ => by simp [mfold]
  | x :: l, xs, h => by
    rw [List.map_cons, mfold]
    have h1 := h x (List.mem_cons_self ..)
    have ht : itk (rB 1 (out x)) = true := rfl
    rw [if_pos ht]
    unfold lstep
    rw [show (rB 1 (out x)).s = out x from rfl, h1]
    dsimp only
    have := lfold_ok l (xs ++ [x]) (fun y hy => h y (List.mem_cons_of_mem _ hy))
    unfold lstep at this
    rw [this, List.append_assoc]
    rfl
theorem lfold_no {d : Int} : ∀ (l xs : List α), (∀ x ∈ l, rd (out x) d = .ok x ∨ ∃ c, rd (out x) d = .error c) → (∃ x ∈ l, ∃ c, rd (out x) d = .error c) → ∃ c, mfold itk (lstep rd d) xs (l.map fun x => rB 1 (out x)) = .error c
  | [], xs, _, h => by obtain ⟨x, hx, _⟩ := h; cases hx
  | x :: l, xs, h, he => by
    rw [List.map_cons, mfold]
    have ht : itk (rB 1 (out x)) = true := rfl
    rw [if_pos ht]
    rcases h x (List.mem_cons_self ..) with h1 | ⟨c, h1⟩
    · have hl : lstep rd d xs (rB 1 (out x)) = .ok (xs ++ [x]) := by unfold lstep; rw [show (rB 1 (out x)).s = out x from rfl, h1]
      rw [hl]
      refine lfold_no l _ (fun y hy => h y (List.mem_cons_of_mem _ hy)) ?_
      obtain ⟨y, hy, c, hc⟩ := he
      rcases List.mem_cons.1 hy with rfl | hy
      · rw [h1] at hc; cases hc
      · exact ⟨y, hy, c, hc⟩
    · have hl : lstep rd d xs (rB 1 (out x)) = .error c := by unfold lstep; rw [show (rB 1 (out x)).s = out x from rfl, h1]
      rw [hl]
      exact ⟨c, rfl⟩
theorem items_rec {l : List α} (hs : ∀ x ∈ l, (out x).length < 2 ^ 64) : ∀ r ∈ (l.map fun x => rB 1 (out x)), ∀ d, IsRec d r := fun r hr d => by
  obtain ⟨x, hx, rfl⟩ := List.mem_map.1 hr
  exact rB_is (by omega) (by omega) (hs x hx) d
theorem items_all (l : List α) : ((l.map fun x => rB 1 (out x)).all fun r => itk r) = true := by
  rw [List.all_eq_true]
  intro r hr
  obtain ⟨x, hx, rfl⟩ := List.mem_map.1 hr
  rfl
theorem lread_ok {l : List α} {i : List UInt8} {d : Int} (hd : 0 ≤ d) (h : ∀ x ∈ l, rd (out x) (d - 1) = .ok x) (hs : ∀ x ∈ l, (out x).length < 2 ^ 64) (hi : munkOk itk i d = true) : lread rd ((l.map fun x => rB 1 (out x)).flatMap Rec.raw ++ i) d = .ok (l, i) := by
  unfold lread
  have hf := lfold_ok (rd := rd) (out := out) (d := d - 1) l [] h
  rw [List.nil_append] at hf
  exact mread_put_ok hd (items_rec hs) hf (items_all l) hi
theorem lread_no {l : List α} {i : List UInt8} {d d' : Int} (hle : d' ≤ d) (h : ∀ x ∈ l, rd (out x) (d' - 1) = .ok x ∨ ∃ c, rd (out x) (d' - 1) = .error c) (hs : ∀ x ∈ l, (out x).length < 2 ^ 64) (hi : munkOk itk i d = true) (hn : d' < 0 ∨ munkOk itk i d' = false ∨ ∃ x ∈ l, ∃ c, rd (out x) (d' - 1) = .error c) : ∃ c, lread rd ((l.map fun x => rB 1 (out x)).flatMap Rec.raw ++ i) d' = .error c := by
  unfold lread
  by_cases h0 : d' < 0
  · exact ⟨6, by unfold mread; rw [if_pos h0]⟩
  by_cases he : ∃ x ∈ l, ∃ c, rd (out x) (d' - 1) = .error c
  · obtain ⟨c, hc⟩ := lfold_no l [] h he
    exact mread_fold_no (by omega) (items_rec hs) hc
  · have hok : ∀ x ∈ l, rd (out x) (d' - 1) = .ok x := fun x hx => by
      rcases h x hx with h1 | ⟨c, h1⟩
      · exact h1
      · exact absurd ⟨x, hx, c, h1⟩ he
    have hf := lfold_ok (rd := rd) (out := out) (d := d' - 1) l [] hok
    rw [List.nil_append] at hf
    refine mread_put_no (items_rec hs) hf (items_all l) hi hle ?_
    rcases hn with hn | hn | hn
    · exact .inl hn
    · exact .inr hn
    · exact absurd hn he
end
theorem vouts_flat (l : List Val) : vouts 1 l = (l.map fun x => rB 1 (vout x)).flatMap Rec.raw := by
  induction l with
  | nil => rw [vouts]; rfl
  | cons x l ih => rw [vouts, ih, List.map_cons, List.flatMap_cons]
theorem kouts_flat (l : List KV) : kouts 1 l = (l.map fun x => rB 1 (kout x)).flatMap Rec.raw := by
  induction l with
  | nil => rw [kouts]; rfl
  | cons x l ih => rw [kouts, ih, List.map_cons, List.flatMap_cons]
theorem vmays_mem {l : List Val} {d : Int} (h : vmays l d = true) : ∀ x ∈ l, 1 ≤ d ∧ vmay x (d - 1) = true := by
  induction l with
  | nil => intro x hx; cases hx
  | cons y l ih =>
    rw [vmays] at h
    simp only [Bool.and_eq_true, decide_eq_true_eq] at h
    intro x hx
    rcases List.mem_cons.1 hx with rfl | hx
    · exact h.1
    · exact ih h.2 x hx
theorem kmays_mem {l : List KV} {d : Int} (h : kmays l d = true) : ∀ x ∈ l, 1 ≤ d ∧ kmay x (d - 1) = true := by
  induction l with
  | nil => intro x hx; cases hx
  | cons y l ih =>
    rw [kmays] at h
    simp only [Bool.and_eq_true, decide_eq_true_eq] at h
    intro x hx
    rcases List.mem_cons.1 hx with rfl | hx
    · exact h.1
    · exact ih h.2 x hx
/-- told by its kind: the record, if there is one, and what stands then -/
theorem vread_rec {f : Nat} {r : Rec} {u : List UInt8} {d : Int} (hd : 0 ≤ d) (hr : ∀ d, IsRec d r) (hk : vtk r = true) (ho : r.num = 1 → uvalid r.s = true) (hu : munkOk vtk u d = true) : vread (f + 1) (r.raw ++ u) d = stands (vread f) (kread f) (oput one0 r) (d - 1) u := by
  rw [vread]
  have hf : mfold vtk ostep one0 [r] = .ok (oput one0 r) := by
    rw [mfold, if_pos hk]
    have : ostep one0 r = .ok (oput one0 r) := by
      unfold ostep
      rw [if_neg (fun h => by rw [ho h.1] at h; cases h.2)]
    rw [this]
    rfl
  have := mread_put_ok (rs := [r]) (u := u) hd (fun x hx => by rw [List.mem_singleton.1 hx]; exact hr) hf (by simp [hk]) hu
  rw [List.flatMap_singleton] at this
  rw [this]
theorem vread_none {f : Nat} {u : List UInt8} {d : Int} (hd : 0 ≤ d) (hu : munkOk vtk u d = true) : vread (f + 1) u d = stands (vread f) (kread f) one0 (d - 1) u := by
  rw [vread]
  have := mread_put_ok (tk := vtk) (step := ostep) (st := one0) (st' := one0) (rs := []) (u := u) hd (fun x hx => by cases hx) rfl rfl hu
  rw [List.flatMap_nil, List.nil_append] at this
  rw [this]
theorem vsw_mem {l : List Val} {x : Val} (h : x ∈ l) : vw x ≤ vsw l := by
  induction l with
  | nil => cases h
  | cons y l ih =>
    rw [vsw]
    rcases List.mem_cons.1 h with rfl | h
    · omega
    · have := ih h; omega
theorem ksw_mem {l : List KV} {x : KV} (h : x ∈ l) : kw x ≤ ksw l := by
  induction l with
  | nil => cases h
  | cons y l ih =>
    rw [ksw]
    rcases List.mem_cons.1 h with rfl | h
    · omega
    · have := ih h; omega
theorem vnone_zero {v : Val} (h : vnone v = true) : v = Val.zero := by
  cases v with | mk k s b n l m i u =>
  rw [vnone] at h
  unfold vpl at h
  simp only [Bool.and_eq_true, Bool.or_eq_true, decide_eq_true_eq, Bool.not_eq_true', List.isEmpty_iff] at h
  obtain ⟨⟨hk, hu⟩, ⟨⟨⟨⟨⟨_, hS⟩, hB⟩, hN⟩, hL⟩, hM⟩, hI⟩ := h
  have e1 : s = [] := by rcases hS with h | h; omega; exact h
  have e2 : b = false := by rcases hB with h | h; omega; exact h
  have e3 : n = 0 := by rcases hN with h | h; omega; exact h
  have e4 : l = [] := by rcases hL with h | h; omega; exact List.eq_nil_of_length_eq_zero h
  have e5 : m = [] := by rcases hM with h | h; omega; exact List.eq_nil_of_length_eq_zero h
  have e6 : i = [] := by rcases hI with h | h; omega; exact h
  subst hk hu e1 e2 e3 e4 e5 e6
  rfl
/-- the records of an attribute -/
def krecs (key : List UInt8) (has : Bool) (t : List UInt8) : List Rec := (if key = [] then [] else [rB 1 key]) ++ (if has then [rB 2 t] else [])
theorem krecs_raw (key : List UInt8) (has : Bool) (t : List UInt8) : (krecs key has t).flatMap Rec.raw = krec key ++ (if has then (rB 2 t).raw else []) := by
  unfold krecs krec
  rw [List.flatMap_append]
  congr 1
  · split <;> simp
  · cases has <;> simp
theorem krecs_is {key : List UInt8} {has : Bool} {t : List UInt8} (h1 : key.length < 2 ^ 64) (h2 : t.length < 2 ^ 64) : ∀ r ∈ krecs key has t, ∀ d, IsRec d r := fun r hr d => by
  unfold krecs at hr
  rcases List.mem_append.1 hr with h | h
  · split at h
    · cases h
    · rw [List.mem_singleton.1 h]; exact rB_is (by omega) (by omega) h1 d
  · cases has with
    | false => cases h
    | true => rw [List.mem_singleton.1 h]; exact rB_is (by omega) (by omega) h2 d
theorem krecs_all (key : List UInt8) (has : Bool) (t : List UInt8) : ((krecs key has t).all fun r => ktk r) = true := by
  rw [List.all_eq_true]
  intro r hr
  unfold krecs at hr
  rcases List.mem_append.1 hr with h | h
  · split at h
    · cases h
    · rw [List.mem_singleton.1 h]; rfl
  · cases has with
    | false => cases h
    | true => rw [List.mem_singleton.1 h]; rfl
theorem krecs_fold {key : List UInt8} {has : Bool} {t : List UInt8} (hk : uvalid key = true) : mfold ktk kstep ([], []) (krecs key has t) = .ok (key, if has then [t] else []) := by
  have h2 : ∀ k : List UInt8, mfold ktk kstep (k, []) (if has = true then [rB 2 t] else []) = .ok (k, if has then [t] else []) := fun k => by
    cases has with
    | false => rfl
    | true => rfl
  unfold krecs
  rw [mfold_append]
  by_cases h : key = []
  · rw [if_pos h, mfold]
    dsimp only
    rw [h2, h]
  · rw [if_neg h, mfold, if_pos (show ktk (rB 1 key) = true from rfl)]
    have e : kstep ([], []) (rB 1 key) = .ok (key, []) := by
      unfold kstep
      rw [if_pos (show (rB 1 key).num = 1 from rfl), if_pos (show uvalid (rB 1 key).s = true from hk)]
      rfl
    rw [e]
    dsimp only
    rw [mfold]
    dsimp only
    exact h2 key
theorem stands5 {f : Nat} {o : One} {d : Int} {u : List UInt8} (h : o.r.num = 5) {xs : List Val} {i : List UInt8} (hr : lread (vread f) o.ps.flatten d = .ok (xs, i)) : stands (vread f) (kread f) o d u = .ok (.mk 5 [] false 0 xs [] i u) := by
  unfold stands
  rw [if_neg (by omega), if_neg (by omega), if_neg (by omega), if_pos h, hr, h]
  rfl
theorem stands6 {f : Nat} {o : One} {d : Int} {u : List UInt8} (h : o.r.num = 6) {xs : List KV} {i : List UInt8} (hr : lread (kread f) o.ps.flatten d = .ok (xs, i)) : stands (vread f) (kread f) o d u = .ok (.mk 6 [] false 0 [] xs i u) := by
  unfold stands
  rw [if_neg (by omega), if_neg (by omega), if_neg (by omega), if_neg (by omega), if_pos h, hr, h]
  rfl
theorem stands5_no {f c : Nat} {o : One} {d : Int} {u : List UInt8} (h : o.r.num = 5) (hr : lread (vread f) o.ps.flatten d = .error c) : stands (vread f) (kread f) o d u = .error c := by
  unfold stands
  rw [if_neg (by omega), if_neg (by omega), if_neg (by omega), if_pos h, hr]
theorem stands6_no {f c : Nat} {o : One} {d : Int} {u : List UInt8} (h : o.r.num = 6) (hr : lread (kread f) o.ps.flatten d = .error c) : stands (vread f) (kread f) o d u = .error c := by
  unfold stands
  rw [if_neg (by omega), if_neg (by omega), if_neg (by omega), if_neg (by omega), if_pos h, hr]
mutual
theorem vback : ∀ (x : Val) (d : Int) (f : Nat), vfit x → vw x ≤ 1000000 → vmay x d = true → 0 ≤ d → (vout x).length < f → vread f (vout x) d = .ok x
  | .mk k s b n l m i u, d, f, hfit, hw, hm, hd, hf => by
    cases f with
    | zero => omega
    | succ f =>
    rw [vfit] at hfit
    obtain ⟨_, hn, hs, hi, _, hfl, hfm⟩ := hfit
    rw [vw] at hw
    rw [vmay] at hm
    simp only [Bool.and_eq_true, Bool.or_eq_true, decide_eq_true_eq, Bool.not_eq_true', decide_eq_false_iff_not] at hm
    obtain ⟨⟨⟨hp, ht⟩, hlm⟩, hu⟩ := hm
    unfold vpl at hp
    simp only [Bool.and_eq_true, Bool.or_eq_true, decide_eq_true_eq, Bool.not_eq_true', List.isEmpty_iff] at hp
    obtain ⟨⟨⟨⟨⟨⟨hk, hS⟩, hB⟩, hN⟩, hL⟩, hM⟩, hI⟩ := hp
    have hbool : ∀ q : Nat, (!decide (q = 0)) = true ∨ (!decide (q = 0)) = false := fun q => by cases (!decide (q = 0)) <;> simp
    rw [vout] at hf ⊢
    rcases (by omega : k = 0 ∨ k = 1 ∨ k = 2 ∨ k = 3 ∨ k = 4 ∨ k = 5 ∨ k = 6 ∨ k = 7) with rfl | rfl | rfl | rfl | rfl | rfl | rfl | rfl
    · have e1 : s = [] := by rcases hS with h | h; omega; exact h
      have e2 : b = false := by rcases hB with h | h; omega; exact h
      have e3 : n = 0 := by rcases hN with h | h; omega; exact h
      have e4 : l = [] := by rcases hL with h | h; omega; exact List.eq_nil_of_length_eq_zero h
      have e5 : m = [] := by rcases hM with h | h; omega; exact List.eq_nil_of_length_eq_zero h
      have e6 : i = [] := by rcases hI with h | h; omega; exact h
      subst e1 e2 e3 e4 e5 e6
      rw [show vrec 0 [] false 0 (vouts 1 []) (kouts 1 []) [] = [] by simp [vrec], List.nil_append, vread_none hd hu]
      rfl
    · have e2 : b = false := by rcases hB with h | h; omega; exact h
      have e3 : n = 0 := by rcases hN with h | h; omega; exact h
      have e4 : l = [] := by rcases hL with h | h; omega; exact List.eq_nil_of_length_eq_zero h
      have e5 : m = [] := by rcases hM with h | h; omega; exact List.eq_nil_of_length_eq_zero h
      have e6 : i = [] := by rcases hI with h | h; omega; exact h
      subst e2 e3 e4 e5 e6
      rw [show vrec 1 s false 0 (vouts 1 []) (kouts 1 []) [] = (rB 1 s).raw by simp [vrec], vread_rec hd (fun d => rB_is (by omega) (by omega) (by omega) d) rfl (fun _ => by rcases ht with h | h; exact absurd rfl h; exact h) hu]
      rfl
    · have e1 : s = [] := by rcases hS with h | h; omega; exact h
      have e3 : n = 0 := by rcases hN with h | h; omega; exact h
      have e4 : l = [] := by rcases hL with h | h; omega; exact List.eq_nil_of_length_eq_zero h
      have e5 : m = [] := by rcases hM with h | h; omega; exact List.eq_nil_of_length_eq_zero h
      have e6 : i = [] := by rcases hI with h | h; omega; exact h
      subst e1 e3 e4 e5 e6
      rw [show vrec 2 [] b 0 (vouts 1 []) (kouts 1 []) [] = (rN 2 (if b then 1 else 0)).raw by simp [vrec], vread_rec hd (fun d => rN_is (by omega) (by omega) (by cases b <;> simp) d) rfl (fun h => by cases h) hu]
      cases b <;> rfl
    · have e1 : s = [] := by rcases hS with h | h; omega; exact h
      have e2 : b = false := by rcases hB with h | h; omega; exact h
      have e4 : l = [] := by rcases hL with h | h; omega; exact List.eq_nil_of_length_eq_zero h
      have e5 : m = [] := by rcases hM with h | h; omega; exact List.eq_nil_of_length_eq_zero h
      have e6 : i = [] := by rcases hI with h | h; omega; exact h
      subst e1 e2 e4 e5 e6
      rw [show vrec 3 [] false n (vouts 1 []) (kouts 1 []) [] = (rN 3 n).raw by simp [vrec], vread_rec hd (fun d => rN_is (by omega) (by omega) (by omega) d) rfl (fun h => by cases h) hu]
      rfl
    · have e1 : s = [] := by rcases hS with h | h; omega; exact h
      have e2 : b = false := by rcases hB with h | h; omega; exact h
      have e4 : l = [] := by rcases hL with h | h; omega; exact List.eq_nil_of_length_eq_zero h
      have e5 : m = [] := by rcases hM with h | h; omega; exact List.eq_nil_of_length_eq_zero h
      have e6 : i = [] := by rcases hI with h | h; omega; exact h
      subst e1 e2 e4 e5 e6
      rw [show vrec 4 [] false n (vouts 1 []) (kouts 1 []) [] = (rF 4 n).raw by simp [vrec], vread_rec hd (fun d => rF_is (by omega) (by omega) (by omega) d) rfl (fun h => by cases h) hu]
      rfl
    · have e1 : s = [] := by rcases hS with h | h; omega; exact h
      have e2 : b = false := by rcases hB with h | h; omega; exact h
      have e3 : n = 0 := by rcases hN with h | h; omega; exact h
      have e5 : m = [] := by rcases hM with h | h; omega; exact List.eq_nil_of_length_eq_zero h
      subst e1 e2 e3 e5
      have hl := vouts_le 1 (by omega) l
      have e0 : vrec 5 [] false 0 (vouts 1 l) (kouts 1 []) i = (rB 5 (vouts 1 l ++ i)).raw := by simp [vrec]
      rw [e0] at hf ⊢
      have hlen : (vouts 1 l ++ i).length < f := by
        rw [List.length_append] at hf
        have : (rB 5 (vouts 1 l ++ i)).raw.length = (vput (8 * 5 + 2)).length + ((vput (vouts 1 l ++ i).length).length + (vouts 1 l ++ i).length) := by
          show (vput (8 * 5 + 2) ++ (vput (vouts 1 l ++ i).length ++ (vouts 1 l ++ i))).length = _
          rw [List.length_append, List.length_append]
        have h9 := (vput_length (8 * 5 + 2)).1
        omega
      rw [vread_rec hd (fun d => rB_is (by omega) (by omega) (by rw [List.length_append]; omega) d) rfl (fun h => by cases h) hu]
      have hlm2 : 1 ≤ d ∧ (vmays l (d - 1) = true ∧ kmays [] (d - 1) = true) ∧ munkOk itk i (d - 1) = true := by
        rcases hlm with h | h
        · exact absurd (.inl rfl) h
        · exact h
      have hrd := lread_ok (rd := vread f) (out := vout) (l := l) (i := i) (d := d - 1) (by omega) (vbacks l (d - 1) f hfl (by omega) hlm2.2.1.1 (by rw [List.length_append] at hlen; omega)) (fun x hx => by
        have := vsw_mem hx
        have := vout_le x
        have := vw_vb x
        omega) hlm2.2.2
      rw [← vouts_flat] at hrd
      exact stands5 (o := oput one0 (rB 5 (vouts 1 l ++ i))) rfl (by rw [show (oput one0 (rB 5 (vouts 1 l ++ i))).ps.flatten = vouts 1 l ++ i by simp [oput, one0, rB]]; exact hrd)
    · have e1 : s = [] := by rcases hS with h | h; omega; exact h
      have e2 : b = false := by rcases hB with h | h; omega; exact h
      have e3 : n = 0 := by rcases hN with h | h; omega; exact h
      have e4 : l = [] := by rcases hL with h | h; omega; exact List.eq_nil_of_length_eq_zero h
      subst e1 e2 e3 e4
      have hl := kouts_le 1 (by omega) m
      have e0 : vrec 6 [] false 0 (vouts 1 []) (kouts 1 m) i = (rB 6 (kouts 1 m ++ i)).raw := by simp [vrec]
      rw [e0] at hf ⊢
      have hlen : (kouts 1 m ++ i).length < f := by
        rw [List.length_append] at hf
        have : (rB 6 (kouts 1 m ++ i)).raw.length = (vput (8 * 6 + 2)).length + ((vput (kouts 1 m ++ i).length).length + (kouts 1 m ++ i).length) := by
          show (vput (8 * 6 + 2) ++ (vput (kouts 1 m ++ i).length ++ (kouts 1 m ++ i))).length = _
          rw [List.length_append, List.length_append]
        have h9 := (vput_length (8 * 6 + 2)).1
        omega
      rw [vread_rec hd (fun d => rB_is (by omega) (by omega) (by rw [List.length_append]; omega) d) rfl (fun h => by cases h) hu]
      have hlm2 : 1 ≤ d ∧ (vmays [] (d - 1) = true ∧ kmays m (d - 1) = true) ∧ munkOk itk i (d - 1) = true := by
        rcases hlm with h | h
        · exact absurd (.inr rfl) h
        · exact h
      have hrd := lread_ok (rd := kread f) (out := kout) (l := m) (i := i) (d := d - 1) (by omega) (kbacks m (d - 1) f hfm (by omega) hlm2.2.1.2 (by rw [List.length_append] at hlen; omega)) (fun x hx => by
        have := ksw_mem hx
        have := kout_le x
        have := kw_kb x
        omega) hlm2.2.2
      rw [← kouts_flat] at hrd
      exact stands6 (o := oput one0 (rB 6 (kouts 1 m ++ i))) rfl (by rw [show (oput one0 (rB 6 (kouts 1 m ++ i))).ps.flatten = kouts 1 m ++ i by simp [oput, one0, rB]]; exact hrd)
    · have e2 : b = false := by rcases hB with h | h; omega; exact h
      have e3 : n = 0 := by rcases hN with h | h; omega; exact h
      have e4 : l = [] := by rcases hL with h | h; omega; exact List.eq_nil_of_length_eq_zero h
      have e5 : m = [] := by rcases hM with h | h; omega; exact List.eq_nil_of_length_eq_zero h
      have e6 : i = [] := by rcases hI with h | h; omega; exact h
      subst e2 e3 e4 e5 e6
      rw [show vrec 7 s false 0 (vouts 1 []) (kouts 1 []) [] = (rB 7 s).raw by simp [vrec], vread_rec hd (fun d => rB_is (by omega) (by omega) (by omega) d) rfl (fun h => by cases h) hu]
      rfl
theorem kback : ∀ (x : KV) (d : Int) (f : Nat), kfit x → kw x ≤ 1000000 → kmay x d = true → 0 ≤ d → (kout x).length < f → kread f (kout x) d = .ok x
  | .mk key has v u, d, f, hfit, hw, hm, hd, hf => by
    cases f with
    | zero => omega
    | succ f =>
    rw [kfit] at hfit
    obtain ⟨hs, _, hfv⟩ := hfit
    rw [kw] at hw
    rw [kmay] at hm
    simp only [Bool.and_eq_true] at hm
    obtain ⟨⟨hk, hv⟩, hu⟩ := hm
    rw [kout] at hf ⊢
    have hvl := vout_le v
    have hvb := vw_vb v
    have hrd := mread_put_ok (tk := ktk) (step := kstep) (st := ([], [])) (rs := krecs key has (vout v)) (u := u) hd (krecs_is (by omega) (by omega)) (krecs_fold hk) (krecs_all _ _ _) hu
    rw [krecs_raw] at hrd
    rw [kread, hrd]
    cases has with
    | false =>
      simp only [Bool.false_eq_true, if_false] at hv
      rw [vnone_zero hv]
      rfl
    | true =>
      simp only [if_true, Bool.and_eq_true, decide_eq_true_eq] at hv
      have hlen : (vout v).length < f := by
        rw [List.length_append, List.length_append, if_pos rfl] at hf
        have : (rB 2 (vout v)).raw.length = (vput (8 * 2 + 2)).length + ((vput (vout v).length).length + (vout v).length) := by
          show (vput (8 * 2 + 2) ++ (vput (vout v).length ++ vout v)).length = _
          rw [List.length_append, List.length_append]
        have h9 := (vput_length (8 * 2 + 2)).1
        omega
      have hb := vback v (d - 1) f hfv (by omega) hv.2 (by omega) hlen
      simp only [if_true]
      rw [if_neg (by simp), show [vout v].flatten = vout v by simp, hb]
theorem vbacks : ∀ (l : List Val) (d : Int) (f : Nat), vsfit l → vsw l ≤ 1000000 → vmays l d = true → (vouts 1 l).length < f → ∀ x ∈ l, vread f (vout x) (d - 1) = .ok x
  | [], _, _, _, _, _, _ => fun x hx => by cases hx
  | y :: l, d, f, hfit, hw, hm, hf => fun x hx => by
    rw [vsfit] at hfit
    rw [vsw] at hw
    rw [vmays] at hm
    simp only [Bool.and_eq_true, decide_eq_true_eq] at hm
    rw [vouts, List.length_append] at hf
    have hy : vread f (vout y) (d - 1) = .ok y := vback y (d - 1) f hfit.1 (by omega) hm.1.2 (by omega) (by
      have : (rB 1 (vout y)).raw.length = (vput (8 * 1 + 2)).length + ((vput (vout y).length).length + (vout y).length) := by
        show (vput (8 * 1 + 2) ++ (vput (vout y).length ++ vout y)).length = _
        rw [List.length_append, List.length_append]
      omega)
    have hl := vbacks l d f hfit.2 (by omega) hm.2 (by omega)
    rcases List.mem_cons.1 hx with rfl | h
    · exact hy
    · exact hl x h
theorem kbacks : ∀ (l : List KV) (d : Int) (f : Nat), ksfit l → ksw l ≤ 1000000 → kmays l d = true → (kouts 1 l).length < f → ∀ x ∈ l, kread f (kout x) (d - 1) = .ok x
  | [], _, _, _, _, _, _ => fun x hx => by cases hx
  | y :: l, d, f, hfit, hw, hm, hf => fun x hx => by
    rw [ksfit] at hfit
    rw [ksw] at hw
    rw [kmays] at hm
    simp only [Bool.and_eq_true, decide_eq_true_eq] at hm
    rw [kouts, List.length_append] at hf
    have hy : kread f (kout y) (d - 1) = .ok y := kback y (d - 1) f hfit.1 (by omega) hm.1.2 (by omega) (by
      have : (rB 1 (kout y)).raw.length = (vput (8 * 1 + 2)).length + ((vput (kout y).length).length + (kout y).length) := by
        show (vput (8 * 1 + 2) ++ (vput (kout y).length ++ kout y)).length = _
        rw [List.length_append, List.length_append]
      omega)
    have hl := kbacks l d f hfit.2 (by omega) hm.2 (by omega)
    rcases List.mem_cons.1 hx with rfl | h
    · exact hy
    · exact hl x h
end
theorem vread_rec_no {f : Nat} {r : Rec} {u : List UInt8} {d d' : Int} (hr : ∀ d, IsRec d r) (hk : vtk r = true) (ho : r.num = 1 → uvalid r.s = true) (hu : munkOk vtk u d = true) (hle : d' ≤ d) (hn : d' < 0 ∨ munkOk vtk u d' = false) : ∃ c, vread (f + 1) (r.raw ++ u) d' = .error c := by
  have hf : mfold vtk ostep one0 [r] = .ok (oput one0 r) := by
    rw [mfold, if_pos hk]
    have : ostep one0 r = .ok (oput one0 r) := by
      unfold ostep
      rw [if_neg (fun h => by rw [ho h.1] at h; cases h.2)]
    rw [this]
    rfl
  obtain ⟨c, h⟩ := mread_put_no (rs := [r]) (u := u) (fun x hx => by rw [List.mem_singleton.1 hx]; exact hr) hf (by simp [hk]) hu hle hn
  rw [List.flatMap_singleton] at h
  exact ⟨c, by rw [vread, h]⟩
theorem vread_none_no {f : Nat} {u : List UInt8} {d d' : Int} (hu : munkOk vtk u d = true) (hle : d' ≤ d) (hn : d' < 0 ∨ munkOk vtk u d' = false) : ∃ c, vread (f + 1) u d' = .error c := by
  obtain ⟨c, h⟩ := mread_put_no (tk := vtk) (step := ostep) (st := one0) (st' := one0) (rs := []) (u := u) (fun x hx => by cases hx) rfl rfl hu hle hn
  rw [List.flatMap_nil, List.nil_append] at h
  exact ⟨c, by rw [vread, h]⟩
theorem vmays_no {l : List Val} {d : Int} (h : vmays l (d - 1) = false) : ∃ x ∈ l, vmayD x (d - 2) = false := by
  rw [vmays_all] at h
  obtain ⟨x, hx, h2⟩ := List.all_eq_false.1 h
  exact ⟨x, hx, by simpa using h2⟩
theorem kmays_no {l : List KV} {d : Int} (h : kmays l (d - 1) = false) : ∃ x ∈ l, kmayD x (d - 2) = false := by
  rw [kmays_all] at h
  obtain ⟨x, hx, h2⟩ := List.all_eq_false.1 h
  exact ⟨x, hx, by simpa using h2⟩
mutual
theorem vback_no : ∀ (x : Val) (d d' : Int) (f : Nat), vfit x → vw x ≤ 1000000 → vmay x d = true → d' ≤ d → vmayD x d' = false → (vout x).length < f → ∃ c, vread f (vout x) d' = .error c
  | .mk k s b n l m i u, d, d', f, hfit, hw, hm, hle, hno, hf => by
    cases f with
    | zero => omega
    | succ f =>
    rw [vfit] at hfit
    obtain ⟨_, hn, hs, hi, _, hfl, hfm⟩ := hfit
    rw [vw] at hw
    rw [vmayD, vmay] at hno
    rw [vmay] at hm
    simp only [Bool.and_eq_true] at hm
    obtain ⟨⟨⟨hp0, ht0⟩, hlm⟩, hu⟩ := hm
    rw [hp0, ht0] at hno
    have hp := hp0
    have ht := ht0
    simp only [Bool.or_eq_true, Bool.not_eq_true', decide_eq_false_iff_not] at ht
    unfold vpl at hp
    simp only [Bool.and_eq_true, Bool.or_eq_true, decide_eq_true_eq, Bool.not_eq_true', List.isEmpty_iff] at hp
    obtain ⟨⟨⟨⟨⟨⟨hk, hS⟩, hB⟩, hN⟩, hL⟩, hM⟩, hI⟩ := hp
    rw [vout] at hf ⊢
    have hplain : ¬ (k = 5 ∨ k = 6) → d' < 0 ∨ munkOk vtk u d' = false := fun h => by
      rw [decide_eq_false h] at hno
      by_cases h0 : d' < 0
      · exact .inl h0
      · rw [decide_eq_true (by omega)] at hno
        exact .inr (by simpa using hno)
    rcases (by omega : k = 0 ∨ k = 1 ∨ k = 2 ∨ k = 3 ∨ k = 4 ∨ k = 5 ∨ k = 6 ∨ k = 7) with rfl | rfl | rfl | rfl | rfl | rfl | rfl | rfl
    · rw [show vrec 0 s b n (vouts 1 l) (kouts 1 m) i = [] by simp [vrec], List.nil_append]
      exact vread_none_no hu hle (hplain (by omega))
    · rw [show vrec 1 s b n (vouts 1 l) (kouts 1 m) i = (rB 1 s).raw by simp [vrec]]
      exact vread_rec_no (fun d => rB_is (by omega) (by omega) (by omega) d) rfl (fun _ => by rcases ht with h | h; exact absurd rfl h; exact h) hu hle (hplain (by omega))
    · rw [show vrec 2 s b n (vouts 1 l) (kouts 1 m) i = (rN 2 (if b then 1 else n)).raw by simp [vrec]]
      exact vread_rec_no (fun d => rN_is (by omega) (by omega) (by cases b <;> simp <;> omega) d) rfl (fun h => by cases h) hu hle (hplain (by omega))
    · rw [show vrec 3 s b n (vouts 1 l) (kouts 1 m) i = (rN 3 n).raw by simp [vrec]]
      exact vread_rec_no (fun d => rN_is (by omega) (by omega) (by omega) d) rfl (fun h => by cases h) hu hle (hplain (by omega))
    · rw [show vrec 4 s b n (vouts 1 l) (kouts 1 m) i = (rF 4 n).raw by simp [vrec]]
      exact vread_rec_no (fun d => rF_is (by omega) (by omega) (by omega) d) rfl (fun h => by cases h) hu hle (hplain (by omega))
    · have e5 : m = [] := by rcases hM with h | h; omega; exact List.eq_nil_of_length_eq_zero h
      subst e5
      have hl := vouts_le 1 (by omega) l
      have e0 : vrec 5 s b n (vouts 1 l) (kouts 1 []) i = (rB 5 (vouts 1 l ++ i)).raw := by simp [vrec]
      rw [e0] at hf ⊢
      have hr : ∀ d, IsRec d (rB 5 (vouts 1 l ++ i)) := fun d => rB_is (by omega) (by omega) (by rw [List.length_append]; omega) d
      by_cases hun : d' < 0 ∨ munkOk vtk u d' = false
      · exact vread_rec_no hr rfl (fun h => by cases h) hu hle hun
      have h0 : 0 ≤ d' := by omega
      have hu2 : munkOk vtk u d' = true := by
        cases h : munkOk vtk u d' with
        | true => rfl
        | false => exact absurd (.inr h) hun
      rw [vread_rec h0 hr rfl (fun h => by cases h) hu2]
      have hlen : (vouts 1 l ++ i).length < f := by
        rw [List.length_append] at hf
        have : (rB 5 (vouts 1 l ++ i)).raw.length = (vput (8 * 5 + 2)).length + ((vput (vouts 1 l ++ i).length).length + (vouts 1 l ++ i).length) := by
          show (vput (8 * 5 + 2) ++ (vput (vouts 1 l ++ i).length ++ (vouts 1 l ++ i))).length = _
          rw [List.length_append, List.length_append]
        have h9 := (vput_length (8 * 5 + 2)).1
        omega
      have hlm2 : 1 ≤ d ∧ (vmays l (d - 1) = true ∧ kmays [] (d - 1) = true) ∧ munkOk itk i (d - 1) = true := by
        simpa using hlm
      have hno2 : ¬ 1 ≤ d' ∨ vmays l (d' - 1) = false ∨ munkOk itk i (d' - 1) = false := by
        rw [hu2, decide_eq_true h0] at hno
        by_cases h1 : 1 ≤ d'
        · right
          rw [decide_eq_true h1] at hno
          have h2 : vmays l (d' - 1) = true → munkOk itk i (d' - 1) = false := by simpa [kmays] using hno
          cases hh : vmays l (d' - 1) with
          | true => exact .inr (h2 hh)
          | false => exact .inl rfl
        · exact .inl h1
      obtain ⟨c, hc⟩ := lread_no (rd := vread f) (out := vout) (l := l) (i := i) (d := d - 1) (d' := d' - 1) (by omega) (fun x hx => by
        have hb := vbacks_any l (d - 1) (d' - 1) f hfl (by omega) hlm2.2.1.1 (by omega) (by rw [List.length_append] at hlen; omega) x hx
        cases hh : vmayD x (d' - 1 - 1) with
        | true => exact .inl (hb.1 hh)
        | false => exact .inr (hb.2 hh)) (fun x hx => by
        have := vsw_mem hx
        have := vout_le x
        have := vw_vb x
        omega) hlm2.2.2 (by
        rcases hno2 with h | h | h
        · exact .inl (by omega)
        · obtain ⟨x, hx, h2⟩ := vmays_no h
          have hb := vbacks_any l (d - 1) (d' - 1) f hfl (by omega) hlm2.2.1.1 (by omega) (by rw [List.length_append] at hlen; omega) x hx
          exact .inr (.inr ⟨x, hx, hb.2 (by rw [show d' - 1 - 1 = d' - 2 by omega]; exact h2)⟩)
        · exact .inr (.inl h))
      rw [← vouts_flat] at hc
      exact ⟨c, stands5_no (o := oput one0 (rB 5 (vouts 1 l ++ i))) rfl (by rw [show (oput one0 (rB 5 (vouts 1 l ++ i))).ps.flatten = vouts 1 l ++ i by simp [oput, one0, rB]]; exact hc)⟩
    · have e5 : l = [] := by rcases hL with h | h; omega; exact List.eq_nil_of_length_eq_zero h
      subst e5
      have hl := kouts_le 1 (by omega) m
      have e0 : vrec 6 s b n (vouts 1 []) (kouts 1 m) i = (rB 6 (kouts 1 m ++ i)).raw := by simp [vrec]
      rw [e0] at hf ⊢
      have hr : ∀ d, IsRec d (rB 6 (kouts 1 m ++ i)) := fun d => rB_is (by omega) (by omega) (by rw [List.length_append]; omega) d
      by_cases hun : d' < 0 ∨ munkOk vtk u d' = false
      · exact vread_rec_no hr rfl (fun h => by cases h) hu hle hun
      have h0 : 0 ≤ d' := by omega
      have hu2 : munkOk vtk u d' = true := by
        cases h : munkOk vtk u d' with
        | true => rfl
        | false => exact absurd (.inr h) hun
      rw [vread_rec h0 hr rfl (fun h => by cases h) hu2]
      have hlen : (kouts 1 m ++ i).length < f := by
        rw [List.length_append] at hf
        have : (rB 6 (kouts 1 m ++ i)).raw.length = (vput (8 * 6 + 2)).length + ((vput (kouts 1 m ++ i).length).length + (kouts 1 m ++ i).length) := by
          show (vput (8 * 6 + 2) ++ (vput (kouts 1 m ++ i).length ++ (kouts 1 m ++ i))).length = _
          rw [List.length_append, List.length_append]
        have h9 := (vput_length (8 * 6 + 2)).1
        omega
      have hlm2 : 1 ≤ d ∧ (vmays [] (d - 1) = true ∧ kmays m (d - 1) = true) ∧ munkOk itk i (d - 1) = true := by
        simpa using hlm
      have hno2 : ¬ 1 ≤ d' ∨ kmays m (d' - 1) = false ∨ munkOk itk i (d' - 1) = false := by
        rw [hu2, decide_eq_true h0] at hno
        by_cases h1 : 1 ≤ d'
        · right
          rw [decide_eq_true h1] at hno
          have h2 : kmays m (d' - 1) = true → munkOk itk i (d' - 1) = false := by simpa [vmays] using hno
          cases hh : kmays m (d' - 1) with
          | true => exact .inr (h2 hh)
          | false => exact .inl rfl
        · exact .inl h1
      obtain ⟨c, hc⟩ := lread_no (rd := kread f) (out := kout) (l := m) (i := i) (d := d - 1) (d' := d' - 1) (by omega) (fun x hx => by
        have hb := kbacks_any m (d - 1) (d' - 1) f hfm (by omega) hlm2.2.1.2 (by omega) (by rw [List.length_append] at hlen; omega) x hx
        cases hh : kmayD x (d' - 1 - 1) with
        | true => exact .inl (hb.1 hh)
        | false => exact .inr (hb.2 hh)) (fun x hx => by
        have := ksw_mem hx
        have := kout_le x
        have := kw_kb x
        omega) hlm2.2.2 (by
        rcases hno2 with h | h | h
        · exact .inl (by omega)
        · obtain ⟨x, hx, h2⟩ := kmays_no h
          have hb := kbacks_any m (d - 1) (d' - 1) f hfm (by omega) hlm2.2.1.2 (by omega) (by rw [List.length_append] at hlen; omega) x hx
          exact .inr (.inr ⟨x, hx, hb.2 (by rw [show d' - 1 - 1 = d' - 2 by omega]; exact h2)⟩)
        · exact .inr (.inl h))
      rw [← kouts_flat] at hc
      exact ⟨c, stands6_no (o := oput one0 (rB 6 (kouts 1 m ++ i))) rfl (by rw [show (oput one0 (rB 6 (kouts 1 m ++ i))).ps.flatten = kouts 1 m ++ i by simp [oput, one0, rB]]; exact hc)⟩
    · rw [show vrec 7 s b n (vouts 1 l) (kouts 1 m) i = (rB 7 s).raw by simp [vrec]]
      exact vread_rec_no (fun d => rB_is (by omega) (by omega) (by omega) d) rfl (fun h => by cases h) hu hle (hplain (by omega))
theorem kback_no : ∀ (x : KV) (d d' : Int) (f : Nat), kfit x → kw x ≤ 1000000 → kmay x d = true → d' ≤ d → kmayD x d' = false → (kout x).length < f → ∃ c, kread f (kout x) d' = .error c
  | .mk key has v u, d, d', f, hfit, hw, hm, hle, hno, hf => by
    cases f with
    | zero => omega
    | succ f =>
    rw [kfit] at hfit
    obtain ⟨hs, _, hfv⟩ := hfit
    rw [kw] at hw
    rw [kmayD, kmay] at hno
    rw [kmay] at hm
    simp only [Bool.and_eq_true] at hm
    obtain ⟨⟨hk, hv⟩, hu⟩ := hm
    rw [kout] at hf ⊢
    have hvl := vout_le v
    have hvb := vw_vb v
    by_cases hun : d' < 0 ∨ munkOk ktk u d' = false
    · obtain ⟨c, h⟩ := mread_put_no (tk := ktk) (step := kstep) (st := ([], [])) (rs := krecs key has (vout v)) (u := u) (krecs_is (by omega) (by omega)) (krecs_fold hk) (krecs_all _ _ _) hu hle hun
      rw [krecs_raw] at h
      exact ⟨c, by rw [kread, h]⟩
    have h0 : 0 ≤ d' := by omega
    have hu2 : munkOk ktk u d' = true := by
      cases h : munkOk ktk u d' with
      | true => rfl
      | false => exact absurd (.inr h) hun
    have hrd := mread_put_ok (tk := ktk) (step := kstep) (st := ([], [])) (rs := krecs key has (vout v)) (u := u) h0 (krecs_is (by omega) (by omega)) (krecs_fold hk) (krecs_all _ _ _) hu2
    rw [krecs_raw] at hrd
    rw [kread, hrd]
    rw [hk, hu2, decide_eq_true h0] at hno
    cases has with
    | false =>
      simp only [Bool.false_eq_true, if_false] at hv hno
      rw [hv] at hno
      cases hno
    | true =>
      simp only [if_true, Bool.and_eq_true, decide_eq_true_eq] at hv
      have hlen : (vout v).length < f := by
        rw [List.length_append, List.length_append, if_pos rfl] at hf
        have : (rB 2 (vout v)).raw.length = (vput (8 * 2 + 2)).length + ((vput (vout v).length).length + (vout v).length) := by
          show (vput (8 * 2 + 2) ++ (vput (vout v).length ++ vout v)).length = _
          rw [List.length_append, List.length_append]
        have h9 := (vput_length (8 * 2 + 2)).1
        omega
      have hno2 : vmayD v (d' - 1) = false := by
        rw [vmayD, show decide (0 ≤ d' - 1) = decide (1 ≤ d') by congr 1; exact propext ⟨fun h => by omega, fun h => by omega⟩]
        simpa using hno
      obtain ⟨c, hc⟩ := vback_no v (d - 1) (d' - 1) f hfv (by omega) hv.2 (by omega) hno2 hlen
      simp only [if_true]
      rw [if_neg (by simp), show [vout v].flatten = vout v by simp, hc]
      exact ⟨c, rfl⟩
theorem vbacks_any : ∀ (l : List Val) (d d' : Int) (f : Nat), vsfit l → vsw l ≤ 1000000 → vmays l d = true → d' ≤ d → (vouts 1 l).length < f → ∀ x ∈ l, (vmayD x (d' - 1) = true → vread f (vout x) (d' - 1) = .ok x) ∧ (vmayD x (d' - 1) = false → ∃ c, vread f (vout x) (d' - 1) = .error c)
  | [], _, _, _, _, _, _, _, _ => fun x hx => by cases hx
  | y :: l, d, d', f, hfit, hw, hm, hle, hf => fun x hx => by
    rw [vsfit] at hfit
    rw [vsw] at hw
    rw [vmays] at hm
    simp only [Bool.and_eq_true, decide_eq_true_eq] at hm
    rw [vouts, List.length_append] at hf
    have hlen : (vout y).length < f := by
      have : (rB 1 (vout y)).raw.length = (vput (8 * 1 + 2)).length + ((vput (vout y).length).length + (vout y).length) := by
        show (vput (8 * 1 + 2) ++ (vput (vout y).length ++ vout y)).length = _
        rw [List.length_append, List.length_append]
      omega
    have hy := vback_no y (d - 1) (d' - 1) f hfit.1 (by omega) hm.1.2 (by omega)
    have hl := vbacks_any l d d' f hfit.2 (by omega) hm.2 hle (by omega)
    rcases List.mem_cons.1 hx with rfl | h
    · refine ⟨fun h => ?_, fun h => hy h hlen⟩
      rw [vmayD] at h
      simp only [Bool.and_eq_true, decide_eq_true_eq] at h
      exact vback _ _ f hfit.1 (by omega) h.2 h.1 hlen
    · exact hl x h
theorem kbacks_any : ∀ (l : List KV) (d d' : Int) (f : Nat), ksfit l → ksw l ≤ 1000000 → kmays l d = true → d' ≤ d → (kouts 1 l).length < f → ∀ x ∈ l, (kmayD x (d' - 1) = true → kread f (kout x) (d' - 1) = .ok x) ∧ (kmayD x (d' - 1) = false → ∃ c, kread f (kout x) (d' - 1) = .error c)
  | [], _, _, _, _, _, _, _, _ => fun x hx => by cases hx
  | y :: l, d, d', f, hfit, hw, hm, hle, hf => fun x hx => by
    rw [ksfit] at hfit
    rw [ksw] at hw
    rw [kmays] at hm
    simp only [Bool.and_eq_true, decide_eq_true_eq] at hm
    rw [kouts, List.length_append] at hf
    have hlen : (kout y).length < f := by
      have : (rB 1 (kout y)).raw.length = (vput (8 * 1 + 2)).length + ((vput (kout y).length).length + (kout y).length) := by
        show (vput (8 * 1 + 2) ++ (vput (kout y).length ++ kout y)).length = _
        rw [List.length_append, List.length_append]
      omega
    have hy := kback_no y (d - 1) (d' - 1) f hfit.1 (by omega) hm.1.2 (by omega)
    have hl := kbacks_any l d d' f hfit.2 (by omega) hm.2 hle (by omega)
    rcases List.mem_cons.1 hx with rfl | h
    · refine ⟨fun h => ?_, fun h => hy h hlen⟩
      rw [kmayD] at h
      simp only [Bool.and_eq_true, decide_eq_true_eq] at h
      exact kback _ _ f hfit.1 (by omega) h.2 h.1 hlen
    · exact hl x h
end
end Go.Proofs.YtandoppfbilhbaaGreatDoor
