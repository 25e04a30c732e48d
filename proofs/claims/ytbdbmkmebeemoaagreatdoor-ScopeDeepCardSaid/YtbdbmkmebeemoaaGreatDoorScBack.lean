/-
  A scope, a resource: there and back, twice, one behind the other.
-/
/-
  hyglaw10.first.
-/
import Derived.Test.YtbdbmkmebeemoaaGreatDoorScMar
namespace Go.Proofs.YtbdbmkmebeemoaaGreatDoor
open Go.RowKit

theorem text_out (num : Nat) (a : List UInt8) : ((textF num).out a).flatMap Rec.raw = if a = [] then [] else (rB num a).raw := by
  show (if a = [] then [] else [rB num a]).flatMap Rec.raw = _
  split
  · rfl
  · simp
theorem var_out (num n : Nat) : ((var32F num).out n).flatMap Rec.raw = if n = 0 then [] else (rN num n).raw := by
  show (if n = 0 then [] else [rN num n]).flatMap Rec.raw = _
  split
  · rfl
  · simp
theorem out_and (A B : Fld) (a : A.σ) (b : B.σ) : ((A.and B).out (a, b)).flatMap Rec.raw = (A.out a).flatMap Rec.raw ++ (B.out b).flatMap Rec.raw := List.flatMap_append
theorem rs_outF (l : List KV) (n : Nat) (u : List UInt8) : (rsF.out (l, n)).flatMap Rec.raw ++ u = rs_out ((l, n), u) := by
  have h := out_and (listF 1 kvS) (var32F 2) l n
  rw [kvs_out, var_out] at h
  rw [show (rsF.out (l, n)).flatMap Rec.raw = _ from h]
  rfl
theorem sc_outF (a b : List UInt8) (l : List KV) (n : Nat) (u : List UInt8) : (scF.out (a, b, l, n)).flatMap Rec.raw ++ u = sc_out ((a, b, l, n), u) := by
  have h3 := out_and (listF 3 kvS) (var32F 4) l n
  rw [kvs_out, var_out] at h3
  have h2 := out_and (textF 2) ((listF 3 kvS).and (var32F 4)) b (l, n)
  rw [h3, text_out] at h2
  have h1 := out_and (textF 1) ((textF 2).and ((listF 3 kvS).and (var32F 4))) a (b, l, n)
  rw [h2, text_out] at h1
  rw [show (scF.out (a, b, l, n)).flatMap Rec.raw = _ from h1]
  show _ = (if a = [] then [] else (rB 1 a).raw) ++ (if b = [] then [] else (rB 2 b).raw) ++ kouts 3 l ++ (if n = 0 then [] else (rN 4 n).raw) ++ u
  simp only [List.append_assoc]
theorem rs_mayF (d : Int) (l : List KV) (n : Nat) (u : List UInt8) : rs_may d ((l, n), u) = (decide (0 ≤ d) && (rsF.may d (l, n) && munkOk rsF.tk u d)) := by
  have h : rsF.may d (l, n) = kmays l d := by
    show ((listF 1 kvS).may d l && true) = _
    rw [kvs_may, Bool.and_true]
  rw [h]; rfl
theorem sc_mayF (d : Int) (a b : List UInt8) (l : List KV) (n : Nat) (u : List UInt8) : sc_may d ((a, b, l, n), u) = (decide (0 ≤ d) && (scF.may d (a, b, l, n) && munkOk scF.tk u d)) := by
  have h : scF.may d (a, b, l, n) = ((uvalid a && uvalid b) && kmays l d) := by
    show (uvalid a && (uvalid b && ((listF 3 kvS).may d l && true))) = _
    rw [kvs_may, Bool.and_true, Bool.and_assoc]
  rw [h]; rfl
/-- what is little enough to be written, by its fields -/
theorem rs_fitF {l : List KV} {n : Nat} {u : List UInt8} (h : rs_fit ((l, n), u)) : rsF.fit (l, n) ∧ rsF.wt (l, n) ≤ 1000000 := by
  obtain ⟨h1, h2, h3⟩ := h
  dsimp only at h1 h2 h3
  refine ⟨⟨kvs_fit2 h1, h2⟩, ?_⟩
  show (listF 1 kvS).wt l + 0 ≤ _
  rw [kvs_wt]; omega
theorem sc_fitF {a b : List UInt8} {l : List KV} {n : Nat} {u : List UInt8} (h : sc_fit ((a, b, l, n), u)) : scF.fit (a, b, l, n) ∧ scF.wt (a, b, l, n) ≤ 1000000 := by
  obtain ⟨h3, h4, h5⟩ := h
  dsimp only at h3 h4 h5
  refine ⟨⟨by show a.length ≤ _; omega, by show b.length ≤ _; omega, kvs_fit2 h3, h4⟩, ?_⟩
  show a.length + (b.length + ((listF 3 kvS).wt l + 0)) ≤ _
  rw [kvs_wt]; omega
section
variable {F : Fld}
/-- read and written, of any message -/
theorem fld_back (hF : F.Ok) {s : F.σ} {u : List UInt8} {d : Int} (hf : F.fit s) (hw : F.wt s ≤ 1000000) (hd : 0 ≤ d) (hm : F.may d s = true) (hu : munkOk F.tk u d = true) : mread F.tk (F.step d) F.z ((F.out s).flatMap Rec.raw ++ u) d = .ok (s, u) :=
  Fld.msg_back hF hf hw hd (hF.recs s hf hw) (fun _ => rfl) d hm hd hu
theorem fld_less (hF : F.Ok) {s : F.σ} {u : List UInt8} {d d' : Int} (hf : F.fit s) (hw : F.wt s ≤ 1000000) (hm : F.may d s = true) (hu : munkOk F.tk u d = true) (hle : d' ≤ d) (hn : d' < 0 ∨ F.may d' s = false ∨ munkOk F.tk u d' = false) : ∃ c, mread F.tk (F.step d') F.z ((F.out s).flatMap Rec.raw ++ u) d' = .error c := by
  have hr := hF.recs s hf hw
  by_cases h0 : d' < 0
  · exact ⟨6, by unfold mread; rw [if_pos h0]⟩
  · cases h1 : F.may d' s with
    | false =>
      obtain ⟨c, hc⟩ := hF.less s d d' hf hw hm hle h1
      exact mread_fold_no (by omega) (fun r h => (hr r h).2) hc
    | true =>
      have h2 : munkOk F.tk u d' = false := by
        rcases hn with h | h | h
        · exact absurd h h0
        · rw [h1] at h; cases h
        · exact h
      exact mread_put_no (fun r h => (hr r h).2) (hF.back s d' hf hw (by omega) h1) (by rw [List.all_eq_true]; exact fun r h => (hr r h).1) hu hle (.inr h2)
/-- what was read may be -/
theorem fld_twice (hF : F.Ok) {l u : List UInt8} {s : F.σ} {d : Int} (hl : l.length ≤ 500000) (h : mread F.tk (F.step d) F.z l d = .ok (s, u)) : 0 ≤ d ∧ F.may d s = true ∧ munkOk F.tk u d = true ∧ F.fit s ∧ F.wt s + u.length ≤ F.w0 + 51 * l.length := by
  obtain ⟨h0, rs, h1, h2, h3, h4, h5⟩ := mread_inv h
  have h6 := tlen_munk F.tk rs
  rw [h4, ← h2] at h6
  have hi := mfold_tlen (d := d) 1000000 (F.inv d) (hF.go d) rs F.z s 0 h3 (hF.start d) (by omega) h1
  rw [Nat.zero_add] at hi
  obtain ⟨e1, e2, e3⟩ := hF.ends d s _ h0 hi (by omega)
  exact ⟨h0, e1, h5, e2, by omega⟩
/-- errors do not look at what was read before -/
def Fld.Free (F : Fld) : Prop := ∀ d s s' r y, F.step d s r = .ok y → ∃ y', F.step d s' r = .ok y'
theorem Fld.Free.rd (h : F.Free) {d : Int} : ∀ (rs : List Rec) (s s' : F.σ) {y : F.σ}, F.rd d s rs = .ok y → ∃ y', F.rd d s' rs = .ok y'
  | [], _, s', _, _ => ⟨s', rfl⟩
  | r :: rs, s, s', y, hy => by
    have hy : mfold F.tk (F.step d) s (r :: rs) = .ok y := hy
    show ∃ y', mfold F.tk (F.step d) s' (r :: rs) = .ok y'
    simp only [mfold] at hy ⊢
    split at hy
    · rename_i hk
      rw [if_pos hk]
      split at hy
      · cases hy
      · rename_i s1 hs
        obtain ⟨s2, h2⟩ := h d s s' r s1 hs
        rw [h2]
        exact Fld.Free.rd h rs s1 s2 hy
    · rename_i hk
      rw [if_neg hk]
      exact Fld.Free.rd h rs s s' hy
end
theorem Fld.Free.and {A B : Fld} (hA : A.Free) (hB : B.Free) : (A.and B).Free := fun d s s' r y hy => by
  obtain ⟨a, b⟩ := s
  obtain ⟨a', b'⟩ := s'
  cases hk : A.tk r with
  | true =>
    cases ha : A.step d a r with
    | error c => rw [Fld.and_1no hk ha] at hy; cases hy
    | ok a1 =>
      obtain ⟨a2, h2⟩ := hA d a a' r a1 ha
      exact ⟨_, Fld.and_1ok hk h2⟩
  | false =>
    cases hb : B.step d b r with
    | error c => rw [Fld.and_2no hk hb] at hy; cases hy
    | ok b1 =>
      obtain ⟨b2, h2⟩ := hB d b b' r b1 hb
      exact ⟨_, Fld.and_2ok hk h2⟩
theorem textF_free (num : Nat) : (textF num).Free := fun d s s' r y hy => by
  cases h : uvalid r.s with
  | true => exact ⟨_, text_ok h⟩
  | false => exact absurd ((text_no (num := num) (d := d) (a := s) h).symm.trans hy) (by intro e; cases e)
theorem var32F_free (num : Nat) : (var32F num).Free := fun _ _ _ _ _ _ => ⟨_, rfl⟩
theorem kvF_free (num : Nat) : (listF num kvS).Free := fun d s s' r y hy => by
  cases h : kread 1000001 r.s (d - 1) with
  | error c => exact absurd ((kv_no (num := num) (l := s) h).symm.trans hy) (by intro e; cases e)
  | ok x => exact ⟨_, kv_ok h⟩
/-- each field of what was read -/
theorem Fld.and_fst {A B : Fld} (hap : A.Apart B) {d : Int} {rs : List Rec} {a a' : A.σ} {b b' : B.σ} (h : (A.and B).rd d (a, b) rs = .ok (a', b')) : A.rd d a rs = .ok a' ∧ B.rd d b rs = .ok b' := by
  have h1 := Fld.and_rd hap d rs a b
  cases ha : A.rd d a rs with
  | error c => rw [ha] at h1; obtain ⟨c, h1⟩ := h1; rw [h1] at h; cases h
  | ok a1 =>
    cases hb : B.rd d b rs with
    | error c => rw [ha, hb] at h1; obtain ⟨c, h1⟩ := h1; rw [h1] at h; cases h
    | ok b1 =>
      rw [ha, hb] at h1
      have h1 : (A.and B).rd d (a, b) rs = .ok (a1, b1) := h1
      rw [h1] at h
      have h := Except.ok.inj h
      exact ⟨by rw [(Prod.mk.inj h).1], by rw [(Prod.mk.inj h).2]⟩
theorem kv_count {num : Nat} {d : Int} : ∀ (rs : List Rec) (s y : List KV), mfold (listTk num) (listStep kvS d) s rs = .ok y → y.length = s.length + (rs.filter (listTk num)).length
  | [], s, y, h => by simp only [mfold, Except.ok.injEq] at h; subst h; simp
  | r :: rs, s, y, h => by
    rw [mfold] at h
    rw [List.filter_cons]
    split at h
    · rename_i hk
      rw [if_pos hk]
      split at h
      · cases h
      · rename_i s1 hs
        have := kv_count rs s1 y h
        unfold listStep at hs
        split at hs
        · cases hs
        · simp only [Except.ok.injEq] at hs
          subst hs
          rw [List.length_append] at this
          simp only [List.length_cons, List.length_nil] at this ⊢
          omega
    · rename_i hk
      rw [if_neg hk]
      exact kv_count rs s y h
/-- one behind the other -/
theorem fld_join {F : Fld} (hf : F.Free) {s t u v : List UInt8} {x y : F.σ} {d : Int} (h1 : mread F.tk (F.step d) F.z s d = .ok (x, u)) (h2 : mread F.tk (F.step d) F.z t d = .ok (y, v)) : ∃ z rs ts, mread F.tk (F.step d) F.z (s ++ t) d = .ok (z, u ++ v) ∧ F.rd d F.z rs = .ok x ∧ F.rd d F.z ts = .ok y ∧ F.rd d F.z (rs ++ ts) = .ok z := by
  unfold mread at h1 h2
  split at h1
  · cases h1
  · rename_i h0
    rw [if_neg h0] at h2
    cases hw1 : wall s d with
    | error c => rw [hw1] at h1; cases h1
    | ok rs =>
      cases hw2 : wall t d with
      | error c => rw [hw2] at h2; cases h2
      | ok ts =>
        rw [hw1] at h1
        rw [hw2] at h2
        dsimp only at h1 h2
        cases hf1 : mfold F.tk (F.step d) F.z rs with
        | error c => rw [hf1] at h1; cases h1
        | ok x1 =>
          cases hf2 : mfold F.tk (F.step d) F.z ts with
          | error c => rw [hf2] at h2; cases h2
          | ok y1 =>
            rw [hf1] at h1
            rw [hf2] at h2
            simp only [Except.ok.injEq, Prod.mk.injEq] at h1 h2
            obtain ⟨rfl, rfl⟩ := h1
            obtain ⟨rfl, rfl⟩ := h2
            obtain ⟨z, hz⟩ := hf.rd ts F.z x1 hf2
            have hz : mfold F.tk (F.step d) x1 ts = .ok z := hz
            have hz2 : mfold F.tk (F.step d) F.z (rs ++ ts) = .ok z := by rw [mfold_append, hf1]; exact hz
            refine ⟨z, rs, ts, ?_, hf1, hf2, hz2⟩
            unfold mread
            rw [if_neg h0, wall_append _ t (Nat.le_refl _) hw1, hw2]
            dsimp only
            rw [hz2]
            dsimp only
            rw [munk_append]
theorem rs_free : rsF.Free := (kvF_free 1).and (var32F_free 2)
theorem sc_free : scF.Free := (textF_free 1).and ((textF_free 2).and ((kvF_free 3).and (var32F_free 4)))
theorem rs_apart : (listF 1 kvS).Apart (var32F 2) := apart_of fun r h => by
  have h : r.num = 1 ∧ r.ty = 2 := of_decide_eq_true h
  exact decide_eq_false (by omega)
theorem sc_apart3 : (listF 3 kvS).Apart (var32F 4) := apart_of fun r h => by
  have h : r.num = 3 ∧ r.ty = 2 := of_decide_eq_true h
  exact decide_eq_false (by omega)
theorem sc_apart2 : (textF 2).Apart ((listF 3 kvS).and (var32F 4)) := apart_of fun r h => by
  have h : r.num = 2 ∧ r.ty = 2 := of_decide_eq_true h
  show (decide _ || decide _) = false
  rw [decide_eq_false (by omega), decide_eq_false (by omega)]; rfl
theorem sc_apart1 : (textF 1).Apart ((textF 2).and ((listF 3 kvS).and (var32F 4))) := apart_of fun r h => by
  have h : r.num = 1 ∧ r.ty = 2 := of_decide_eq_true h
  show (decide _ || (decide _ || decide _)) = false
  rw [decide_eq_false (by omega), decide_eq_false (by omega), decide_eq_false (by omega)]; rfl
theorem rs_join {s t u v : List UInt8} {l l2 : List KV} {n n2 : Nat} {d : Int} (h1 : rsrd s d = .ok ((l, n), u)) (h2 : rsrd t d = .ok ((l2, n2), v)) : ∃ l3 n3, rsrd (s ++ t) d = .ok ((l3, n3), u ++ v) ∧ l3.length = l.length + l2.length := by
  obtain ⟨⟨l3, n3⟩, rs, ts, h3, h4, h5, h6⟩ := fld_join rs_free h1 h2
  refine ⟨l3, n3, h3, ?_⟩
  have e1 := kv_count _ _ _ (Fld.and_fst rs_apart h4).1
  have e2 := kv_count _ _ _ (Fld.and_fst rs_apart h5).1
  have e3 := kv_count _ _ _ (Fld.and_fst rs_apart h6).1
  rw [List.filter_append, List.length_append] at e3
  have z0 : ([] : List KV).length = 0 := rfl
  have z1 : ((listF 1 kvS).z : List KV).length = 0 := rfl
  omega
theorem sc_join {s t u v : List UInt8} {a b a2 b2 : List UInt8} {l l2 : List KV} {n n2 : Nat} {d : Int} (h1 : scrd s d = .ok ((a, b, l, n), u)) (h2 : scrd t d = .ok ((a2, b2, l2, n2), v)) : ∃ a3 b3 l3 n3, scrd (s ++ t) d = .ok ((a3, b3, l3, n3), u ++ v) ∧ l3.length = l.length + l2.length := by
  obtain ⟨⟨a3, b3, l3, n3⟩, rs, ts, h3, h4, h5, h6⟩ := fld_join sc_free h1 h2
  refine ⟨a3, b3, l3, n3, h3, ?_⟩
  have e1 := kv_count _ _ _ (Fld.and_fst sc_apart3 (Fld.and_fst sc_apart2 (Fld.and_fst sc_apart1 h4).2).2).1
  have e2 := kv_count _ _ _ (Fld.and_fst sc_apart3 (Fld.and_fst sc_apart2 (Fld.and_fst sc_apart1 h5).2).2).1
  have e3 := kv_count _ _ _ (Fld.and_fst sc_apart3 (Fld.and_fst sc_apart2 (Fld.and_fst sc_apart1 h6).2).2).1
  rw [List.filter_append, List.length_append] at e3
  have z1 : ((listF 3 kvS).z : List KV).length = 0 := rfl
  omega
theorem rs_back {l : List KV} {n : Nat} {u : List UInt8} {d : Int} (hf : rs_fit ((l, n), u)) (hm : rs_may d ((l, n), u) = true) : rsrd (rs_out ((l, n), u)) d = .ok ((l, n), u) := by
  rw [rs_mayF] at hm
  simp only [Bool.and_eq_true, decide_eq_true_eq] at hm
  have h := fld_back rsF_ok (s := (l, n)) (u := u) (rs_fitF hf).1 (rs_fitF hf).2 hm.1 hm.2.1 hm.2.2
  exact (congrArg (fun t => mread (σ := List KV × Nat) rsF.tk (rsF.step d) rsF.z t d) (rs_outF l n u)).symm.trans h
theorem rs_less {l : List KV} {n : Nat} {u : List UInt8} {d d' : Int} (hf : rs_fit ((l, n), u)) (hm : rs_may d ((l, n), u) = true) (hle : d' ≤ d) (hn : rs_may d' ((l, n), u) = false) : ∃ c, rsrd (rs_out ((l, n), u)) d' = .error c := by
  rw [rs_mayF] at hm hn
  simp only [Bool.and_eq_true, decide_eq_true_eq] at hm
  obtain ⟨c, h⟩ := fld_less rsF_ok (s := (l, n)) (u := u) (d := d) (d' := d') (rs_fitF hf).1 (rs_fitF hf).2 hm.2.1 hm.2.2 hle (by
    by_cases h0 : d' < 0
    · exact .inl h0
    · rw [decide_eq_true (by omega : 0 ≤ d'), Bool.true_and, Bool.and_eq_false_iff] at hn
      exact .inr hn)
  exact ⟨c, (congrArg (fun t => mread (σ := List KV × Nat) rsF.tk (rsF.step d') rsF.z t d') (rs_outF l n u)).symm.trans h⟩
theorem rs_twice {l : List KV} {n : Nat} {t u : List UInt8} {d : Int} (hl : t.length ≤ 6000) (h : rsrd t d = .ok ((l, n), u)) : rs_may d ((l, n), u) = true ∧ rs_fit ((l, n), u) := by
  obtain ⟨h0, h1, h2, h3, h4⟩ := fld_twice rsF_ok (s := (l, n)) (by omega) h
  refine ⟨?_, ?_⟩
  · rw [rs_mayF, h1, h2, decide_eq_true h0]; rfl
  · have h5 : (listF 1 kvS).wt l + 0 + u.length ≤ 0 + 0 + 51 * t.length := h4
    rw [kvs_wt] at h5
    exact ⟨kvs_fit h3.1, h3.2, by show ksw l + u.length ≤ _; omega⟩
theorem sc_back {a b : List UInt8} {l : List KV} {n : Nat} {u : List UInt8} {d : Int} (hf : sc_fit ((a, b, l, n), u)) (hm : sc_may d ((a, b, l, n), u) = true) : scrd (sc_out ((a, b, l, n), u)) d = .ok ((a, b, l, n), u) := by
  rw [sc_mayF] at hm
  simp only [Bool.and_eq_true, decide_eq_true_eq] at hm
  have h := fld_back scF_ok (s := (a, b, l, n)) (u := u) (sc_fitF hf).1 (sc_fitF hf).2 hm.1 hm.2.1 hm.2.2
  exact (congrArg (fun t => mread (σ := List UInt8 × List UInt8 × List KV × Nat) scF.tk (scF.step d) scF.z t d) (sc_outF a b l n u)).symm.trans h
theorem sc_less {a b : List UInt8} {l : List KV} {n : Nat} {u : List UInt8} {d d' : Int} (hf : sc_fit ((a, b, l, n), u)) (hm : sc_may d ((a, b, l, n), u) = true) (hle : d' ≤ d) (hn : sc_may d' ((a, b, l, n), u) = false) : ∃ c, scrd (sc_out ((a, b, l, n), u)) d' = .error c := by
  rw [sc_mayF] at hm hn
  simp only [Bool.and_eq_true, decide_eq_true_eq] at hm
  obtain ⟨c, h⟩ := fld_less scF_ok (s := (a, b, l, n)) (u := u) (d := d) (d' := d') (sc_fitF hf).1 (sc_fitF hf).2 hm.2.1 hm.2.2 hle (by
    by_cases h0 : d' < 0
    · exact .inl h0
    · rw [decide_eq_true (by omega : 0 ≤ d'), Bool.true_and, Bool.and_eq_false_iff] at hn
      exact .inr hn)
  exact ⟨c, (congrArg (fun t => mread (σ := List UInt8 × List UInt8 × List KV × Nat) scF.tk (scF.step d') scF.z t d') (sc_outF a b l n u)).symm.trans h⟩
theorem sc_twice {a b : List UInt8} {l : List KV} {n : Nat} {t u : List UInt8} {d : Int} (hl : t.length ≤ 6000) (h : scrd t d = .ok ((a, b, l, n), u)) : sc_may d ((a, b, l, n), u) = true ∧ sc_fit ((a, b, l, n), u) := by
  obtain ⟨h0, h1, h2, h3, h4⟩ := fld_twice scF_ok (s := (a, b, l, n)) (by omega) h
  refine ⟨?_, ?_⟩
  · rw [sc_mayF, h1, h2, decide_eq_true h0]; rfl
  · have h5 : a.length + (b.length + ((listF 3 kvS).wt l + 0)) + u.length ≤ 0 + (0 + (0 + 0)) + 51 * t.length := h4
    rw [kvs_wt] at h5
    exact ⟨kvs_fit h3.2.2.1, h3.2.2.2, by show a.length + b.length + ksw l + u.length ≤ _; omega⟩
end Go.Proofs.YtbdbmkmebeemoaaGreatDoor
namespace Go.Proofs.YtbdbmkmebeemoaaGreatDoor
open Go.RowKit

theorem Fx.cel {A : World → Prop} {w : World} {α : Type} {C : Cel α} {P : Nat → Prop} {x : α} {c : List Value} (h : Fx A w) (hb : C.R w P x c) : Fx (fun w => C.R w P x c ∧ A w) w := h.add (B := fun w => C.R w P x c) hb fun _ _ h1 h2 => C.upd (Upd.of_new (S := fun _ => False) h2) (fun _ _ h => h) (fun _ h => h) h1
theorem row3 {w : World} {g : Nat} {c0 c1 c2 : Value} {T : TypeId} {fr : Nat × Nat} (h : w.heap[g]? = some (.cells #[c0, c1, c2] T fr)) : w.cell? ⟨g, 0, none⟩ = some c0 ∧ w.cell? ⟨g, 1, none⟩ = some c1 ∧ w.cell? ⟨g, 2, none⟩ = some c2 := ⟨row_cell h (j := 0) rfl, row_cell h (j := 1) rfl, row_cell h (j := 2) rfl⟩
theorem row5 {w : World} {g : Nat} {c0 c1 c2 c3 c4 : Value} {T : TypeId} {fr : Nat × Nat} (h : w.heap[g]? = some (.cells #[c0, c1, c2, c3, c4] T fr)) : w.cell? ⟨g, 0, none⟩ = some c0 ∧ w.cell? ⟨g, 1, none⟩ = some c1 ∧ w.cell? ⟨g, 2, none⟩ = some c2 ∧ w.cell? ⟨g, 3, none⟩ = some c3 ∧ w.cell? ⟨g, 4, none⟩ = some c4 := ⟨row_cell h (j := 0) rfl, row_cell h (j := 1) rfl, row_cell h (j := 2) rfl, row_cell h (j := 3) rfl, row_cell h (j := 4) rfl⟩
theorem first_rd : scrd [10, 1, 97] 0 = .ok (([97], [], [], 0), []) := by
  have h := sc_back (a := [97]) (b := []) (l := []) (n := 0) (u := []) (d := 0) ⟨by rw [ksfit]; trivial, by show 0 < _; omega, by rw [ksw]; decide⟩ (by kernel_rfl)
  rwa [show sc_out (([97], [], [], 0), []) = [10, 1, 97] by kernel_rfl] at h
theorem first_mar (w : World) : Calls Tryz.prog 16 #[.agg #[.string ⟨#[97]⟩, .string ⟨#[]⟩, .slice none 0 0, .int .u32 0, .string ⟨#[]⟩], .int .i64 0] w fun e w' => e = .returned (.tuple #[.string ⟨#[10, 1, 97]⟩, .nilIface]) ∧ Below w.heap.size w w' := by
  refine (sc_marshal (([97], [], [], 0), []) [.string ⟨#[97]⟩, .string ⟨#[]⟩, .slice none 0 0, .int .u32 0, .string ⟨#[]⟩] (fun _ => False) 0 w ⟨by rw [ksfit]; trivial, by show 0 < _; omega, by rw [ksw]; decide⟩ ⟨none, 0, rfl, by rw [KRels]; trivial⟩ (by omega)).mono ?_
  rintro e w' ⟨hb, h⟩
  rw [show sc_may 0 (([97], [], [], 0), []) = true by kernel_rfl, if_pos rfl, show sc_out (([97], [], [], 0), []) = [10, 1, 97] by kernel_rfl] at h
  exact ⟨h, hb⟩
theorem first_marR (w : World) : Calls Tryz.prog 26 #[.agg #[.slice none 0 0, .int .u32 1, .string ⟨#[]⟩], .int .i64 0] w fun e w' => e = .returned (.tuple #[.string ⟨#[16, 1]⟩, .nilIface]) ∧ Below w.heap.size w w' := by
  refine (rs_marshal (([], 1), []) [.slice none 0 0, .int .u32 1, .string ⟨#[]⟩] (fun _ => False) 0 w ⟨by rw [ksfit]; trivial, by show 1 < _; omega, by rw [ksw]; decide⟩ ⟨none, 0, rfl, by rw [KRels]; trivial⟩ (by omega)).mono ?_
  rintro e w' ⟨hb, h⟩
  rw [show rs_may 0 (([], 1), []) = true by kernel_rfl, if_pos rfl, show rs_out (([], 1), []) = [16, 1] by kernel_rfl] at h
  exact ⟨h, hb⟩
set_option maxRecDepth 1000000 in
set_option maxHeartbeats 8000000 in
theorem first10 (w : World) : Calls Tryz.prog 9 #[] w fun e w' => e = .returned (.bool true) ∧ Below w.heap.size w w' := by
  have HUN := Lib.hid (fun w' => unsc_any (Lib.hid ukey_any) ⟨#[10, 1, 97]⟩ 0 w' (by decide) (by omega))
  rw [show (⟨#[10, 1, 97]⟩ : ByteArray).data.toList = [10, 1, 97] from rfl, first_rd] at HUN
  go_enter Tryz.func9, Tryz.ntmps9
  go_wp2_with fail
  refine (first_mar w).mono ?_; rintro e w1 ⟨rfl, hb1⟩
  have HB1 := Lib.hid hb1
  clear hb1
  go_wp2_with fail
  refine (HUN.out w1).mono ?_; rintro e w2 ⟨hb2, cs, rfl, lo, lc, rfl, _⟩
  have HB2 := Lib.hid (below_step HB1.out hb2)
  clear hb2
  dsimp only [strV]
  go_wp2_with fail
  obtain ⟨bl, hbl⟩ : ∃ b, w2.heap.size = b := ⟨_, rfl⟩
  obtain ⟨W3, hW⟩ : ∃ W, w2.alloc (.cells #[.string ⟨#[97]⟩, .string ⟨#[]⟩, .slice lo 0 lc, .int .u32 0, .string ⟨#[]⟩] 26) = W := ⟨_, rfl⟩
  have hb3 : Below w2.heap.size w2 W3 := by rw [← hW]; exact below_new _ _
  have hr : W3.heap[bl]? = some (.cells #[.string ⟨#[97]⟩, .string ⟨#[]⟩, .slice lo 0 lc, .int .u32 0, .string ⟨#[]⟩] 26 (0, 0)) := by rw [← hW, ← hbl]; exact new_row _ _ _
  have HB3 := Lib.hid (below_step HB2.out hb3)
  rw [hW, hbl]
  clear hW hbl hb3
  refine (first_marR W3).mono ?_; rintro e w4 ⟨rfl, hb4⟩
  have HB4 := Lib.hid (below_step HB3.out hb4)
  have hx0 : w4.cell? ⟨bl, 0, none⟩ = some (.string ⟨#[97]⟩) := row_cell ((hb4.block _ (row_lt hr)).trans hr) (j := 0) rfl
  clear hb4 hr
  go_wp2_with fail
  go_ret
  exact ⟨rfl, HB4.out⟩
end Go.Proofs.YtbdbmkmebeemoaaGreatDoor
