/-
  Messages by their fields: read, written, there and back, of any fields that do not share records.
-/
import Derived.Test.YtandoppfbilhbaaGreatDoorMsgMath
namespace Go.Proofs.YtandoppfbilhbaaGreatDoor

/-- a field of a message: what it takes, how it is read at a depth, written, what may be; inv: what holds after so many bytes -/
structure Fld where
  σ : Type
  z : σ
  tk : Rec → Bool
  step : Int → σ → Rec → Except Nat σ
  out : σ → List Rec
  may : Int → σ → Bool
  fit : σ → Prop
  wt : σ → Nat
  w0 : Nat
  inv : Int → σ → Nat → Prop
/-- reading a field's records -/
def Fld.rd (F : Fld) (d : Int) (s : F.σ) (rs : List Rec) : Except Nat F.σ := mfold F.tk (F.step d) s rs
structure Fld.Ok (F : Fld) : Prop where
  recs : ∀ s, F.fit s → F.wt s ≤ 1000000 → ∀ r ∈ F.out s, F.tk r = true ∧ ∀ d, IsRec d r
  back : ∀ s d, F.fit s → F.wt s ≤ 1000000 → 0 ≤ d → F.may d s = true → F.rd d F.z (F.out s) = .ok s
  less : ∀ s d d', F.fit s → F.wt s ≤ 1000000 → F.may d s = true → d' ≤ d → F.may d' s = false → ∃ c, F.rd d' F.z (F.out s) = .error c
  start : ∀ d, F.inv d F.z 0
  go : ∀ d s t r s', F.inv d s t → IsRec d r → F.tk r = true → t + r.raw.length ≤ 1000000 → F.step d s r = .ok s' → F.inv d s' (t + r.raw.length)
  ends : ∀ d s t, 0 ≤ d → F.inv d s t → t ≤ 1000000 → F.may d s = true ∧ F.fit s ∧ F.wt s ≤ F.w0 + 51 * t
/-- two fields beside each other -/
def Fld.and (A B : Fld) : Fld where
  σ := A.σ × B.σ
  z := (A.z, B.z)
  tk r := A.tk r || B.tk r
  step d s r := if A.tk r then (match A.step d s.1 r with
    | .error c => .error c
    | .ok a => .ok (a, s.2)) else (match B.step d s.2 r with
    | .error c => .error c
    | .ok b => .ok (s.1, b))
  out s := A.out s.1 ++ B.out s.2
  may d s := A.may d s.1 && B.may d s.2
  fit s := A.fit s.1 ∧ B.fit s.2
  wt s := A.wt s.1 + B.wt s.2
  w0 := A.w0 + B.w0
  inv d s t := ∃ t1 t2, t1 + t2 = t ∧ A.inv d s.1 t1 ∧ B.inv d s.2 t2
/-- they share no record -/
def Fld.Apart (A B : Fld) : Prop := ∀ r, ¬ (A.tk r = true ∧ B.tk r = true)
theorem mfold_filter {σ : Type} (tk : Rec → Bool) (step : σ → Rec → Except Nat σ) : ∀ (rs : List Rec) (s : σ), mfold tk step s (rs.filter tk) = mfold tk step s rs
  | [], _ => rfl
  | r :: rs, s => by
    rw [List.filter_cons]
    by_cases h : tk r = true
    · rw [if_pos h, mfold, mfold, if_pos h, if_pos h]
      cases step s r with
      | error c => rfl
      | ok s' => exact mfold_filter tk step rs s'
    · rw [if_neg h, mfold, if_neg h]
      exact mfold_filter tk step rs s
theorem Fld.and_1ok {A B : Fld} {d : Int} {a a' : A.σ} {b : B.σ} {r : Rec} (h : A.tk r = true) (e : A.step d a r = .ok a') : (A.and B).step d (a, b) r = .ok (a', b) := by simp only [Fld.and, h, e, ↓reduceIte]
theorem Fld.and_1no {A B : Fld} {d : Int} {a : A.σ} {b : B.σ} {r : Rec} {c : Nat} (h : A.tk r = true) (e : A.step d a r = .error c) : (A.and B).step d (a, b) r = .error c := by simp only [Fld.and, h, e, ↓reduceIte]
theorem Fld.and_2ok {A B : Fld} {d : Int} {a : A.σ} {b b' : B.σ} {r : Rec} (h : A.tk r = false) (e : B.step d b r = .ok b') : (A.and B).step d (a, b) r = .ok (a, b') := by simp only [Fld.and, h, e, Bool.false_eq_true, ↓reduceIte]
theorem Fld.and_2no {A B : Fld} {d : Int} {a : A.σ} {b : B.σ} {r : Rec} {c : Nat} (h : A.tk r = false) (e : B.step d b r = .error c) : (A.and B).step d (a, b) r = .error c := by simp only [Fld.and, h, e, Bool.false_eq_true, ↓reduceIte]
/-- reading both is reading each -/
theorem Fld.and_rd {A B : Fld} (hap : A.Apart B) (d : Int) : ∀ (rs : List Rec) (a : A.σ) (b : B.σ), match A.rd d a rs, B.rd d b rs with
    | .ok a', .ok b' => (A.and B).rd d (a, b) rs = .ok (a', b')
    | _, _ => ∃ c, (A.and B).rd d (a, b) rs = .error c
  | [], a, b => rfl
  | r :: rs, a, b => by
    show match mfold A.tk (A.step d) a (r :: rs), mfold B.tk (B.step d) b (r :: rs) with
      | .ok a', .ok b' => mfold (A.and B).tk ((A.and B).step d) (a, b) (r :: rs) = .ok (a', b')
      | _, _ => ∃ c, mfold (A.and B).tk ((A.and B).step d) (a, b) (r :: rs) = .error c
    simp only [mfold]
    cases ha : A.tk r with
    | true =>
      have hb : B.tk r = false := by cases h : B.tk r; rfl; exact absurd ⟨ha, h⟩ (hap r)
      have e1 : (A.and B).tk r = true := by show (A.tk r || B.tk r) = true; rw [ha]; rfl
      rw [hb, e1, if_pos rfl, if_pos rfl, if_neg (by simp)]
      have e2 : (A.and B).step d (a, b) r = match A.step d a r with
        | .error c => .error c
        | .ok a' => .ok (a', b) := by simp only [Fld.and, ha, ↓reduceIte]
      rw [e2]
      cases A.step d a r with
      | error c => dsimp only; exact ⟨c, rfl⟩
      | ok a' => exact Fld.and_rd hap d rs a' b
    | false =>
      rw [if_neg (by simp)]
      cases hb : B.tk r with
      | true =>
        have e1 : (A.and B).tk r = true := by show (A.tk r || B.tk r) = true; rw [ha, hb]; rfl
        rw [e1, if_pos rfl, if_pos rfl]
        have e2 : (A.and B).step d (a, b) r = match B.step d b r with
          | .error c => .error c
          | .ok b' => .ok (a, b') := by simp only [Fld.and, ha, Bool.false_eq_true, ↓reduceIte]
        rw [e2]
        cases B.step d b r with
        | error c =>
          dsimp only
          have := Fld.and_rd hap d rs a b
          cases mfold A.tk (A.step d) a rs <;> exact ⟨c, rfl⟩
        | ok b' => exact Fld.and_rd hap d rs a b'
      | false =>
        have e1 : (A.and B).tk r = false := by show (A.tk r || B.tk r) = false; rw [ha, hb]; rfl
        rw [e1, if_neg (by simp), if_neg (by simp)]
        exact Fld.and_rd hap d rs a b
theorem Fld.and_ok {A B : Fld} (hap : A.Apart B) {d : Int} {rs : List Rec} {a : A.σ} {b : B.σ} {a' : A.σ} {b' : B.σ} (ha : A.rd d a rs = .ok a') (hb : B.rd d b rs = .ok b') : (A.and B).rd d (a, b) rs = .ok (a', b') := by
  have := Fld.and_rd hap d rs a b
  rw [ha, hb] at this
  exact this
theorem Fld.and_no1 {A B : Fld} (hap : A.Apart B) {d : Int} {rs : List Rec} {a : A.σ} {b : B.σ} (h : ∃ c, A.rd d a rs = .error c) : ∃ c, (A.and B).rd d (a, b) rs = .error c := by
  obtain ⟨c, h⟩ := h
  have := Fld.and_rd hap d rs a b
  rw [h] at this
  exact this
theorem Fld.and_no2 {A B : Fld} (hap : A.Apart B) {d : Int} {rs : List Rec} {a : A.σ} {b : B.σ} (h : ∃ c, B.rd d b rs = .error c) : ∃ c, (A.and B).rd d (a, b) rs = .error c := by
  obtain ⟨c, h⟩ := h
  have := Fld.and_rd hap d rs a b
  rw [h] at this
  cases hA : A.rd d a rs with
  | error c2 => rw [hA] at this; exact this
  | ok x => rw [hA] at this; exact this
theorem filter_self {p : Rec → Bool} {l : List Rec} (h : ∀ r ∈ l, p r = true) : l.filter p = l := List.filter_eq_self.2 h
theorem filter_none {p : Rec → Bool} {l : List Rec} (h : ∀ r ∈ l, p r = false) : l.filter p = [] := List.filter_eq_nil_iff.2 fun r hr => by rw [h r hr]; simp
/-- what another field's records are to a field: nothing -/
theorem Fld.rd_other {A : Fld} {d : Int} {s : A.σ} {rs ts : List Rec} (h : ts.filter A.tk = rs) : A.rd d s ts = A.rd d s rs := by
  unfold Fld.rd
  rw [← h, mfold_filter]
theorem Fld.Ok.and {A B : Fld} (hA : A.Ok) (hB : B.Ok) (hap : A.Apart B) : (A.and B).Ok where
  recs := fun s hf hw r hr => by
    rcases List.mem_append.1 hr with h | h
    · have := hA.recs s.1 hf.1 (by have : A.wt s.1 + B.wt s.2 ≤ 1000000 := hw; omega) r h
      exact ⟨by show (A.tk r || B.tk r) = true; rw [this.1]; rfl, this.2⟩
    · have := hB.recs s.2 hf.2 (by have : A.wt s.1 + B.wt s.2 ≤ 1000000 := hw; omega) r h
      exact ⟨by show (A.tk r || B.tk r) = true; rw [this.1, Bool.or_true], this.2⟩
  back := fun s d hf hw hd hm => by
    have hw : A.wt s.1 + B.wt s.2 ≤ 1000000 := hw
    have hm : (A.may d s.1 && B.may d s.2) = true := hm
    rw [Bool.and_eq_true] at hm
    have ra := hA.recs s.1 hf.1 (by omega)
    have rb := hB.recs s.2 hf.2 (by omega)
    have fa : (A.out s.1 ++ B.out s.2).filter A.tk = A.out s.1 := by
      rw [List.filter_append, filter_self fun r hr => (ra r hr).1, filter_none fun r hr => ?_, List.append_nil]
      cases h : A.tk r
      · rfl
      · exact absurd ⟨h, (rb r hr).1⟩ (hap r)
    have fb : (A.out s.1 ++ B.out s.2).filter B.tk = B.out s.2 := by
      rw [List.filter_append, filter_none fun r hr => ?_, filter_self fun r hr => (rb r hr).1, List.nil_append]
      cases h : B.tk r
      · rfl
      · exact absurd ⟨(ra r hr).1, h⟩ (hap r)
    exact Fld.and_ok hap ((Fld.rd_other fa).trans (hA.back s.1 d hf.1 (by omega) hd hm.1)) ((Fld.rd_other fb).trans (hB.back s.2 d hf.2 (by omega) hd hm.2))
  less := fun s d d' hf hw hm hle hn => by
    have hw : A.wt s.1 + B.wt s.2 ≤ 1000000 := hw
    have hm : (A.may d s.1 && B.may d s.2) = true := hm
    have hn : (A.may d' s.1 && B.may d' s.2) = false := hn
    rw [Bool.and_eq_true] at hm
    have ra := hA.recs s.1 hf.1 (by omega)
    have rb := hB.recs s.2 hf.2 (by omega)
    have fa : (A.out s.1 ++ B.out s.2).filter A.tk = A.out s.1 := by
      rw [List.filter_append, filter_self fun r hr => (ra r hr).1, filter_none fun r hr => ?_, List.append_nil]
      cases h : A.tk r
      · rfl
      · exact absurd ⟨h, (rb r hr).1⟩ (hap r)
    have fb : (A.out s.1 ++ B.out s.2).filter B.tk = B.out s.2 := by
      rw [List.filter_append, filter_none fun r hr => ?_, filter_self fun r hr => (rb r hr).1, List.nil_append]
      cases h : B.tk r
      · rfl
      · exact absurd ⟨(ra r hr).1, h⟩ (hap r)
    cases h1 : A.may d' s.1 with
    | false =>
      obtain ⟨c, hc⟩ := hA.less s.1 d d' hf.1 (by omega) hm.1 hle h1
      exact Fld.and_no1 hap ⟨c, (Fld.rd_other fa).trans hc⟩
    | true =>
      rw [h1, Bool.true_and] at hn
      obtain ⟨c, hc⟩ := hB.less s.2 d d' hf.2 (by omega) hm.2 hle hn
      exact Fld.and_no2 hap ⟨c, (Fld.rd_other fb).trans hc⟩
  start := fun d => ⟨0, 0, rfl, hA.start d, hB.start d⟩
  go := fun d s t r s' hi hr hk ht hs => by
    obtain ⟨t1, t2, rfl, i1, i2⟩ := hi
    have hs : (if A.tk r then (match A.step d s.1 r with
      | .error c => .error c
      | .ok a => .ok (a, s.2)) else (match B.step d s.2 r with
      | .error c => .error c
      | .ok b => .ok (s.1, b))) = Except.ok s' := hs
    have hk : (A.tk r || B.tk r) = true := hk
    split at hs
    · rename_i ha
      split at hs
      · cases hs
      · rename_i a hst
        obtain rfl := Except.ok.inj hs
        exact ⟨t1 + r.raw.length, t2, by omega, hA.go d s.1 t1 r a i1 hr ha (by omega) hst, i2⟩
    · rename_i ha
      split at hs
      · cases hs
      · rename_i b hst
        obtain rfl := Except.ok.inj hs
        have hb : B.tk r = true := by
          cases h : A.tk r
          · rw [h, Bool.false_or] at hk; exact hk
          · exact absurd h ha
        exact ⟨t1, t2 + r.raw.length, by omega, i1, hB.go d s.2 t2 r b i2 hr hb (by omega) hst⟩
  ends := fun d s t hd hi ht => by
    obtain ⟨t1, t2, rfl, i1, i2⟩ := hi
    obtain ⟨a1, a2, a3⟩ := hA.ends d s.1 t1 hd i1 (by omega)
    obtain ⟨b1, b2, b3⟩ := hB.ends d s.2 t2 hd i2 (by omega)
    refine ⟨?_, ⟨a2, b2⟩, ?_⟩
    · show (A.may d s.1 && B.may d s.2) = true
      rw [a1, b1]; rfl
    · show A.wt s.1 + B.wt s.2 ≤ A.w0 + B.w0 + 51 * (t1 + t2)
      omega
/-- a message: its records may stand in another order than its fields: what each field takes of them is what it writes -/
theorem Fld.msg_back {F : Fld} (hF : F.Ok) {rs : List Rec} {s : F.σ} {u : List UInt8} {d : Int} (hf : F.fit s) (hw : F.wt s ≤ 1000000) (hd : 0 ≤ d) (hrs : ∀ r ∈ rs, F.tk r = true ∧ ∀ d, IsRec d r) (hrd : ∀ d', F.rd d' F.z rs = F.rd d' F.z (F.out s)) (e : Int) (hm : F.may e s = true) (he : 0 ≤ e) (hu : munkOk F.tk u d = true) :
    mread F.tk (F.step e) F.z (rs.flatMap Rec.raw ++ u) d = .ok (s, u) :=
  mread_put_ok hd (fun r hr => (hrs r hr).2) ((hrd e).trans (hF.back s e hf hw he hm)) (by rw [List.all_eq_true]; exact fun r hr => (hrs r hr).1) hu
end Go.Proofs.YtandoppfbilhbaaGreatDoor
