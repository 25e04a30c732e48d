/-
  hyglaw11.ExemJoins: for every input the law returns true, and the input stays as it was.
-/
import Derived.Test.YtandoppfbilhbaaGreatDoorValTwice
import Derived.Test.YtandoppfbilhbaaGreatDoorWireP
import Derived.Test.YtandoppfbilhbaaGreatDoorFldC
import Derived.Test.YtandoppfbilhbaaGreatDoorTaker
import Derived.Test.YtandoppfbilhbaaGreatDoorValKey
import Derived.Test.YtandoppfbilhbaaGreatDoorPartK
import Derived.Test.YtandoppfbilhbaaGreatDoorErrNew
import Derived.Test.YtandoppfbilhbaaGreatDoorDoor
import Derived.Test.YtandoppfbilhbaaGreatDoorRow
namespace Go.Proofs.YtandoppfbilhbaaGreatDoor
open Go.RowKit

theorem mread_unk {σ : Type} {tk : Rec → Bool} {step : σ → Rec → Except Nat σ} {st st' : σ} {l u : List UInt8} {d : Int} (h : mread tk step st l d = .ok (st', u)) : u.length ≤ l.length := by
  obtain ⟨_, rs, _, h2, _, h4, _⟩ := mread_inv h
  have := tlen_munk tk rs
  rw [h4, ← h2] at this
  omega
end Go.Proofs.YtandoppfbilhbaaGreatDoor

namespace Go.Proofs.YtandoppfbilhbaaGreatDoor
open Go.RowKit

variable {F : Fld}
/-- what was read may be -/
theorem fld_twice (hF : F.Ok) {l u : List UInt8} {s : F.σ} {d : Int} (hl : l.length ≤ 500000) (h : mread F.tk (F.step d) F.z l d = .ok (s, u)) : 0 ≤ d ∧ F.may d s = true ∧ munkOk F.tk u d = true ∧ F.fit s ∧ F.wt s + u.length ≤ F.w0 + 51 * l.length := by
  obtain ⟨h0, rs, h1, h2, h3, h4, h5⟩ := mread_inv h
  have h6 := tlen_munk F.tk rs
  rw [h4, ← h2] at h6
  have hi := mfold_tlen (d := d) 1000000 (F.inv d) (hF.go d) rs F.z s 0 h3 (hF.start d) (by omega) h1
  rw [Nat.zero_add] at hi
  obtain ⟨e1, e2, e3⟩ := hF.ends d s _ h0 hi (by omega)
  exact ⟨h0, e1, h5, e2, by omega⟩
/-- errors do not look at what was read before -/
def Fld.Free (F : Fld) : Prop := ∀ d s s' r y, F.step d s r = .ok y → ∃ y', F.step d s' r = .ok y'
theorem Fld.Free.rd (h : F.Free) {d : Int} : ∀ (rs : List Rec) (s s' : F.σ) {y : F.σ}, F.rd d s rs = .ok y → ∃ y', F.rd d s' rs = .ok y'
  | [], _, s', _, _ => ⟨s', rfl⟩
  | r :: rs, s, s', y, hy => by
    have hy : mfold F.tk (F.step d) s (r :: rs) = .ok y := hy
    show ∃ y', mfold F.tk (F.step d) s' (r :: rs) = .ok y'
    simp only [mfold] at hy ⊢
    split at hy
    · rename_i hk
      rw [if_pos hk]
      split at hy
      · cases hy
      · rename_i s1 hs
        obtain ⟨s2, h2⟩ := h d s s' r s1 hs
        rw [h2]
        exact Fld.Free.rd h rs s1 s2 hy
    · rename_i hk
      rw [if_neg hk]
      exact Fld.Free.rd h rs s s' hy
theorem Fld.Free.and {A B : Fld} (hA : A.Free) (hB : B.Free) : (A.and B).Free := fun d s s' r y hy => by
  obtain ⟨a, b⟩ := s
  obtain ⟨a', b'⟩ := s'
  cases hk : A.tk r with
  | true =>
    cases ha : A.step d a r with
    | error c => rw [Fld.and_1no hk ha] at hy; cases hy
    | ok a1 =>
      obtain ⟨a2, h2⟩ := hA d a a' r a1 ha
      exact ⟨_, Fld.and_1ok hk h2⟩
  | false =>
    cases hb : B.step d b r with
    | error c => rw [Fld.and_2no hk hb] at hy; cases hy
    | ok b1 =>
      obtain ⟨b2, h2⟩ := hB d b b' r b1 hb
      exact ⟨_, Fld.and_2ok hk h2⟩
theorem kvF_free (num : Nat) : (listF num kvS).Free := fun d s s' r y hy => by
  cases h : kread 1000001 r.s (d - 1) with
  | error c => exact absurd ((kv_no (num := num) (l := s) h).symm.trans hy) (by intro e; cases e)
  | ok x => exact ⟨_, kv_ok h⟩
/-- each field of what was read -/
theorem Fld.and_fst {A B : Fld} (hap : A.Apart B) {d : Int} {rs : List Rec} {a a' : A.σ} {b b' : B.σ} (h : (A.and B).rd d (a, b) rs = .ok (a', b')) : A.rd d a rs = .ok a' ∧ B.rd d b rs = .ok b' := by
  have h1 := Fld.and_rd hap d rs a b
  cases ha : A.rd d a rs with
  | error c => rw [ha] at h1; obtain ⟨c, h1⟩ := h1; rw [h1] at h; cases h
  | ok a1 =>
    cases hb : B.rd d b rs with
    | error c => rw [ha, hb] at h1; obtain ⟨c, h1⟩ := h1; rw [h1] at h; cases h
    | ok b1 =>
      rw [ha, hb] at h1
      have h1 : (A.and B).rd d (a, b) rs = .ok (a1, b1) := h1
      rw [h1] at h
      have h := Except.ok.inj h
      exact ⟨by rw [(Prod.mk.inj h).1], by rw [(Prod.mk.inj h).2]⟩
theorem kv_count {num : Nat} {d : Int} : ∀ (rs : List Rec) (s y : List KV), mfold (listTk num) (listStep kvS d) s rs = .ok y → y.length = s.length + (rs.filter (listTk num)).length
  | [], s, y, h => by simp only [mfold, Except.ok.injEq] at h; subst h; simp
  | r :: rs, s, y, h => by
    rw [mfold] at h
    rw [List.filter_cons]
    split at h
    · rename_i hk
      rw [if_pos hk]
      split at h
      · cases h
      · rename_i s1 hs
        have := kv_count rs s1 y h
        unfold listStep at hs
        split at hs
        · cases hs
        · simp only [Except.ok.injEq] at hs
          subst hs
          rw [List.length_append] at this
          simp only [List.length_cons, List.length_nil] at this ⊢
          omega
    · rename_i hk
      rw [if_neg hk]
      exact kv_count rs s y h
/-- one behind the other -/
theorem fld_join {F : Fld} (hf : F.Free) {s t u v : List UInt8} {x y : F.σ} {d : Int} (h1 : mread F.tk (F.step d) F.z s d = .ok (x, u)) (h2 : mread F.tk (F.step d) F.z t d = .ok (y, v)) : ∃ z rs ts, mread F.tk (F.step d) F.z (s ++ t) d = .ok (z, u ++ v) ∧ F.rd d F.z rs = .ok x ∧ F.rd d F.z ts = .ok y ∧ F.rd d F.z (rs ++ ts) = .ok z := by
  unfold mread at h1 h2
  split at h1
  · cases h1
  · rename_i h0
    rw [if_neg h0] at h2
    cases hw1 : wall s d with
    | error c => rw [hw1] at h1; cases h1
    | ok rs =>
      cases hw2 : wall t d with
      | error c => rw [hw2] at h2; cases h2
      | ok ts =>
        rw [hw1] at h1
        rw [hw2] at h2
        dsimp only at h1 h2
        cases hf1 : mfold F.tk (F.step d) F.z rs with
        | error c => rw [hf1] at h1; cases h1
        | ok x1 =>
          cases hf2 : mfold F.tk (F.step d) F.z ts with
          | error c => rw [hf2] at h2; cases h2
          | ok y1 =>
            rw [hf1] at h1
            rw [hf2] at h2
            simp only [Except.ok.injEq, Prod.mk.injEq] at h1 h2
            obtain ⟨rfl, rfl⟩ := h1
            obtain ⟨rfl, rfl⟩ := h2
            obtain ⟨z, hz⟩ := hf.rd ts F.z x1 hf2
            have hz : mfold F.tk (F.step d) x1 ts = .ok z := hz
            have hz2 : mfold F.tk (F.step d) F.z (rs ++ ts) = .ok z := by rw [mfold_append, hf1]; exact hz
            refine ⟨z, rs, ts, ?_, hf1, hf2, hz2⟩
            unfold mread
            rw [if_neg h0, wall_append _ t (Nat.le_refl _) hw1, hw2]
            dsimp only
            rw [hz2]
            dsimp only
            rw [munk_append]
/-- a field's errors have codes that stand in the document's list -/
def Fld.Code (F : Fld) : Prop := ∀ d s r c, F.step d s r = .error c → VCode c
theorem Fld.Code.and {A B : Fld} (hA : A.Code) (hB : B.Code) : (A.and B).Code := fun d s r c h => by
  have h : (if A.tk r then (match A.step d s.1 r with
    | .error c => .error c
    | .ok a => .ok (a, s.2)) else (match B.step d s.2 r with
    | .error c => .error c
    | .ok b => .ok (s.1, b))) = (Except.error c : Except Nat (A.σ × B.σ)) := h
  split at h
  · cases ha : A.step d s.1 r with
    | error c' => rw [ha] at h; obtain rfl := Except.error.inj h; exact hA _ _ _ _ ha
    | ok a => rw [ha] at h; cases h
  · cases hb : B.step d s.2 r with
    | error c' => rw [hb] at h; obtain rfl := Except.error.inj h; exact hB _ _ _ _ hb
    | ok a => rw [hb] at h; cases h
theorem numF_free (num : Nat) : (numF num).Free := fun _ _ _ _ _ _ => ⟨_, rfl⟩
theorem bytesF_free (num : Nat) : (bytesF num).Free := fun _ _ _ _ _ _ => ⟨_, rfl⟩
theorem kindF_free (a b : Nat) : (kindF a b).Free := fun _ _ _ _ _ _ => ⟨_, rfl⟩
theorem Fld.Free.wrap {A B : Fld} (hA : A.Free) (hB : B.Free) (pre post : A.σ → List Rec) : (A.wrap B pre post).Free := fun d s s' r y h => (hA.and hB) d s s' r y h
theorem Fld.Code.wrap {A B : Fld} (hA : A.Code) (hB : B.Code) (pre post : A.σ → List Rec) : (A.wrap B pre post).Code := fun d s r c h => (hA.and hB) d s r c h
theorem Fld.wrap_fst {A B : Fld} (hap : A.Apart B) {pre post : A.σ → List Rec} {d : Int} {rs : List Rec} {a a' : A.σ} {b b' : B.σ} (h : (A.wrap B pre post).rd d (a, b) rs = .ok (a', b')) : A.rd d a rs = .ok a' ∧ B.rd d b rs = .ok b' := Fld.and_fst hap h
def kindStep (b : Nat) (_ : Int × Nat) (r : Rec) : Except Nat (Int × Nat) := .ok (if r.num = b then 2 else 1, r.n)
/-- the last number of a kind counts -/
theorem kind_from {tk : Rec → Bool} {b : Nat} : ∀ (rs : List Rec) (s y : Int × Nat), mfold (σ := Int × Nat) tk (kindStep b) s rs = .ok y → (y = s ∧ mfold (σ := Int × Nat) tk (kindStep b) (0, 0) rs = .ok (0, 0)) ∨ (0 < y.1 ∧ mfold (σ := Int × Nat) tk (kindStep b) (0, 0) rs = .ok y)
  | [], s, y, h => by
    rw [mfold] at h
    exact .inl ⟨(Except.ok.inj h).symm, rfl⟩
  | r :: rs, s, y, h => by
    rw [mfold] at h ⊢
    cases hk : tk r with
    | false =>
      rw [hk, if_neg (by simp)] at h
      rw [if_neg (by simp)]
      exact kind_from rs s y h
    | true =>
      rw [hk, if_pos rfl] at h
      rw [if_pos rfl]
      have h : mfold (σ := Int × Nat) tk (kindStep b) (if r.num = b then 2 else 1, r.n) rs = .ok y := h
      refine .inr ⟨?_, h⟩
      rcases kind_from rs _ y h with ⟨h1, _⟩ | ⟨h1, _⟩
      · rw [h1]; show 0 < (if r.num = b then (2 : Int) else 1); split <;> decide
      · exact h1
theorem kind_join {a b : Nat} {d : Int} {rs ts : List Rec} {x y z : Int × Nat} (h1 : (kindF a b).rd d ((0 : Int), (0 : Nat)) rs = .ok x) (h2 : (kindF a b).rd d ((0 : Int), (0 : Nat)) ts = .ok y) (h3 : (kindF a b).rd d ((0 : Int), (0 : Nat)) (rs ++ ts) = .ok z) : (y.1 = 0 ∧ z = x) ∨ (0 < y.1 ∧ z = y) := by
  have h1 : mfold (σ := Int × Nat) (kindF a b).tk (kindStep b) (0, 0) rs = .ok x := h1
  have h2 : mfold (σ := Int × Nat) (kindF a b).tk (kindStep b) (0, 0) ts = .ok y := h2
  have h3 : mfold (σ := Int × Nat) (kindF a b).tk (kindStep b) (0, 0) (rs ++ ts) = .ok z := h3
  rw [mfold_append, h1] at h3
  dsimp only at h3
  rcases kind_from ts x z h3 with ⟨e, h⟩ | ⟨e, h⟩
  · rw [h2] at h
    have h := Except.ok.inj h
    exact .inl ⟨by rw [h], e⟩
  · rw [h2] at h
    have h := Except.ok.inj h
    exact .inr ⟨by rw [h]; exact e, h.symm⟩
end Go.Proofs.YtandoppfbilhbaaGreatDoor

namespace Go.Proofs.YtandoppfbilhbaaGreatDoor
open Go.RowKit

/-- what an exemplar has -/
def exF : Fld := (numF 2).and (((kindF 3 6).wrap ((bytesF 4).and (bytesF 5)) (fun s => if s.1 = 1 then [rF 3 s.2] else []) (fun s => if s.1 = 2 then [rF 6 s.2] else [])).and (listF 7 kvS))
theorem exF_ok : exF.Ok := (numF_ok (by omega) (by omega)).and (((kindF_ok (by omega) (by omega) (by omega) (by omega) (by omega)).wrap ((bytesF_ok (by omega) (by omega)).and (bytesF_ok (by omega) (by omega)) (apart_of fun r h => by simp only [bytesF, decide_eq_true_eq] at h; simp only [bytesF, decide_eq_false_iff_not]; omega)) (apart_of fun r h => by simp only [kindF, decide_eq_true_eq] at h; simp only [Fld.and, bytesF, Bool.or_eq_false_iff, decide_eq_false_iff_not]; omega) (fun s => by show (if s.1 = 1 then [rF 3 s.2] else []) ++ (if s.1 = 2 then [rF 6 s.2] else []) = (if s.1 = 1 then [rF 3 s.2] else if s.1 = 2 then [rF 6 s.2] else []); by_cases h1 : s.1 = 1 <;> by_cases h2 : s.1 = 2 <;> simp_all)).and (listF_ok kvS_ok (by omega) (by omega)) (apart_of fun r h => by simp only [Fld.and, Fld.wrap, bytesF, kindF, Bool.or_eq_true, decide_eq_true_eq] at h; simp only [listF, listTk, decide_eq_false_iff_not]; omega)) (apart_of fun r h => by simp only [numF, decide_eq_true_eq] at h; simp only [Fld.and, Fld.wrap, bytesF, kindF, listF, listTk, Bool.or_eq_false_iff, decide_eq_false_iff_not]; omega)
theorem exF_tk (r : Rec) : exF.tk r = decide ((r.num = 2 ∧ r.ty = 1) ∨ ((((r.num = 3 ∨ r.num = 6) ∧ r.ty = 1) ∨ ((r.num = 4 ∧ r.ty = 2) ∨ (r.num = 5 ∧ r.ty = 2))) ∨ (r.num = 7 ∧ r.ty = 2))) := by
  rw [Bool.eq_iff_iff]
  simp only [exF, Fld.and, Fld.wrap, numF, bytesF, kindF, listF, listTk, Bool.or_eq_true, decide_eq_true_eq]
theorem exF_2 {r : Rec} (h : r.num = 2 ∧ r.ty = 1) (d : Int) (t : Nat) (k : Int) (n : Nat) (a : List UInt8) (b : List UInt8) (l : List KV) : exF.step d (t, (((k, n), (a, b)), l)) r = .ok (r.n, (((k, n), (a, b)), l)) :=
  (Fld.and_1ok (by simp only [numF, decide_eq_true_eq]; omega) rfl)
theorem exF_3 {r : Rec} (h : r.num = 3 ∧ r.ty = 1) (d : Int) (t : Nat) (k : Int) (n : Nat) (a : List UInt8) (b : List UInt8) (l : List KV) : exF.step d (t, (((k, n), (a, b)), l)) r = .ok (t, (((1, r.n), (a, b)), l)) :=
  (Fld.and_2ok (by simp only [numF, decide_eq_false_iff_not]; omega) (Fld.and_1ok (by simp only [Fld.and, Fld.wrap, bytesF, kindF, Bool.or_eq_true, decide_eq_true_eq]; omega) (Fld.and_1ok (by simp only [kindF, decide_eq_true_eq]; omega) (show Except.ok ((if r.num = 6 then (2 : Int) else 1), r.n) = _ by rw [h.1]; rfl))))
theorem exF_6 {r : Rec} (h : r.num = 6 ∧ r.ty = 1) (d : Int) (t : Nat) (k : Int) (n : Nat) (a : List UInt8) (b : List UInt8) (l : List KV) : exF.step d (t, (((k, n), (a, b)), l)) r = .ok (t, (((2, r.n), (a, b)), l)) :=
  (Fld.and_2ok (by simp only [numF, decide_eq_false_iff_not]; omega) (Fld.and_1ok (by simp only [Fld.and, Fld.wrap, bytesF, kindF, Bool.or_eq_true, decide_eq_true_eq]; omega) (Fld.and_1ok (by simp only [kindF, decide_eq_true_eq]; omega) (show Except.ok ((if r.num = 6 then (2 : Int) else 1), r.n) = _ by rw [h.1]; rfl))))
theorem exF_4 {r : Rec} (h : r.num = 4 ∧ r.ty = 2) (d : Int) (t : Nat) (k : Int) (n : Nat) (a : List UInt8) (b : List UInt8) (l : List KV) : exF.step d (t, (((k, n), (a, b)), l)) r = .ok (t, (((k, n), (r.s, b)), l)) :=
  (Fld.and_2ok (by simp only [numF, decide_eq_false_iff_not]; omega) (Fld.and_1ok (by simp only [Fld.and, Fld.wrap, bytesF, kindF, Bool.or_eq_true, decide_eq_true_eq]; omega) (Fld.and_2ok (by simp only [kindF, decide_eq_false_iff_not]; omega) (Fld.and_1ok (by simp only [bytesF, decide_eq_true_eq]; omega) rfl))))
theorem exF_5 {r : Rec} (h : r.num = 5 ∧ r.ty = 2) (d : Int) (t : Nat) (k : Int) (n : Nat) (a : List UInt8) (b : List UInt8) (l : List KV) : exF.step d (t, (((k, n), (a, b)), l)) r = .ok (t, (((k, n), (a, r.s)), l)) :=
  (Fld.and_2ok (by simp only [numF, decide_eq_false_iff_not]; omega) (Fld.and_1ok (by simp only [Fld.and, Fld.wrap, bytesF, kindF, Bool.or_eq_true, decide_eq_true_eq]; omega) (Fld.and_2ok (by simp only [kindF, decide_eq_false_iff_not]; omega) (Fld.and_2ok (by simp only [bytesF, decide_eq_false_iff_not]; omega) rfl))))
theorem exF_7 {r : Rec} (h : r.num = 7 ∧ r.ty = 2) (d : Int) (t : Nat) (k : Int) (n : Nat) (a : List UInt8) (b : List UInt8) (l : List KV) : exF.step d (t, (((k, n), (a, b)), l)) r = match kread 1000001 r.s (d - 1) with
    | .error c => .error c
    | .ok x => .ok (t, (((k, n), (a, b)), l ++ [x])) := by
  cases e : kread 1000001 r.s (d - 1) with
  | error c => exact (Fld.and_2no (by simp only [numF, decide_eq_false_iff_not]; omega) (Fld.and_2no (by simp only [Fld.and, Fld.wrap, bytesF, kindF, Bool.or_eq_false_iff, decide_eq_false_iff_not]; omega) (kv_no e)))
  | ok x => exact (Fld.and_2ok (by simp only [numF, decide_eq_false_iff_not]; omega) (Fld.and_2ok (by simp only [Fld.and, Fld.wrap, bytesF, kindF, Bool.or_eq_false_iff, decide_eq_false_iff_not]; omega) (kv_ok e)))
end Go.Proofs.YtandoppfbilhbaaGreatDoor

namespace Go.Proofs.YtandoppfbilhbaaGreatDoor
open Go.RowKit

abbrev Ex : Type := (Nat × ((Int × Nat) × List UInt8 × List UInt8) × List KV) × List UInt8
/-- in memory, with what is unknown behind it -/
def ExRel (w : World) (P : Nat → Prop) : Ex → List Value → Prop
  | ((t, (((k, n), (a, b)), l)), u), cs => ∃ (lo : Option Addr) (lc : Nat), cs = [.slice lo l.length lc, .int .u64 (t : Int), .int .i64 k, .int .u64 (n : Int), strV a, strV b, strV u] ∧ KRels w P l lo 0
def exCel : Cel Ex where
  R := ExRel
  size := 7
  len := by rintro w P ⟨⟨t, ⟨⟨⟨k, n⟩, ⟨a, b⟩⟩, l⟩⟩, u⟩ cs ⟨lo, lc, rfl, _⟩; rfl
  upd := by rintro w w' S P Q ⟨⟨t, ⟨⟨⟨k, n⟩, ⟨a, b⟩⟩, l⟩⟩, u⟩ cs hu hs hq ⟨lo, lc, h, h0⟩; exact ⟨lo, lc, h, KRels.upd hu hs hq _ _ _ h0⟩
  lt := by rintro w P ⟨⟨t, ⟨⟨⟨k, n⟩, ⟨a, b⟩⟩, l⟩⟩, u⟩ cs ⟨lo, lc, h, h0⟩; exact ⟨lo, lc, h, KRels.lt _ _ _ h0⟩
def exzero : Array Value := #[.slice none 0 0, .int .u64 0, .int .i64 0, .int .u64 0, .string ⟨#[]⟩, .string ⟨#[]⟩, .string ⟨#[]⟩]
def exrd (l : List UInt8) (d : Int) : Except Nat Ex := mread (σ := Nat × ((Int × Nat) × List UInt8 × List UInt8) × List KV) exF.tk (exF.step d) exF.z l d
theorem ex_form {rd : Except Nat Ex} {n : Nat} {w w' : World} {e : Ending} (h : RdPost exCel exzero rd n w e w') : Below w.heap.size w w' ∧ ∃ (lo : Option Addr) (llo lc : Nat) (jt : Int) (jk : Int) (jn : Int) (Xa : ByteArray) (Xb : ByteArray) (Xu : ByteArray) (v : Value), e = .returned (.tuple #[.agg #[.slice lo llo lc, .int .u64 jt, .int .i64 jk, .int .u64 jn, .string Xa, .string Xb, .string Xu], v]) := by
  obtain ⟨hb, h⟩ := h
  refine ⟨hb, ?_⟩
  cases rd with
  | error c => obtain ⟨v, q, rfl, _⟩ := h; exact ⟨_, _, _, _, _, _, _, _, _, _, rfl⟩
  | ok x => obtain ⟨cs, rfl, h⟩ := h; obtain ⟨⟨t, ⟨⟨⟨k, n⟩, ⟨a, b⟩⟩, l⟩⟩, u⟩ := x; obtain ⟨lo, lc, rfl, _⟩ := h; exact ⟨_, _, _, _, _, _, _, _, _, _, rfl⟩
end Go.Proofs.YtandoppfbilhbaaGreatDoor

namespace Go.Proofs.YtandoppfbilhbaaGreatDoor
open Go.RowKit

def ex_may (d : Int) : Ex → Bool
  | ((_, (((k, n), (_, _)), l)), u) => decide (0 ≤ d) && ((decide (k = 0 ∧ n = 0 ∨ k = 1 ∨ k = 2) && kmays l d) && munkOk exF.tk u d)
def ex_out : Ex → List UInt8
  | ((t, (((k, n), (a, b)), l)), u) => (if t = 0 then [] else (rF 2 t).raw) ++ (if k = 1 then (rF 3 n).raw else []) ++ (if a = [] then [] else (rB 4 a).raw) ++ (if b = [] then [] else (rB 5 b).raw) ++ (if k = 2 then (rF 6 n).raw else []) ++ kouts 7 l ++ u
/-- little enough to be written -/
def ex_fit : Ex → Prop
  | ((t, (((_, n), (a, b)), l)), u) => t < 18446744073709551616 ∧ n < 18446744073709551616 ∧ ksfit l ∧ a.length + b.length + ksw l + u.length ≤ 400000
theorem ex_mayF (d : Int) {t : Nat} {k : Int} {n : Nat} {a : List UInt8} {b : List UInt8} {l : List KV} {u : List UInt8} : ex_may d ((t, (((k, n), (a, b)), l)), u) = (decide (0 ≤ d) && (exF.may d (t, (((k, n), (a, b)), l)) && munkOk exF.tk u d)) := by
  have h : exF.may d (t, (((k, n), (a, b)), l)) = (decide (k = 0 ∧ n = 0 ∨ k = 1 ∨ k = 2) && kmays l d) := by
    show (true && ((decide (k = 0 ∧ n = 0 ∨ k = 1 ∨ k = 2) && (true && true)) && (listF 7 kvS).may d l)) = _
    simp only [kvs_may, Bool.and_true, Bool.true_and]
  rw [h]; rfl
theorem ex_twice {t : Nat} {k : Int} {n : Nat} {a : List UInt8} {b : List UInt8} {l : List KV} {u : List UInt8} {s : List UInt8} {d : Int} (hl : s.length ≤ 6000) (h : exrd s d = .ok ((t, (((k, n), (a, b)), l)), u)) : ex_may d ((t, (((k, n), (a, b)), l)), u) = true ∧ ex_fit ((t, (((k, n), (a, b)), l)), u) := by
  obtain ⟨h0, h1, h2, h3, h4⟩ := fld_twice exF_ok (s := (t, (((k, n), (a, b)), l))) (by omega) h
  refine ⟨?_, ?_⟩
  · rw [ex_mayF, h1, h2, decide_eq_true h0]; rfl
  · have h5 : (0 + ((0 + (a.length + b.length)) + (listF 7 kvS).wt l)) + u.length ≤ (0 + ((0 + (0 + 0)) + 0)) + 51 * s.length := h4
    rw [kvs_wt] at h5
    exact ⟨h3.1, h3.2.1.1, kvs_fit h3.2.2, by omega⟩
theorem ex_free : exF.Free := ((numF_free _).and (((((kindF_free _ _).wrap (((bytesF_free _).and (bytesF_free _))) _ _)).and (kvF_free _))))
end Go.Proofs.YtandoppfbilhbaaGreatDoor

namespace Go.Proofs.YtandoppfbilhbaaGreatDoor
open Go.RowKit

/-- two cells of it written -/
theorem rowT_set2 {σ α : Type} {C : Cel α} {T T0 : TypeId} {row : σ → Value → Array Value} {ls : σ → List α} {bx : Nat} {st st' : σ} {v : Value} {P1 : Nat → Prop} {w : World} (o o2 : Nat) (u u2 : Value) (h1 : w.heap[bx]? = some (.cells (row st v) T0 (0, 0))) (h2 : LsAt C T (bx + 1) v (ls st) P1 w) (hr : ((row st v).setIfInBounds o u).setIfInBounds o2 u2 = row st' v) (hl : ls st' = ls st) :
    (rowT C T T0 row ls bx).rel st' (fun k => k = bx ∨ P1 k) ((w.setCell ⟨bx, o, none⟩ u).setCell ⟨bx, o2, none⟩ u2) ∧ Upd (fun k => k = bx) w ((w.setCell ⟨bx, o, none⟩ u).setCell ⟨bx, o2, none⟩ u2) := by
  have hu := (Upd.set w ⟨bx, o, none⟩ u).trans (Upd.set _ ⟨bx, o2, none⟩ u2)
  refine ⟨⟨v, P1, hr ▸ row_set (row_set h1 o u) o2 u2, ?_, rfl⟩, hu⟩
  rw [hl]
  exact h2.kept (hu.mono fun k _ h h' => by have h : k = bx := h; have := (h2.lt k h').1; omega)
abbrev exS : Type := Nat × ((Int × Nat) × List UInt8 × List UInt8) × List KV
def exRow : exS → Value → Array Value
  | (t, (((k, n), (a, b)), _)), v => #[v, .int .u64 (t : Int), .int .i64 k, .int .u64 (n : Int), strV a, strV b, .string ⟨#[]⟩]
def exT (bx : Nat) : Taker exS := rowT kcel 82 26 exRow (fun st => st.2.2) bx
set_option maxRecDepth 1000000 in
set_option maxHeartbeats 16000000 in
theorem extake_any (bx : Nat) (D : Int) (r : Rec) (hU : Hid (r.num = 7 → UKey)) (st : exS) (P : Nat → Prop) (w : World) (hD : -9223372036854775807 ≤ D ∧ D ≤ 9223372036854775807) (hk : exF.tk r = true) (hs : r.s.length ≤ 1000000) (hl : st.2.2.length ≤ 1000000) (h : Hid ((exT bx).rel st P w)) :
    Calls Tryz.prog 43 #[.pointer (some ⟨bx, 0, none⟩), recV r, .int .i64 (D - 1)] w (TakePost (exT bx) (exF.step D) st P r w) := by
  obtain ⟨v, P1, h1, h2, rfl⟩ := h.out
  obtain ⟨t, ⟨⟨⟨k, n⟩, ⟨a, b⟩⟩, l⟩⟩ := st
  have H1 := Lib.hid h1
  have H2 := Lib.hid h2
  clear h h1 h2
  obtain ⟨X, hX⟩ : ∃ X : ByteArray, (⟨r.s.toArray⟩ : ByteArray) = X := ⟨_, rfl⟩
  have hXs : X.size ≤ 1000000 := by rw [← hX]; simp [ByteArray.size]; omega
  have HXD : Hid (X.data.toList = r.s) := Lib.hid (by rw [← hX])
  have HX : Hid ((⟨r.s.toArray⟩ : ByteArray) = X) := Lib.hid hX
  obtain ⟨rb, hrb⟩ : ∃ rb, w.heap.size = rb := ⟨_, rfl⟩
  obtain ⟨W0, hW0⟩ : ∃ W0, w.alloc (.cells #[.int .i64 (r.num : Int), .int .i64 (r.ty : Int), .int .u64 (r.n : Int), .string X, .string ⟨r.raw.toArray⟩] 66) = W0 := ⟨_, rfl⟩
  have HU0 : Hid (Upd (fun _ => False) w W0) := Lib.hid (by rw [← hW0]; exact Upd.alloc _ _ _)
  have HR0 : Hid (W0.heap[rb]? = some (.cells #[.int .i64 (r.num : Int), .int .i64 (r.ty : Int), .int .u64 (r.n : Int), .string X, .string ⟨r.raw.toArray⟩] 66 (0, 0))) := Lib.hid (by rw [← hW0, ← hrb]; exact heap_alloc_new _ _)
  have H10 : Hid (W0.heap[bx]? = some (.cells (exRow (t, (((k, n), (a, b)), l)) v) 26 (0, 0))) := Lib.hid ((HU0.out.block bx (row_lt H1.out) (fun h => h)).trans H1.out)
  have H20 : Hid (LsAt kcel 82 (bx + 1) v l P1 W0) := Lib.hid (H2.out.kept (HU0.out.mono fun _ _ h => h.elim))
  have HW0 := Lib.hid hW0
  have HRB := Lib.hid hrb
  have hsz := HU0.out.size
  have hbx := row_lt H1.out
  have hn0 : W0.cell? ⟨rb, 0, none⟩ = some (.int .i64 (r.num : Int)) := row_cell HR0.out (j := 0) rfl
  rw [exF_tk, decide_eq_true_eq] at hk
  have HKN := Lib.hid hk
  unfold recV
  rw [hX]
  rw [← hW0, ← hrb] at hn0
  clear hX hW0
  by_cases hN2 : r.num = 2
  · have hty : r.num = 2 ∧ r.ty = 1 := by omega
    have HSE := Lib.hid (exF_2 hty D t k n a b l)
    have d2 : ((r.num : Int) == 2) = true := by rw [beq_iff_eq]; omega
    have hc1 : W0.cell? ⟨bx, 1, none⟩ = some (.int .u64 (t : Int)) := row_cell H10.out (j := 1) rfl
    have hf1 : W0.frozen? ⟨bx, 1, none⟩ = false := row_thaw H10.out 1
    have HP := Lib.hid (rowT_set (C := kcel) (T := 82) (row := exRow) (ls := fun st : exS => st.2.2) (st := (t, (((k, n), (a, b)), l))) (st' := (r.n, (((k, n), (a, b)), l))) 1 (.int .u64 (r.n : Int)) H10.out H20.out (rfl) rfl)
    rw [← HW0.out] at hc1 hf1
    clear hty hk HKN hN2
    go_enter Tryz.func43, Tryz.ntmps43
    go_wp2_with fail
    rw [HW0.out]
    go_ret
    exact takepost_ok HSE.out ((HU0.out.mono fun _ _ h => h.elim).trans (HP.out.2.mono fun k _ h => .inl h)) HP.out.1 (fun k hk => .inl hk)
  by_cases hN6 : r.num = 6
  · have hty : r.num = 6 ∧ r.ty = 1 := by omega
    have HSE := Lib.hid (exF_6 hty D t k n a b l)
    have d2 : ((r.num : Int) == 2) = false := by rw [beq_eq_false_iff_ne]; omega
    have d6 : ((r.num : Int) == 6) = true := by rw [beq_iff_eq]; omega
    clear hty hk HKN hN6
    go_enter Tryz.func43, Tryz.ntmps43
    go_wp2_with fail
    rw [HW0.out]
    go_upto_region 11 with fail
    all_goals
      obtain ⟨D0, hD0⟩ : ∃ D0, W0.drew = D0 := ⟨_, rfl⟩
      have hB0 : Below W0.heap.size W0 D0 := by rw [← hD0]; exact (Below.refl _ _).drew
      have hS : (fun w' : World => w'.heap[rb]? = some (.cells #[.int .i64 (r.num : Int), .int .i64 (r.ty : Int), .int .u64 (r.n : Int), .string X, .string ⟨r.raw.toArray⟩] 66 (0, 0))) D0 := (hB0.block _ (row_lt HR0.out)).trans HR0.out
      have hne : Nonempty {w' : World // (fun w' : World => w'.heap[rb]? = some (.cells #[.int .i64 (r.num : Int), .int .i64 (r.ty : Int), .int .u64 (r.n : Int), .string X, .string ⟨r.raw.toArray⟩] 66 (0, 0))) w'} := ⟨⟨_, hS⟩⟩
      have hx : D0.heap[bx]? = some (.cells (exRow (t, (((k, n), (a, b)), l)) v) 26 (0, 0)) := (hB0.block _ (row_lt H10.out)).trans H10.out
      have hset := rowT_set2 (C := kcel) (T := 82) (row := exRow) (ls := fun st : exS => st.2.2) (st := (t, (((k, n), (a, b)), l))) (st' := (t, (((2, r.n), (a, b)), l))) 2 3 (.int .i64 2) (.int .u64 (r.n : Int)) hx (H20.out.kept ((Upd.of_new (S := fun _ => False) hB0).mono fun _ _ h => h.elim)) rfl rfl
      have hS1 : (fun w' : World => w'.heap[rb]? = some (.cells #[.int .i64 (r.num : Int), .int .i64 (r.ty : Int), .int .u64 (r.n : Int), .string X, .string ⟨r.raw.toArray⟩] 66 (0, 0))) (D0.setCell ⟨bx, 2, none⟩ (.int .i64 2)) := ((Upd.set D0 ⟨bx, 2, none⟩ (.int .i64 2)).block rb (row_lt hS) (fun e => by have e : rb = bx := e; omega)).trans hS
      have hS2 : (fun w' : World => w'.heap[rb]? = some (.cells #[.int .i64 (r.num : Int), .int .i64 (r.ty : Int), .int .u64 (r.n : Int), .string X, .string ⟨r.raw.toArray⟩] 66 (0, 0))) ((D0.setCell ⟨bx, 2, none⟩ (.int .i64 2)).setCell ⟨bx, 3, none⟩ (.int .u64 (r.n : Int))) := ((Upd.set _ ⟨bx, 3, none⟩ (.int .u64 (r.n : Int))).block rb (row_lt hS1) (fun e => by have e : rb = bx := e; omega)).trans hS1
      have HSET := Lib.hid hset
      have hc1 : D0.cell? ⟨bx, 2, none⟩ = some (.int .i64 k) := row_cell hx (j := 2) rfl
      have hf1 : D0.frozen? ⟨bx, 2, none⟩ = false := row_thaw hx 2
      have hx1 := row_set hx 2 (.int .i64 2)
      have hc2 : (D0.setCell ⟨bx, 2, none⟩ (.int .i64 2)).cell? ⟨bx, 3, none⟩ = some (.int .u64 (n : Int)) := row_cell hx1 (j := 3) rfl
      have hf2 : (D0.setCell ⟨bx, 2, none⟩ (.int .i64 2)).frozen? ⟨bx, 3, none⟩ = false := row_thaw hx1 3
      clear hset hx hx1
      refine wp_region_seq (S := fun w' : World => w'.heap[rb]? = some (.cells #[.int .i64 (r.num : Int), .int .i64 (r.ty : Int), .int .u64 (r.n : Int), .string X, .string ⟨r.raw.toArray⟩] 66 (0, 0))) [(0, true), (1, true), (2, true), (3, true), (4, true), (5, true), (6, true), (7, false), (8, true), (9, true), (10, false)] (by kernel_rfl) (by kernel_rfl) (by kernel_rfl) (by kernel_rfl) (by rw [hD0]; exact hS) ?_
      rw [hD0]
      iterate 4 (refine seq_take _ rfl (fun KC hK => ?_); go_simp; (first | refine hK _ ?_ | refine ⟨_, fun _ _ => rfl, hK _ ?_⟩); clear hK KC)
      refine seq_take _ rfl (fun KC hK => ?_); go_simp
      refine ⟨.int .u64 (r.n : Int), fun a ha => by rw [row_cell ha (j := 2) rfl]; rfl, hK _ ?_⟩
      clear hK KC
      iterate 2 (refine seq_take _ rfl (fun KC hK => ?_); go_simp; (first | refine hK _ ?_ | refine ⟨_, fun _ _ => rfl, hK _ ?_⟩); clear hK KC)
      refine seq_come _ rfl (fun KC hK => ?_); go_simp
      refine hK.out _ _ hS1 ?_; clear hK KC
      iterate 2 (refine seq_take _ rfl (fun KC hK => ?_); go_simp; (first | refine hK _ ?_ | refine ⟨_, fun _ _ => rfl, hK _ ?_⟩); clear hK KC)
      refine seq_come _ rfl (fun KC hK => ?_); go_simp
      refine hK.out _ _ hS2 ?_; clear hK KC
      refine seq_done ?_
      go_wp2_with fail
      go_ret
      exact takepost_ok HSE.out (((HU0.out.mono fun _ _ h => h.elim).trans (Upd.of_new hB0)).trans (HSET.out.2.mono fun k _ h => .inl h)) HSET.out.1 (fun k hk => .inl hk)
  by_cases hN3 : r.num = 3
  · have hty : r.num = 3 ∧ r.ty = 1 := by omega
    have HSE := Lib.hid (exF_3 hty D t k n a b l)
    have d2 : ((r.num : Int) == 2) = false := by rw [beq_eq_false_iff_ne]; omega
    have d6 : ((r.num : Int) == 6) = false := by rw [beq_eq_false_iff_ne]; omega
    have d3 : ((r.num : Int) == 3) = true := by rw [beq_iff_eq]; omega
    clear hty hk HKN hN3
    go_enter Tryz.func43, Tryz.ntmps43
    go_wp2_with fail
    rw [HW0.out]
    go_upto_region 11 with fail
    all_goals
      obtain ⟨D0, hD0⟩ : ∃ D0, W0.drew = D0 := ⟨_, rfl⟩
      have hB0 : Below W0.heap.size W0 D0 := by rw [← hD0]; exact (Below.refl _ _).drew
      have hS : (fun w' : World => w'.heap[rb]? = some (.cells #[.int .i64 (r.num : Int), .int .i64 (r.ty : Int), .int .u64 (r.n : Int), .string X, .string ⟨r.raw.toArray⟩] 66 (0, 0))) D0 := (hB0.block _ (row_lt HR0.out)).trans HR0.out
      have hne : Nonempty {w' : World // (fun w' : World => w'.heap[rb]? = some (.cells #[.int .i64 (r.num : Int), .int .i64 (r.ty : Int), .int .u64 (r.n : Int), .string X, .string ⟨r.raw.toArray⟩] 66 (0, 0))) w'} := ⟨⟨_, hS⟩⟩
      have hx : D0.heap[bx]? = some (.cells (exRow (t, (((k, n), (a, b)), l)) v) 26 (0, 0)) := (hB0.block _ (row_lt H10.out)).trans H10.out
      have hset := rowT_set2 (C := kcel) (T := 82) (row := exRow) (ls := fun st : exS => st.2.2) (st := (t, (((k, n), (a, b)), l))) (st' := (t, (((1, r.n), (a, b)), l))) 2 3 (.int .i64 1) (.int .u64 (r.n : Int)) hx (H20.out.kept ((Upd.of_new (S := fun _ => False) hB0).mono fun _ _ h => h.elim)) rfl rfl
      have hS1 : (fun w' : World => w'.heap[rb]? = some (.cells #[.int .i64 (r.num : Int), .int .i64 (r.ty : Int), .int .u64 (r.n : Int), .string X, .string ⟨r.raw.toArray⟩] 66 (0, 0))) (D0.setCell ⟨bx, 2, none⟩ (.int .i64 1)) := ((Upd.set D0 ⟨bx, 2, none⟩ (.int .i64 1)).block rb (row_lt hS) (fun e => by have e : rb = bx := e; omega)).trans hS
      have hS2 : (fun w' : World => w'.heap[rb]? = some (.cells #[.int .i64 (r.num : Int), .int .i64 (r.ty : Int), .int .u64 (r.n : Int), .string X, .string ⟨r.raw.toArray⟩] 66 (0, 0))) ((D0.setCell ⟨bx, 2, none⟩ (.int .i64 1)).setCell ⟨bx, 3, none⟩ (.int .u64 (r.n : Int))) := ((Upd.set _ ⟨bx, 3, none⟩ (.int .u64 (r.n : Int))).block rb (row_lt hS1) (fun e => by have e : rb = bx := e; omega)).trans hS1
      have HSET := Lib.hid hset
      have hc1 : D0.cell? ⟨bx, 2, none⟩ = some (.int .i64 k) := row_cell hx (j := 2) rfl
      have hf1 : D0.frozen? ⟨bx, 2, none⟩ = false := row_thaw hx 2
      have hx1 := row_set hx 2 (.int .i64 1)
      have hc2 : (D0.setCell ⟨bx, 2, none⟩ (.int .i64 1)).cell? ⟨bx, 3, none⟩ = some (.int .u64 (n : Int)) := row_cell hx1 (j := 3) rfl
      have hf2 : (D0.setCell ⟨bx, 2, none⟩ (.int .i64 1)).frozen? ⟨bx, 3, none⟩ = false := row_thaw hx1 3
      clear hset hx hx1
      refine wp_region_seq (S := fun w' : World => w'.heap[rb]? = some (.cells #[.int .i64 (r.num : Int), .int .i64 (r.ty : Int), .int .u64 (r.n : Int), .string X, .string ⟨r.raw.toArray⟩] 66 (0, 0))) [(0, true), (1, true), (2, true), (3, true), (4, true), (5, true), (6, true), (7, false), (8, true), (9, true), (10, false)] (by kernel_rfl) (by kernel_rfl) (by kernel_rfl) (by kernel_rfl) (by rw [hD0]; exact hS) ?_
      rw [hD0]
      iterate 4 (refine seq_take _ rfl (fun KC hK => ?_); go_simp; (first | refine hK _ ?_ | refine ⟨_, fun _ _ => rfl, hK _ ?_⟩); clear hK KC)
      refine seq_take _ rfl (fun KC hK => ?_); go_simp
      refine ⟨.int .u64 (r.n : Int), fun a ha => by rw [row_cell ha (j := 2) rfl]; rfl, hK _ ?_⟩
      clear hK KC
      iterate 2 (refine seq_take _ rfl (fun KC hK => ?_); go_simp; (first | refine hK _ ?_ | refine ⟨_, fun _ _ => rfl, hK _ ?_⟩); clear hK KC)
      refine seq_come _ rfl (fun KC hK => ?_); go_simp
      refine hK.out _ _ hS1 ?_; clear hK KC
      iterate 2 (refine seq_take _ rfl (fun KC hK => ?_); go_simp; (first | refine hK _ ?_ | refine ⟨_, fun _ _ => rfl, hK _ ?_⟩); clear hK KC)
      refine seq_come _ rfl (fun KC hK => ?_); go_simp
      refine hK.out _ _ hS2 ?_; clear hK KC
      refine seq_done ?_
      go_wp2_with fail
      go_ret
      exact takepost_ok HSE.out (((HU0.out.mono fun _ _ h => h.elim).trans (Upd.of_new hB0)).trans (HSET.out.2.mono fun k _ h => .inl h)) HSET.out.1 (fun k hk => .inl hk)
  by_cases hN4 : r.num = 4
  · have hty : r.num = 4 ∧ r.ty = 2 := by omega
    have HSE := Lib.hid (exF_4 hty D t k n a b l)
    have d2 : ((r.num : Int) == 2) = false := by rw [beq_eq_false_iff_ne]; omega
    have d6 : ((r.num : Int) == 6) = false := by rw [beq_eq_false_iff_ne]; omega
    have d3 : ((r.num : Int) == 3) = false := by rw [beq_eq_false_iff_ne]; omega
    have d4 : ((r.num : Int) == 4) = true := by rw [beq_iff_eq]; omega
    have hc4 : W0.cell? ⟨bx, 4, none⟩ = some (strV a) := row_cell H10.out (j := 4) rfl
    have hf4 : W0.frozen? ⟨bx, 4, none⟩ = false := row_thaw H10.out 4
    have HP := Lib.hid (rowT_set (C := kcel) (T := 82) (row := exRow) (ls := fun st : exS => st.2.2) (st := (t, (((k, n), (a, b)), l))) (st' := (t, (((k, n), (r.s, b)), l))) 4 (.string X) H10.out H20.out (by rw [← HX.out]; rfl) rfl)
    rw [← HW0.out] at hc4 hf4
    clear hty hk HKN hN4
    go_enter Tryz.func43, Tryz.ntmps43
    go_wp2_with fail
    rw [HW0.out]
    go_ret
    exact takepost_ok HSE.out ((HU0.out.mono fun _ _ h => h.elim).trans (HP.out.2.mono fun k _ h => .inl h)) HP.out.1 (fun k hk => .inl hk)
  by_cases hN5 : r.num = 5
  · have hty : r.num = 5 ∧ r.ty = 2 := by omega
    have HSE := Lib.hid (exF_5 hty D t k n a b l)
    have d2 : ((r.num : Int) == 2) = false := by rw [beq_eq_false_iff_ne]; omega
    have d6 : ((r.num : Int) == 6) = false := by rw [beq_eq_false_iff_ne]; omega
    have d3 : ((r.num : Int) == 3) = false := by rw [beq_eq_false_iff_ne]; omega
    have d4 : ((r.num : Int) == 4) = false := by rw [beq_eq_false_iff_ne]; omega
    have d5 : ((r.num : Int) == 5) = true := by rw [beq_iff_eq]; omega
    have hc5 : W0.cell? ⟨bx, 5, none⟩ = some (strV b) := row_cell H10.out (j := 5) rfl
    have hf5 : W0.frozen? ⟨bx, 5, none⟩ = false := row_thaw H10.out 5
    have HP := Lib.hid (rowT_set (C := kcel) (T := 82) (row := exRow) (ls := fun st : exS => st.2.2) (st := (t, (((k, n), (a, b)), l))) (st' := (t, (((k, n), (a, r.s)), l))) 5 (.string X) H10.out H20.out (by rw [← HX.out]; rfl) rfl)
    rw [← HW0.out] at hc5 hf5
    clear hty hk HKN hN5
    go_enter Tryz.func43, Tryz.ntmps43
    go_wp2_with fail
    rw [HW0.out]
    go_ret
    exact takepost_ok HSE.out ((HU0.out.mono fun _ _ h => h.elim).trans (HP.out.2.mono fun k _ h => .inl h)) HP.out.1 (fun k hk => .inl hk)
  have hty : r.num = 7 ∧ r.ty = 2 := by omega
  have HSE := Lib.hid (exF_7 hty D t k n a b l)
  have HUK := Lib.hid (hU.out hty.1)
  have d2 : ((r.num : Int) == 2) = false := by rw [beq_eq_false_iff_ne]; omega
  have d6 : ((r.num : Int) == 6) = false := by rw [beq_eq_false_iff_ne]; omega
  have d3 : ((r.num : Int) == 3) = false := by rw [beq_eq_false_iff_ne]; omega
  have d4 : ((r.num : Int) == 4) = false := by rw [beq_eq_false_iff_ne]; omega
  have d5 : ((r.num : Int) == 5) = false := by rw [beq_eq_false_iff_ne]; omega
  have d7 : ((r.num : Int) == 7) = true := by rw [beq_iff_eq]; omega
  clear hty hk HKN
  go_enter Tryz.func43, Tryz.ntmps43
  go_wp2_with fail
  rw [HW0.out]
  go_upto_region 14 with fail
  all_goals
    obtain ⟨D0, hD0⟩ : ∃ D0, W0.drew = D0 := ⟨_, rfl⟩
    have hB0 : Below W0.heap.size W0 D0 := by rw [← hD0]; exact (Below.refl _ _).drew
    have hS : (fun w' : World => w'.heap[rb]? = some (.cells #[.int .i64 (r.num : Int), .int .i64 (r.ty : Int), .int .u64 (r.n : Int), .string X, .string ⟨r.raw.toArray⟩] 66 (0, 0))) D0 := (hB0.block _ (row_lt HR0.out)).trans HR0.out
    have hne : Nonempty {w' : World // (fun w' : World => w'.heap[rb]? = some (.cells #[.int .i64 (r.num : Int), .int .i64 (r.ty : Int), .int .u64 (r.n : Int), .string X, .string ⟨r.raw.toArray⟩] 66 (0, 0))) w'} := ⟨⟨_, hS⟩⟩
    refine wp_region_seq (S := fun w' : World => w'.heap[rb]? = some (.cells #[.int .i64 (r.num : Int), .int .i64 (r.ty : Int), .int .u64 (r.n : Int), .string X, .string ⟨r.raw.toArray⟩] 66 (0, 0))) [(0, true), (1, true), (2, true), (3, true), (4, true), (5, true), (6, false), (7, true)] (by kernel_rfl) (by kernel_rfl) (by kernel_rfl) (by kernel_rfl) (by rw [hD0]; exact hS) ?_
    rw [hD0]
    iterate 4 (refine seq_take _ rfl (fun KC hK => ?_); go_simp; (first | refine hK _ ?_ | refine ⟨_, fun _ _ => rfl, hK _ ?_⟩); clear hK KC)
    refine seq_take _ rfl (fun KC hK => ?_); go_simp
    refine ⟨.string X, fun a ha => by rw [row_cell ha (j := 3) rfl]; rfl, hK _ ?_⟩
    clear hK KC
    (refine seq_take _ rfl (fun KC hK => ?_); go_simp; (first | refine hK _ ?_ | refine ⟨_, fun _ _ => rfl, hK _ ?_⟩); clear hK KC)
    have HA := Lib.hid (addk_any bx 0 (bx + 1) (exRow (t, (((k, n), (a, b)), l)) v) 26 v l P1 87 X (D - 1) (kread 1000001 r.s (D - 1)) D0 (enters_of Tryz.func87 (by kernel_rfl) rfl) (Lib.hid ((hB0.block _ (row_lt H10.out)).trans H10.out)) rfl ⟨by omega, by have := hB0.size; omega⟩ (Lib.hid (H20.out.kept ((Upd.of_new (S := fun _ => False) hB0).mono fun _ _ h => h.elim))) hl (Lib.hid (fun w' => by have := HUK.out X (D - 1) w' hXs (by omega); rwa [HXD.out] at this)))
    refine seq_come _ rfl (fun KC hK => ?_); go_simp
    refine HA.out.mono ?_; intro e w1 hpost
    have hS1 : (fun w' : World => w'.heap[rb]? = some (.cells #[.int .i64 (r.num : Int), .int .i64 (r.ty : Int), .int .u64 (r.n : Int), .string X, .string ⟨r.raw.toArray⟩] 66 (0, 0))) w1 := (hpost.1.block rb (row_lt hS) (fun e => by
      rcases e with e | e
      · omega
      · have := (H2.out.lt rb e).2; have := HRB.out; omega)).trans hS
    cases hrd : kread 1000001 r.s (D - 1) with
    | error c =>
      rw [hrd] at hpost HSE
      obtain ⟨hu1, y, rfl, hec⟩ := hpost
      obtain ⟨T', z, rfl⟩ := hec.iface
      go_simp
      refine hK.out _ _ hS1 ?_; clear hK KC
      (refine seq_take _ rfl (fun KC hK => ?_); go_simp; (first | refine hK _ ?_ | refine ⟨_, fun _ _ => rfl, hK _ ?_⟩); clear hK KC)
      refine seq_done ?_
      go_wp2_with fail
      go_ret
      exact takepost_no HSE.out (((HU0.out.mono fun _ _ h => h.elim).trans (Upd.of_new hB0)).trans hu1) hec
    | ok x =>
      rw [hrd] at hpost HSE
      obtain ⟨rfl, hu, P', hr, hp⟩ := rowT_add (ls := fun st : exS => st.2.2) (st := (t, (((k, n), (a, b)), l))) (st' := (t, (((k, n), (a, b)), l ++ [x]))) hpost (fun v' => rfl) rfl
      go_simp
      refine hK.out _ _ hS1 ?_; clear hK KC
      (refine seq_take _ rfl (fun KC hK => ?_); go_simp; (first | refine hK _ ?_ | refine ⟨_, fun _ _ => rfl, hK _ ?_⟩); clear hK KC)
      refine seq_done ?_
      have HU := Lib.hid hu
      have HRL := Lib.hid hr
      have HP := Lib.hid hp
      clear hu hr hp hpost hrd
      go_wp2_with fail
      go_ret
      exact takepost_ok HSE.out (((HU0.out.mono fun _ _ h => h.elim).trans (Upd.of_new hB0)).trans HU.out) HRL.out (fun k hk => (HP.out k hk).imp id (fun h => Nat.le_trans (Nat.le_trans hsz hB0.size) h))
set_option maxRecDepth 1000000 in
set_option maxHeartbeats 8000000 in
theorem exclo_any (bx bd : Nat) (D : Int) (r : Rec) (hU : Hid (r.num = 7 → UKey)) (st : exS) (P : Nat → Prop) (w : World) (hD : -9223372036854775807 ≤ D ∧ D ≤ 9223372036854775807) (hk : exF.tk r = true) (hs : r.s.length ≤ 1000000) (hl : st.2.2.length ≤ 1000000) (h : Hid ((capT (exT bx) bd D).rel st P w)) :
    Calls Tryz.prog 41 #[recV r, .pointer (some ⟨bx, 0, none⟩), .pointer (some ⟨bd, 0, none⟩)] w (TakePost (capT (exT bx) bd D) (exF.step D) st P r w) := by
  obtain ⟨P0, hr, hn, hb, rfl⟩ := h.out
  refine Calls.mono ?_ (fun e w' hp => capT_post hp hn hb)
  have HR := Lib.hid hr
  have HB := Lib.hid hb
  clear h hr hb
  obtain ⟨X, hX⟩ : ∃ X : ByteArray, (⟨r.s.toArray⟩ : ByteArray) = X := ⟨_, rfl⟩
  have HX : Hid ((⟨r.s.toArray⟩ : ByteArray) = X) := Lib.hid hX
  obtain ⟨rb, hrb⟩ : ∃ rb, w.heap.size = rb := ⟨_, rfl⟩
  obtain ⟨W0, hW0⟩ : ∃ W0, w.alloc (.cells #[.int .i64 (r.num : Int), .int .i64 (r.ty : Int), .int .u64 (r.n : Int), .string X, .string ⟨r.raw.toArray⟩] 66) = W0 := ⟨_, rfl⟩
  have HB0 : Hid (Below w.heap.size w W0) := Lib.hid (by rw [← hW0]; exact below_new _ _)
  have HR0 : Hid (W0.heap[rb]? = some (.cells #[.int .i64 (r.num : Int), .int .i64 (r.ty : Int), .int .u64 (r.n : Int), .string X, .string ⟨r.raw.toArray⟩] 66 (0, 0))) := Lib.hid (by rw [← hW0, ← hrb]; exact heap_alloc_new _ _)
  have HW0 := Lib.hid hW0
  have HRB := Lib.hid hrb
  have q1 : IntKind.i64.wrap (D - 1) = D - 1 := IntWalk.i64_in _ (by omega)
  unfold recV
  rw [hX]
  clear hX hW0
  go_enter Tryz.func41, Tryz.ntmps41
  go_wp2_with fail
  rw [HW0.out]
  go_upto_region 1 with fail
  all_goals
    obtain ⟨D0, hD0⟩ : ∃ D0, W0.drew = D0 := ⟨_, rfl⟩
    have hB0 : Below W0.heap.size W0 D0 := by rw [← hD0]; exact (Below.refl _ _).drew
    have HBD := Lib.hid (below_step HB0.out hB0)
    have hS : R2 rb #[.int .i64 (r.num : Int), .int .i64 (r.ty : Int), .int .u64 (r.n : Int), .string X, .string ⟨r.raw.toArray⟩] 66 bd #[.int .i64 D] 3 D0 := ⟨(hB0.block _ (row_lt HR0.out)).trans HR0.out, (HBD.out.block _ (row_lt HB.out)).trans HB.out⟩
    have hne : Nonempty {w' : World // R2 rb #[.int .i64 (r.num : Int), .int .i64 (r.ty : Int), .int .u64 (r.n : Int), .string X, .string ⟨r.raw.toArray⟩] 66 bd #[.int .i64 D] 3 w'} := ⟨⟨_, hS⟩⟩
    refine wp_region_seq (S := R2 rb #[.int .i64 (r.num : Int), .int .i64 (r.ty : Int), .int .u64 (r.n : Int), .string X, .string ⟨r.raw.toArray⟩] 66 bd #[.int .i64 D] 3) [(0, true), (1, true), (2, true), (3, true), (4, true), (5, false), (6, false), (7, true)] (by kernel_rfl) (by kernel_rfl) (by kernel_rfl) (by kernel_rfl) (by rw [hD0]; exact hS) ?_
    rw [hD0]
    (refine seq_take _ rfl (fun KC hK => ?_); go_simp; (first | refine hK _ ?_ | refine ⟨_, fun _ _ => rfl, hK _ ?_⟩); clear hK KC)
    refine seq_take _ rfl (fun KC hK => ?_); go_simp
    refine ⟨.int .i64 (r.num : Int), fun a ha => by rw [row_cell ha.1 (j := 0) rfl]; rfl, hK _ ?_⟩
    clear hK KC
    refine seq_take _ rfl (fun KC hK => ?_); go_simp
    refine ⟨.agg #[.int .i64 (r.num : Int), .int .i64 (r.ty : Int), .int .u64 (r.n : Int), .string X, .string ⟨r.raw.toArray⟩], fun a ha => by (have e0 := row_cell ha.1 (j := 0) rfl; have e1 := row_cell ha.1 (j := 1) rfl; have e2 := row_cell ha.1 (j := 2) rfl; have e3 := row_cell ha.1 (j := 3) rfl; have e4 := row_cell ha.1 (j := 4) rfl); simp only [e0, e1, e2, e3, e4, Result.andThen]; rfl, hK _ ?_⟩
    clear hK KC
    refine seq_take _ rfl (fun KC hK => ?_); go_simp
    refine ⟨.int .i64 D, fun a ha => by rw [row_cell ha.2 (j := 0) rfl]; rfl, hK _ ?_⟩
    clear hK KC
    (refine seq_take _ rfl (fun KC hK => ?_); go_simp; (first | refine hK _ ?_ | refine ⟨_, fun _ _ => rfl, hK _ ?_⟩); clear hK KC)
    have HT := Lib.hid (extake_any bx D r hU st P0 D0 hD hk hs hl (Lib.hid ((exT bx).kept _ _ _ _ HR.out (Upd.of_new HBD.out))))
    unfold recV at HT
    rw [HX.out] at HT
    refine seq_come _ rfl (fun KC hK => ?_); go_simp
    refine HT.out.mono ?_; rintro e w1 ⟨hu, hcase⟩
    have hlt := (exT bx).lt _ _ _ HR.out
    have hS1 : R2 rb #[.int .i64 (r.num : Int), .int .i64 (r.ty : Int), .int .u64 (r.n : Int), .string X, .string ⟨r.raw.toArray⟩] 66 bd #[.int .i64 D] 3 w1 := ⟨(hu.block rb (row_lt hS.1) (fun e => by have := hlt rb e; have := HRB.out; omega)).trans hS.1, (hu.block bd (row_lt hS.2) hn).trans hS.2⟩
    cases hst : exF.step D st r with
    | error c =>
      rw [hst] at hcase
      obtain ⟨y, rfl, hec⟩ := hcase
      obtain ⟨T', z, rfl⟩ := hec.iface
      have HEC := Lib.hid hec
      have HU := Lib.hid hu
      clear hec hu hlt
      go_simp
      refine hK.out _ _ hS1 ?_; clear hK KC
      refine seq_come _ rfl (fun KC hK => ?_); go_simp
      refine (in_any _ _ _ _).mono ?_; rintro e w' ⟨rfl, rfl⟩
      go_simp
      refine hK.out _ _ (hS1.below (below_new _ _)) ?_; clear hK KC
      (refine seq_take _ rfl (fun KC hK => ?_); go_simp; (first | refine hK _ ?_ | refine ⟨_, fun _ _ => rfl, hK _ ?_⟩); clear hK KC)
      refine seq_done ?_
      go_wp2_with fail
      go_ret
      exact takepost_no hst (((Upd.of_new HBD.out).trans HU.out).trans (Upd.alloc _ _ _)) (ec_field HEC.out)
    | ok st' =>
      rw [hst] at hcase
      obtain ⟨rfl, P', hr, hp⟩ := hcase
      have HRL := Lib.hid hr
      have HP := Lib.hid hp
      have HU := Lib.hid hu
      clear hr hp hu hlt
      go_simp
      refine hK.out _ _ hS1 ?_; clear hK KC
      refine seq_come _ rfl (fun KC hK => ?_); go_simp
      refine (in_nil _ _).mono ?_; rintro e w' ⟨rfl, rfl⟩
      go_simp
      refine hK.out _ _ hS1 ?_; clear hK KC
      (refine seq_take _ rfl (fun KC hK => ?_); go_simp; (first | refine hK _ ?_ | refine ⟨_, fun _ _ => rfl, hK _ ?_⟩); clear hK KC)
      refine seq_done ?_
      go_wp2_with fail
      go_ret
      exact takepost_ok hst ((Upd.of_new HBD.out).trans HU.out) HRL.out (fun k hk => (HP.out k hk).imp id (fun h => Nat.le_trans HBD.out.size h))
set_option maxRecDepth 100000 in
set_option maxHeartbeats 4000000 in
theorem extakes_any (r : Rec) (w : World) : Calls Tryz.prog 40 #[.int .i64 (r.num : Int), .int .i64 (r.ty : Int)] w fun e w' => e = .returned (.bool (exF.tk r)) ∧ w = w' := by
  obtain ⟨num, ty, n, s, raw⟩ := r
  have hq := exF_tk ⟨num, ty, n, s, raw⟩
  dsimp only at hq
  obtain ⟨q, hqe⟩ : ∃ q, exF.tk ⟨num, ty, n, s, raw⟩ = q := ⟨_, rfl⟩
  rw [hqe] at hq ⊢
  clear hqe
  by_cases h2 : num = 2
  · subst h2
    have hb : Hid (q = ((ty : Int) == (1 : Int))) := Lib.hid (by rw [show ((1 : Int)) = ((1 : Nat) : Int) from rfl, ibeq, hq]; exact decide_eq_decide.2 (by omega))
    clear hq
    go_enter Tryz.func40, Tryz.ntmps40
    go_wp2_with fail
    go_ret
    exact ⟨by rw [hb.out]; rfl, rfl⟩
  by_cases h6 : num = 6
  · subst h6
    have hb : Hid (q = ((ty : Int) == (1 : Int))) := Lib.hid (by rw [show ((1 : Int)) = ((1 : Nat) : Int) from rfl, ibeq, hq]; exact decide_eq_decide.2 (by omega))
    clear hq
    go_enter Tryz.func40, Tryz.ntmps40
    go_wp2_with fail
    go_ret
    exact ⟨by rw [hb.out]; rfl, rfl⟩
  by_cases h3 : num = 3
  · subst h3
    have hb : Hid (q = ((ty : Int) == (1 : Int))) := Lib.hid (by rw [show ((1 : Int)) = ((1 : Nat) : Int) from rfl, ibeq, hq]; exact decide_eq_decide.2 (by omega))
    clear hq
    go_enter Tryz.func40, Tryz.ntmps40
    go_wp2_with fail
    go_ret
    exact ⟨by rw [hb.out]; rfl, rfl⟩
  by_cases h4 : num = 4
  · subst h4
    have hb : Hid (q = ((ty : Int) == (2 : Int))) := Lib.hid (by rw [show ((2 : Int)) = ((2 : Nat) : Int) from rfl, ibeq, hq]; exact decide_eq_decide.2 (by omega))
    clear hq
    go_enter Tryz.func40, Tryz.ntmps40
    go_wp2_with fail
    go_ret
    exact ⟨by rw [hb.out]; rfl, rfl⟩
  by_cases h5 : num = 5
  · subst h5
    have hb : Hid (q = ((ty : Int) == (2 : Int))) := Lib.hid (by rw [show ((2 : Int)) = ((2 : Nat) : Int) from rfl, ibeq, hq]; exact decide_eq_decide.2 (by omega))
    clear hq
    go_enter Tryz.func40, Tryz.ntmps40
    go_wp2_with fail
    go_ret
    exact ⟨by rw [hb.out]; rfl, rfl⟩
  by_cases h7 : num = 7
  · subst h7
    have hb : Hid (q = ((ty : Int) == (2 : Int))) := Lib.hid (by rw [show ((2 : Int)) = ((2 : Nat) : Int) from rfl, ibeq, hq]; exact decide_eq_decide.2 (by omega))
    clear hq
    go_enter Tryz.func40, Tryz.ntmps40
    go_wp2_with fail
    go_ret
    exact ⟨by rw [hb.out]; rfl, rfl⟩
  have d2 : ((num : Int) == (2 : Int)) = false := by rw [beq_eq_false_iff_ne]; omega
  have d6 : ((num : Int) == (6 : Int)) = false := by rw [beq_eq_false_iff_ne]; omega
  have d3 : ((num : Int) == (3 : Int)) = false := by rw [beq_eq_false_iff_ne]; omega
  have d4 : ((num : Int) == (4 : Int)) = false := by rw [beq_eq_false_iff_ne]; omega
  have d5 : ((num : Int) == (5 : Int)) = false := by rw [beq_eq_false_iff_ne]; omega
  have d7 : ((num : Int) == (7 : Int)) = false := by rw [beq_eq_false_iff_ne]; omega
  have hb : Hid (q = false) := Lib.hid (by rw [hq]; exact decide_eq_false (by omega))
  clear h2 h6 h3 h4 h5 h7 hq
  go_enter Tryz.func40, Tryz.ntmps40
  go_wp2_with fail
  go_ret
  exact ⟨by rw [hb.out]; rfl, rfl⟩
theorem ex_set {w : World} {g : Nat} {T : TypeId} {z0 z1 z2 z3 z4 z5 z6 : Value} (h : w.heap[g]? = some (.cells #[z0, z1, z2, z3, z4, z5, z6] T (0, 0))) (c0 c1 c2 c3 c4 c5 c6 : Value) : (((((((w.setCell ⟨g, 0, none⟩ c0).setCell ⟨g, 1, none⟩ c1).setCell ⟨g, 2, none⟩ c2).setCell ⟨g, 3, none⟩ c3).setCell ⟨g, 4, none⟩ c4).setCell ⟨g, 5, none⟩ c5).setCell ⟨g, 6, none⟩ c6).heap[g]? = some (.cells #[c0, c1, c2, c3, c4, c5, c6] T (0, 0)) ∧ Upd (fun k => k = g) w (((((((w.setCell ⟨g, 0, none⟩ c0).setCell ⟨g, 1, none⟩ c1).setCell ⟨g, 2, none⟩ c2).setCell ⟨g, 3, none⟩ c3).setCell ⟨g, 4, none⟩ c4).setCell ⟨g, 5, none⟩ c5).setCell ⟨g, 6, none⟩ c6) := by
  have r0 : (w.setCell ⟨g, 0, none⟩ c0).heap[g]? = some (.cells #[c0, z1, z2, z3, z4, z5, z6] T (0, 0)) := row_set h 0 c0
  have u0 : Upd (fun k => k = g) w (w.setCell ⟨g, 0, none⟩ c0) := Upd.set w ⟨g, 0, none⟩ c0
  have r1 : ((w.setCell ⟨g, 0, none⟩ c0).setCell ⟨g, 1, none⟩ c1).heap[g]? = some (.cells #[c0, c1, z2, z3, z4, z5, z6] T (0, 0)) := row_set r0 1 c1
  have u1 : Upd (fun k => k = g) w ((w.setCell ⟨g, 0, none⟩ c0).setCell ⟨g, 1, none⟩ c1) := u0.trans (Upd.set (w.setCell ⟨g, 0, none⟩ c0) ⟨g, 1, none⟩ c1)
  have r2 : (((w.setCell ⟨g, 0, none⟩ c0).setCell ⟨g, 1, none⟩ c1).setCell ⟨g, 2, none⟩ c2).heap[g]? = some (.cells #[c0, c1, c2, z3, z4, z5, z6] T (0, 0)) := row_set r1 2 c2
  have u2 : Upd (fun k => k = g) w (((w.setCell ⟨g, 0, none⟩ c0).setCell ⟨g, 1, none⟩ c1).setCell ⟨g, 2, none⟩ c2) := u1.trans (Upd.set ((w.setCell ⟨g, 0, none⟩ c0).setCell ⟨g, 1, none⟩ c1) ⟨g, 2, none⟩ c2)
  have r3 : ((((w.setCell ⟨g, 0, none⟩ c0).setCell ⟨g, 1, none⟩ c1).setCell ⟨g, 2, none⟩ c2).setCell ⟨g, 3, none⟩ c3).heap[g]? = some (.cells #[c0, c1, c2, c3, z4, z5, z6] T (0, 0)) := row_set r2 3 c3
  have u3 : Upd (fun k => k = g) w ((((w.setCell ⟨g, 0, none⟩ c0).setCell ⟨g, 1, none⟩ c1).setCell ⟨g, 2, none⟩ c2).setCell ⟨g, 3, none⟩ c3) := u2.trans (Upd.set (((w.setCell ⟨g, 0, none⟩ c0).setCell ⟨g, 1, none⟩ c1).setCell ⟨g, 2, none⟩ c2) ⟨g, 3, none⟩ c3)
  have r4 : (((((w.setCell ⟨g, 0, none⟩ c0).setCell ⟨g, 1, none⟩ c1).setCell ⟨g, 2, none⟩ c2).setCell ⟨g, 3, none⟩ c3).setCell ⟨g, 4, none⟩ c4).heap[g]? = some (.cells #[c0, c1, c2, c3, c4, z5, z6] T (0, 0)) := row_set r3 4 c4
  have u4 : Upd (fun k => k = g) w (((((w.setCell ⟨g, 0, none⟩ c0).setCell ⟨g, 1, none⟩ c1).setCell ⟨g, 2, none⟩ c2).setCell ⟨g, 3, none⟩ c3).setCell ⟨g, 4, none⟩ c4) := u3.trans (Upd.set ((((w.setCell ⟨g, 0, none⟩ c0).setCell ⟨g, 1, none⟩ c1).setCell ⟨g, 2, none⟩ c2).setCell ⟨g, 3, none⟩ c3) ⟨g, 4, none⟩ c4)
  have r5 : ((((((w.setCell ⟨g, 0, none⟩ c0).setCell ⟨g, 1, none⟩ c1).setCell ⟨g, 2, none⟩ c2).setCell ⟨g, 3, none⟩ c3).setCell ⟨g, 4, none⟩ c4).setCell ⟨g, 5, none⟩ c5).heap[g]? = some (.cells #[c0, c1, c2, c3, c4, c5, z6] T (0, 0)) := row_set r4 5 c5
  have u5 : Upd (fun k => k = g) w ((((((w.setCell ⟨g, 0, none⟩ c0).setCell ⟨g, 1, none⟩ c1).setCell ⟨g, 2, none⟩ c2).setCell ⟨g, 3, none⟩ c3).setCell ⟨g, 4, none⟩ c4).setCell ⟨g, 5, none⟩ c5) := u4.trans (Upd.set (((((w.setCell ⟨g, 0, none⟩ c0).setCell ⟨g, 1, none⟩ c1).setCell ⟨g, 2, none⟩ c2).setCell ⟨g, 3, none⟩ c3).setCell ⟨g, 4, none⟩ c4) ⟨g, 5, none⟩ c5)
  have r6 : (((((((w.setCell ⟨g, 0, none⟩ c0).setCell ⟨g, 1, none⟩ c1).setCell ⟨g, 2, none⟩ c2).setCell ⟨g, 3, none⟩ c3).setCell ⟨g, 4, none⟩ c4).setCell ⟨g, 5, none⟩ c5).setCell ⟨g, 6, none⟩ c6).heap[g]? = some (.cells #[c0, c1, c2, c3, c4, c5, c6] T (0, 0)) := row_set r5 6 c6
  have u6 : Upd (fun k => k = g) w (((((((w.setCell ⟨g, 0, none⟩ c0).setCell ⟨g, 1, none⟩ c1).setCell ⟨g, 2, none⟩ c2).setCell ⟨g, 3, none⟩ c3).setCell ⟨g, 4, none⟩ c4).setCell ⟨g, 5, none⟩ c5).setCell ⟨g, 6, none⟩ c6) := u5.trans (Upd.set ((((((w.setCell ⟨g, 0, none⟩ c0).setCell ⟨g, 1, none⟩ c1).setCell ⟨g, 2, none⟩ c2).setCell ⟨g, 3, none⟩ c3).setCell ⟨g, 4, none⟩ c4).setCell ⟨g, 5, none⟩ c5) ⟨g, 6, none⟩ c6)
  exact ⟨r6, u6⟩
theorem ex_len {d : Int} {pre : List Rec} {st : exS} (h1 : ∀ x ∈ pre, IsRec d x) (h2 : mfold exF.tk (exF.step d) exF.z pre = .ok st) (h3 : (pre.flatMap Rec.raw).length ≤ 500000) : st.2.2.length ≤ 1000000 := by
  have hi := mfold_tlen (d := d) 1000000 (exF.inv d) (exF_ok.go d) pre exF.z st 0 h1 (exF_ok.start d) (by have := tlen_le exF.tk pre; omega) h2
  rw [Nat.zero_add] at hi
  have := tlen_le exF.tk pre
  obtain ⟨s, t, q, _, ⟨sb, tb, qb, _, i1⟩⟩ := hi
  have := kv_len i1
  omega
theorem load_ex {w : World} {g : Nat} {cs : Array Value} (hg : w.heap[g]? = some (.cells cs 26 (0, 0))) (hc : cs.size = 7) : (loadVar 26 ⟨g, 0, none⟩).run Tryz.prog w = .ok (.agg cs) w :=
  run_loadVar_row w g 26 26 cs (0, 0) _ hg Tryz.underlying26 rfl (by rw [hc]; kernel_rfl)
set_option maxRecDepth 1000000 in
set_option maxHeartbeats 16000000 in
theorem unex_if (X : ByteArray) (d : Int) (hU : Hid (∀ r : Rec, (∀ rs, wall X.data.toList d = .ok rs → r ∈ rs) → r.num = 7 → UKey)) (w : World) (hX : X.size ≤ 500000) (hd : -9223372036854775808 ≤ d ∧ d ≤ 9223372036854775807) :
    Calls Tryz.prog 15 #[.string X, .int .i64 d] w (RdPost exCel exzero (exrd X.data.toList d) X.size w) := by
  have HE1 := enters_of Tryz.func40 (by kernel_rfl) rfl
  have HE2 := enters_of Tryz.func41 (by kernel_rfl) rfl
  obtain ⟨g, hg⟩ : ∃ g, w.heap.size = g := ⟨_, rfl⟩
  obtain ⟨W0, hW0⟩ : ∃ W0, ((w.alloc (.cells #[.int .i64 d] 3)).alloc (.cells #[.slice none 0 0, .int .u64 0, .int .i64 0, .int .u64 0, .string ⟨#[]⟩, .string ⟨#[]⟩, .string ⟨#[]⟩] 26)).alloc (.cells #[.slice none 0 0, .int .u64 0, .int .i64 0, .int .u64 0, .string ⟨#[]⟩, .string ⟨#[]⟩, .string ⟨#[]⟩] 26) = W0 := ⟨_, rfl⟩
  have HB0 : Hid (Below w.heap.size w W0) := Lib.hid (by rw [← hW0]; exact below_step (below_step (below_new _ _) (below_new _ _)) (below_new _ _))
  have h3 := new_three_c hg (.cells #[.int .i64 d] 3) (.cells #[.slice none 0 0, .int .u64 0, .int .i64 0, .int .u64 0, .string ⟨#[]⟩, .string ⟨#[]⟩, .string ⟨#[]⟩] 26) (.cells #[.slice none 0 0, .int .u64 0, .int .i64 0, .int .u64 0, .string ⟨#[]⟩, .string ⟨#[]⟩, .string ⟨#[]⟩] 26)
  rw [hW0] at h3
  have HR0 := Lib.hid h3.2.1
  have hcd : W0.cell? ⟨g, 0, none⟩ = some (.int .i64 d) := row_cell h3.1 (j := 0) rfl
  have htk : (capT (exT (g + 2)) g d).rel exF.z (fun k => (k = g + 2 ∨ ((Value.slice none 0 0).ownBlock = some k ∨ False)) ∨ k = g) W0 := ⟨_, ⟨.slice none 0 0, _, h3.2.2, LsAt.nil _ _ _ _, rfl⟩, by simp [Value.ownBlock], h3.1, rfl⟩
  have HRD : Hid (Calls Tryz.prog 39 #[.string X, .int .i64 d, .func (.func 40) #[] #[], .func (.func 41) #[] #[.pointer (some ⟨g + 2, 0, none⟩), .pointer (some ⟨g, 0, none⟩)]] W0 (ReadPost (capT (exT (g + 2)) g d) exF.tk (exF.step d) exF.z (fun k => (k = g + 2 ∨ ((Value.slice none 0 0).ownBlock = some k ∨ False)) ∨ k = g) X d W0)) := Lib.hid (by
    by_cases h0 : d < 0
    · refine (mread_neg _ _ _ X d W0 h0).mono ?_
      rintro e w' ⟨v, rfl, hb, he⟩
      refine ⟨Upd.of_new hb, ?_⟩
      have e6 : mread (σ := exS) exF.tk (exF.step d) exF.z X.data.toList d = .error 6 := by unfold mread; rw [if_pos h0]
      rw [e6]
      exact ⟨v, 0, rfl, Nat.zero_le _, he⟩
    · exact mread_any (capT (exT (g + 2)) g d) exF.tk (exF.step d) 40 41 #[.pointer (some ⟨g + 2, 0, none⟩), .pointer (some ⟨g, 0, none⟩)] exF.z X d W0 (by omega) HE1 HE2 (fun r w _ => extakes_any r w) (fun r st P w hk hr hraw hmem hpre h => exclo_any (g + 2) g d r (Lib.hid (fun h1 => hU.out r hmem h1)) st P w (by omega) hk (by have := isrec_s hr; omega) (by
        obtain ⟨pre, h1, h2, h3⟩ := hpre
        exact ex_len h1 h2 (by omega)) (Lib.hid h)) _ htk)
  have HW0 := Lib.hid hW0
  have HGG := Lib.hid hg
  clear hW0 h3 htk HE1 HE2
  go_enter Tryz.func15, Tryz.ntmps15
  go_wp2_with fail
  rw [HW0.out]
  go_wp2_with fail
  refine HRD.out.mono ?_; intro e w1 hpost
  obtain ⟨hu, hcase⟩ := hpost
  have hu1 : Upd (fun k => k = g + 2 ∨ k = g) W0 w1 := hu.mono (fun k _ h => by
    rcases h with (h | h | h) | h
    · exact .inl h
    · simp [Value.ownBlock] at h
    · exact h.elim
    · exact .inr h)
  have HR1 : Hid (w1.heap[g + 1]? = some (.cells #[.slice none 0 0, .int .u64 0, .int .i64 0, .int .u64 0, .string ⟨#[]⟩, .string ⟨#[]⟩, .string ⟨#[]⟩] 26 (0, 0))) := Lib.hid ((hu1.block (g + 1) (row_lt HR0.out) (by omega)).trans HR0.out)
  have HB1 : Hid (Below w.heap.size w w1) := Lib.hid (HB0.out.trans (hu1.below (by have := HB0.out.size; omega) (fun k _ h => by omega)))
  clear hu hu1 hcd HRD
  have hz0 : w1.cell? ⟨g + 1, 0, none⟩ = some (.slice none 0 0) := row_cell HR1.out (j := 0) rfl
  have fz0 : w1.frozen? ⟨g + 1, 0, none⟩ = false := row_thaw HR1.out 0
  have hz1 : w1.cell? ⟨g + 1, 1, none⟩ = some (.int .u64 0) := row_cell HR1.out (j := 1) rfl
  have fz1 : w1.frozen? ⟨g + 1, 1, none⟩ = false := row_thaw HR1.out 1
  have hz2 : w1.cell? ⟨g + 1, 2, none⟩ = some (.int .i64 0) := row_cell HR1.out (j := 2) rfl
  have fz2 : w1.frozen? ⟨g + 1, 2, none⟩ = false := row_thaw HR1.out 2
  have hz3 : w1.cell? ⟨g + 1, 3, none⟩ = some (.int .u64 0) := row_cell HR1.out (j := 3) rfl
  have fz3 : w1.frozen? ⟨g + 1, 3, none⟩ = false := row_thaw HR1.out 3
  have hz4 : w1.cell? ⟨g + 1, 4, none⟩ = some (.string ⟨#[]⟩) := row_cell HR1.out (j := 4) rfl
  have fz4 : w1.frozen? ⟨g + 1, 4, none⟩ = false := row_thaw HR1.out 4
  have hz5 : w1.cell? ⟨g + 1, 5, none⟩ = some (.string ⟨#[]⟩) := row_cell HR1.out (j := 5) rfl
  have fz5 : w1.frozen? ⟨g + 1, 5, none⟩ = false := row_thaw HR1.out 5
  have hz6 : w1.cell? ⟨g + 1, 6, none⟩ = some (.string ⟨#[]⟩) := row_cell HR1.out (j := 6) rfl
  have fz6 : w1.frozen? ⟨g + 1, 6, none⟩ = false := row_thaw HR1.out 6
  cases hb : mread (σ := exS) exF.tk (exF.step d) exF.z X.data.toList d with
  | error c =>
    rw [hb] at hcase
    obtain ⟨v, q, rfl, hq, hew⟩ := hcase
    obtain ⟨T', y, rfl⟩ := hew.iface
    have HBR : Hid (exrd X.data.toList d = .error c) := Lib.hid hb
    have HEW := Lib.hid hew
    clear hb hew
    go_wp2_with fail
    obtain ⟨hr, hua⟩ := ex_set HR1.out (.slice none 0 0) (.int .u64 0) (.int .i64 0) (.int .u64 0) (.string ⟨#[]⟩) (.string ⟨#[]⟩) (.string ⟨#[]⟩)
    refine body_cell2v rfl rfl (load_ex hr rfl) rfl ?_
    refine ⟨HB1.out.trans (hua.below (by have := HB1.out.size; omega) (fun k _ h => by have h : k = g + 1 := h; omega)), ?_⟩
    rw [HBR.out]
    obtain ⟨ws, he⟩ := HEW.out
    exact ⟨_, q, rfl, hq, ws, isErr_upd hua (fun k hk b m e h => by have hk : k = g + 1 := hk; subst hk; rw [HR1.out] at h; simp at h) he⟩
  | ok xu =>
    obtain ⟨st, u⟩ := xu
    rw [hb] at hcase
    obtain ⟨rfl, P', ⟨P0, ⟨v, P1, h1, h2, rfl⟩, h3, h4, rfl⟩, hp⟩ := hcase
    obtain ⟨t, ⟨⟨⟨k, n⟩, ⟨a, b⟩⟩, l⟩⟩ := st
    have HBR : Hid (exrd X.data.toList d = .ok ((t, (((k, n), (a, b)), l)), u)) := Lib.hid hb
    obtain ⟨css, Q, g2, g3, g4, g5, rfl⟩ := h2
    obtain ⟨lo, lc, rfl⟩ := own_slice g2
    have HRL := Lib.hid (KRel_own g2 g3 (P := fun k => g + 3 ≤ k) (fun j a1 a2 => KRel.upd (Upd.refl (fun _ => False) w1) (fun _ _ h => h) (fun k hk => (g5 k hk).2.1) _ _ (g4 j a1 a2)) (fun k hk => (g2.lt k hk).1))
    obtain ⟨Xu, hU⟩ : ∃ U : ByteArray, (⟨u.toArray⟩ : ByteArray) = U := ⟨_, rfl⟩
    have HUU := Lib.hid hU
    rw [hU]
    obtain ⟨Xa, hXa⟩ : ∃ U : ByteArray, (⟨a.toArray⟩ : ByteArray) = U := ⟨_, rfl⟩
    have HXa := Lib.hid hXa
    obtain ⟨Xb, hXb⟩ : ∃ U : ByteArray, (⟨b.toArray⟩ : ByteArray) = U := ⟨_, rfl⟩
    have HXb := Lib.hid hXb
    have HX1 : Hid (w1.heap[g + 2]? = some (.cells #[.slice lo l.length lc, .int .u64 (t : Int), .int .i64 k, .int .u64 (n : Int), .string Xa, .string Xb, .string ⟨#[]⟩] 26 (0, 0))) := Lib.hid (by rw [← hXa, ← hXb]; exact h1)
    have hx0 : w1.cell? ⟨g + 2, 0, none⟩ = some (.slice lo l.length lc) := row_cell HX1.out (j := 0) rfl
    have hx1 : w1.cell? ⟨g + 2, 1, none⟩ = some (.int .u64 (t : Int)) := row_cell HX1.out (j := 1) rfl
    have hx2 : w1.cell? ⟨g + 2, 2, none⟩ = some (.int .i64 k) := row_cell HX1.out (j := 2) rfl
    have hx3 : w1.cell? ⟨g + 2, 3, none⟩ = some (.int .u64 (n : Int)) := row_cell HX1.out (j := 3) rfl
    have hx4 : w1.cell? ⟨g + 2, 4, none⟩ = some (.string Xa) := row_cell HX1.out (j := 4) rfl
    have hx5 : w1.cell? ⟨g + 2, 5, none⟩ = some (.string Xb) := row_cell HX1.out (j := 5) rfl
    have hx6 : w1.cell? ⟨g + 2, 6, none⟩ = some (.string ⟨#[]⟩) := row_cell HX1.out (j := 6) rfl
    have hfx : w1.frozen? ⟨g + 2, 6, none⟩ = false := row_thaw HX1.out 6
    clear hb h1 g2 g3 g4 g5 h3 h4 hp hU hXa hXb
    go_wp2_with fail
    have hux := Upd.set w1 ⟨g + 2, 6, none⟩ (.string Xu)
    obtain ⟨hr, hua⟩ := ex_set ((hux.block (g + 1) (row_lt HR1.out) (fun e => by have e : g + 1 = g + 2 := e; omega)).trans HR1.out) (.slice lo l.length lc) (.int .u64 (t : Int)) (.int .i64 k) (.int .u64 (n : Int)) (.string Xa) (.string Xb) (.string Xu)
    refine body_cell2v rfl rfl (load_ex hr rfl) rfl ?_
    have hub := (hux.mono (S' := fun k => k = g + 1 ∨ k = g + 2) fun k _ h => .inr h).trans (hua.mono fun k _ h => .inl h)
    refine ⟨HB1.out.trans (hub.below (by have := HB1.out.size; omega) (fun k _ h => by omega)), ?_⟩
    rw [HBR.out]
    refine ⟨[.slice lo l.length lc, .int .u64 (t : Int), .int .i64 k, .int .u64 (n : Int), .string Xa, .string Xb, .string Xu], rfl, lo, lc, ?_, KRels.upd hub (fun k hk e => by omega) (fun k hk => by omega) _ _ _ HRL.out⟩
    rw [← HUU.out, ← HXa.out, ← HXb.out]; rfl
end Go.Proofs.YtandoppfbilhbaaGreatDoor

namespace Go.Proofs.YtandoppfbilhbaaGreatDoor
open Go.RowKit

theorem ukey_any : UKey := fun Y d' w' hY hd => ((both_any 1000001 Y d' w' (by omega) hY hd).2).mono fun _ _ h => kpost_rd h
end Go.Proofs.YtandoppfbilhbaaGreatDoor

namespace Go.Proofs.YtandoppfbilhbaaGreatDoor
open Go.RowKit

theorem ex_un (X : ByteArray) (d : Int) (w : World) (hX : X.size ≤ 500000) (hd : -9223372036854775808 ≤ d ∧ d ≤ 9223372036854775807) :
    Calls Tryz.prog 15 #[.string X, .int .i64 d] w (RdPost exCel exzero (exrd X.data.toList d) X.size w) := unex_if X d (Lib.hid (fun _ _ _ => ukey_any)) w hX hd
end Go.Proofs.YtandoppfbilhbaaGreatDoor

namespace Go.Proofs.YtandoppfbilhbaaGreatDoor
open Go.RowKit

theorem ex_ap : (numF 2).Apart (((kindF 3 6).wrap ((bytesF 4).and (bytesF 5)) (fun s => if s.1 = 1 then [rF 3 s.2] else []) (fun s => if s.1 = 2 then [rF 6 s.2] else [])).and (listF 7 kvS)) := apart_of fun r h => by
  simp only [numF, decide_eq_true_eq] at h
  simp only [Fld.and, Fld.wrap, bytesF, kindF, listF, listTk, Bool.or_eq_false_iff, decide_eq_false_iff_not]
  omega
theorem ex_ap2 : ((kindF 3 6).wrap ((bytesF 4).and (bytesF 5)) (fun s => if s.1 = 1 then [rF 3 s.2] else []) (fun s => if s.1 = 2 then [rF 6 s.2] else [])).Apart (listF 7 kvS) := apart_of fun r h => by
  simp only [Fld.and, Fld.wrap, bytesF, kindF, Bool.or_eq_true, decide_eq_true_eq] at h
  simp only [listF, listTk, decide_eq_false_iff_not]
  omega
theorem ex_ap21 : (kindF 3 6).Apart ((bytesF 4).and (bytesF 5)) := apart_of fun r h => by
  simp only [kindF, decide_eq_true_eq] at h
  simp only [Fld.and, bytesF, Bool.or_eq_false_iff, decide_eq_false_iff_not]
  omega
theorem ex_join {s t u1 u2 : List UInt8} {t1 : Nat} {k1 : Int} {n1 : Nat} {a1 : List UInt8} {b1 : List UInt8} {l1 : List KV} {t2 : Nat} {k2 : Int} {n2 : Nat} {a2 : List UInt8} {b2 : List UInt8} {l2 : List KV} {d : Int} (h1 : exrd s d = .ok ((t1, (((k1, n1), (a1, b1)), l1)), u1)) (h2 : exrd t d = .ok ((t2, (((k2, n2), (a2, b2)), l2)), u2)) : ∃ t3 k3 n3 a3 b3 l3, exrd (s ++ t) d = .ok ((t3, (((k3, n3), (a3, b3)), l3)), (u1 ++ u2)) ∧ (k2 = 0 ∧ k3 = k1 ∧ n3 = n1 ∨ 0 < k2 ∧ k3 = k2 ∧ n3 = n2) ∧ l3.length = l1.length + l2.length := by
  obtain ⟨⟨t3, ⟨⟨⟨k3, n3⟩, ⟨a3, b3⟩⟩, l3⟩⟩, rs, ts, h3, h4, h5, h6⟩ := fld_join ex_free h1 h2
  refine ⟨t3, k3, n3, a3, b3, l3, h3, ?_, ?_⟩
  · rcases kind_join (Fld.wrap_fst ex_ap21 (Fld.and_fst ex_ap2 (Fld.and_fst ex_ap h4).2).1).1 (Fld.wrap_fst ex_ap21 (Fld.and_fst ex_ap2 (Fld.and_fst ex_ap h5).2).1).1 (Fld.wrap_fst ex_ap21 (Fld.and_fst ex_ap2 (Fld.and_fst ex_ap h6).2).1).1 with ⟨e1, e2⟩ | ⟨e1, e2⟩
    · exact .inl ⟨e1, congrArg Prod.fst e2, congrArg Prod.snd e2⟩
    · exact .inr ⟨e1, congrArg Prod.fst e2, congrArg Prod.snd e2⟩
  · have e1 := kv_count _ _ _ (Fld.and_fst ex_ap2 (Fld.and_fst ex_ap h4).2).2
    have e2 := kv_count _ _ _ (Fld.and_fst ex_ap2 (Fld.and_fst ex_ap h5).2).2
    have e3 := kv_count _ _ _ (Fld.and_fst ex_ap2 (Fld.and_fst ex_ap h6).2).2
    rw [List.filter_append, List.length_append] at e3
    have z1 : ((listF 7 kvS).z : List KV).length = 0 := rfl
    omega
end Go.Proofs.YtandoppfbilhbaaGreatDoor

namespace Go.Proofs.YtandoppfbilhbaaGreatDoor
open Go.RowKit

theorem rF_wrec {num : Nat} (h1 : 1 ≤ num) (h2 : num ≤ 536870911) (n : Nat) : wrec (num : Int) 1 (eight 8 n) = (rF num n).raw := wrec_raw (num := num) (ty := 1) h1 h2 (by omega) (eight 8 n)
theorem rF_len20 (num n : Nat) : (rF num n).raw.length ≤ 20 := by
  show (vput (8 * num + 1) ++ eight 8 n).length ≤ 20
  have := vput_le10 (8 * num + 1)
  have : (eight 8 n).length = 8 := by rw [eight_8]; rfl
  rw [List.length_append]
  omega
def wnumP (num n : Nat) : List (List UInt8) := if n = 0 then [] else [(rF num n).raw]
set_option maxRecDepth 1000000 in
set_option maxHeartbeats 4000000 in
theorem wnum_any (p : Nat) (d : Int) (vo : Value) (ps : List (List UInt8)) (b : Bool) (P : Nat → Prop) (num n : Nat) (w : World) (h : Hid (WrAt p d vo ps b P w)) (hn : n < 18446744073709551616) (h1 : 1 ≤ num) (h2 : num ≤ 536870911) (hl : ps.length ≤ 1000000) (hf : ps.flatten.length ≤ 10000000) :
    Calls Tryz.prog 55 #[.pointer (some ⟨p, 0, none⟩), .int .i64 (num : Int), .int .u64 (n : Int)] w (WrPost p d vo (wps b ps (wnumP num n)) b P w) := by
  by_cases h0 : n = 0
  · subst h0
    go_enter Tryz.func55, Tryz.ntmps55
    go_wp2_with fail
    go_end0
    rw [show wnumP num 0 = [] from if_pos rfl, wps_nil]
    exact wr_same h.out
  · have d1 : ((n : Int) != 0) = true := by rw [bne_iff_ne]; omega
    have HZ : Hid (wnumP num n = [(rF num n).raw]) := Lib.hid (if_neg h0)
    have hrw := rF_wrec h1 h2 n
    have hwl := rF_len20 num n
    obtain ⟨R, hR⟩ : ∃ R, (rF num n).raw = R := ⟨_, rfl⟩
    rw [hR] at hrw hwl HZ
    have HRW := Lib.hid hrw
    clear h0 hR hrw
    go_enter Tryz.func55, Tryz.ntmps55
    go_wp2_with fail
    refine (wfixed_any (num : Int) n _ (by omega) (by omega) hn).mono ?_; rintro e w1 ⟨rfl, hb1⟩
    rw [HRW.out]
    have HB1 := Lib.hid hb1
    have HW1 := Lib.hid (wr_below h.out hb1)
    clear hb1
    go_wp2_with fail
    refine (wput_any p d vo ps b P R _ HW1 hl (by omega)).mono ?_; intro e w2 hpost
    obtain ⟨rfl, hu, P', hw, hp⟩ := hpost
    have HU := Lib.hid hu
    have HW := Lib.hid hw
    have HP := Lib.hid hp
    clear hu hw hp
    go_wp2_with fail
    go_end0
    refine ⟨rfl, (Upd.of_new HB1.out).trans HU.out, P', ?_, fun k hk => ?_⟩
    · rw [HZ.out]; exact HW.out
    · rcases HP.out k hk with h | h
      · exact .inl h
      · exact .inr (Nat.le_trans HB1.out.size h)
section
variable {p : Nat} {d : Int} {ps : List (List UInt8)} {hs : List Hole} {b : Bool} {P : Nat → Prop} {w : World}
theorem wv_num (num n : Nat) (h : WrH p d ps hs b P w) (hn : n < 18446744073709551616) (h1 : 1 ≤ num) (h2 : num ≤ 536870911) (hl : ps.length ≤ 1000000) (hf : ps.flatten.length ≤ 10000000) :
    Calls Tryz.prog 55 #[.pointer (some ⟨p, 0, none⟩), .int .i64 (num : Int), .int .u64 (n : Int)] w (WvPost p d ps hs b P w true (if n = 0 then [] else (rF num n).raw) 1 20) := by
  have h3 := wv_lift (F := 55) (args := #[.pointer (some ⟨p, 0, none⟩), .int .i64 (num : Int), .int .u64 (n : Int)]) (g := true) (ts := wnumP num n) h (fun vo P0 hw => by simpa using wnum_any p d vo ps b P0 num n w (Lib.hid hw) hn h1 h2 hl hf)
  refine h3.mono fun e w' hp => ?_
  by_cases h0 : n = 0
  · rw [wnumP, if_pos h0] at hp
    rw [if_pos h0]
    exact hp.le (by simp) (by simp)
  · rw [wnumP, if_neg h0] at hp
    rw [if_neg h0]
    simp only [List.flatten_cons, List.flatten_nil, List.append_nil] at hp
    exact hp.le (by simp) (rF_len20 num n)
theorem wv_bytes (num : Nat) (X : ByteArray) (t : List UInt8) (h : WrH p d ps hs b P w) (hX : X.data.toList = t) (h1 : 1 ≤ num) (h2 : num ≤ 536870911) (ht : t.length ≤ 1000000) (hl : ps.length ≤ 1000000) (hf : ps.flatten.length ≤ 10000000) :
    Calls Tryz.prog 57 #[.pointer (some ⟨p, 0, none⟩), .int .i64 (num : Int), .string X] w (WvPost p d ps hs b P w true (if t = [] then [] else (rB num t).raw) 1 (20 + t.length)) := by
  have h3 := wv_lift (F := 57) (args := #[.pointer (some ⟨p, 0, none⟩), .int .i64 (num : Int), .string X]) (g := true) (ts := wbytesP num t) h (fun vo P0 hw => by simpa using wmbytes_any p d vo ps b P0 num X t w (Lib.hid hw) (Lib.hid hX) h2 ht hl hf)
  refine h3.mono fun e w' hp => ?_
  rw [wbytesP_raw num h1 h2 t] at hp
  have hl := wbytesP_len num h1 h2 t
  rw [wbytesP_raw num h1 h2 t] at hl
  exact hp.le hl.1 hl.2
set_option maxRecDepth 1000000 in
set_option maxHeartbeats 4000000 in
theorem wv_kind (k : Int) (n : Nat) (h : Hid (WrH p d ps hs b P w)) :
    Calls Tryz.prog 54 #[.pointer (some ⟨p, 0, none⟩), .int .i64 k, .int .u64 (n : Int)] w (WvPost p d ps hs b P w (decide (k = 0 ∧ n = 0 ∨ k = 1 ∨ k = 2)) [] 0 0) := by
  obtain ⟨g, hg⟩ : ∃ g, decide (k = 0 ∧ n = 0 ∨ k = 1 ∨ k = 2) = g := ⟨_, rfl⟩
  rw [hg]
  have HA := Lib.hid (wv_ask g h.out)
  have hk : (k = 0 ∧ n = 0 ∧ g = true) ∨ (k = 0 ∧ n ≠ 0 ∧ g = false) ∨ (k = 1 ∧ g = true) ∨ (k = 2 ∧ g = true) ∨ (k ≠ 0 ∧ k ≠ 1 ∧ k ≠ 2 ∧ g = false) := by
    cases g with
    | true => have := of_decide_eq_true hg; simp only [and_true, Bool.true_eq_false, and_false, false_or, or_false]; omega
    | false => have := of_decide_eq_false hg; simp only [and_true, Bool.false_eq_true, and_false, false_or]; omega
  clear hg
  rcases hk with ⟨rfl, rfl, rfl⟩ | ⟨rfl, hn, rfl⟩ | ⟨rfl, rfl⟩ | ⟨rfl, rfl⟩ | ⟨h0, h1, h2, rfl⟩
  case inr.inl => 
    have d1 : ((n : Int) == 0) = false := by rw [beq_eq_false_iff_ne]; omega
    clear hn
    go_enter Tryz.func54, Tryz.ntmps54
    go_wp2_with fail
    refine HA.out.mono ?_; intro e w1 hp
    obtain rfl := hp.unit
    have HP := Lib.hid hp
    clear hp
    go_wp2_with fail
    go_end0
    exact HP.out
  case inr.inr.inr.inr =>
    have d0 : (k == 0) = false := by rw [beq_eq_false_iff_ne]; exact h0
    have d1 : (k == 1) = false := by rw [beq_eq_false_iff_ne]; exact h1
    have d2 : (k == 2) = false := by rw [beq_eq_false_iff_ne]; exact h2
    clear h0 h1 h2
    go_enter Tryz.func54, Tryz.ntmps54
    go_wp2_with fail
    refine HA.out.mono ?_; intro e w1 hp
    obtain rfl := hp.unit
    have HP := Lib.hid hp
    clear hp
    go_wp2_with fail
    go_end0
    exact HP.out
  all_goals
    go_enter Tryz.func54, Tryz.ntmps54
    go_wp2_with fail
    refine HA.out.mono ?_; intro e w1 hp
    obtain rfl := hp.unit
    have HP := Lib.hid hp
    clear hp
    go_wp2_with fail
    go_end0
    exact HP.out
/-- what is written only if: not written -/
theorem WSx.skip {may : Bool} {t : List UInt8} {nl nf : Nat} {qs : List (List UInt8)} {P1 : Nat → Prop} {bx : Nat} {X : Array Value} {T : TypeId} {w1 : World} (h : WSx p d ps hs b P w may t nl nf qs P1 bx X T w1) (c : Prop) [Decidable c] (hc : ¬ c) (r : List UInt8) (f2 : Nat) : WSx p d ps hs b P w (may && true) (t ++ if c then r else []) (nl + 1) (nf + f2) qs P1 bx X T w1 := by
  obtain ⟨⟨h1, h2, h3, h4, h5, h6⟩, h7, h8⟩ := h
  rw [if_neg hc, List.append_nil, Bool.and_true]
  exact ⟨⟨h1, h2, h3, h4, by omega, by omega⟩, h7, h8⟩
/-- written -/
theorem wv_if {t : List UInt8} {nl nf : Nat} {e : Ending} {w' : World} (c : Prop) [Decidable c] (hc : c) (h : WvPost p d ps hs b P w true t nl nf e w') : WvPost p d ps hs b P w true (if c then t else []) nl nf e w' := by
  rw [if_pos hc]; exact h
end
end Go.Proofs.YtandoppfbilhbaaGreatDoor

namespace Go.Proofs.YtandoppfbilhbaaGreatDoor
open Go.RowKit

set_option maxRecDepth 1000000 in
set_option maxHeartbeats 16000000 in
theorem ex_marshal_if (x : Ex) (hM : Hid (x.1.2.2 ≠ [] → KMar)) (cs : List Value) (Q : Nat → Prop) (d : Int) (w : World) (hf : ex_fit x) (hr : exCel.R w Q x cs) (hd : -9223372036854775808 ≤ d ∧ d ≤ 9223372036854775807) :
  Calls Tryz.prog 21 #[.agg cs.toArray, .int .i64 d] w (MarPost (ex_may d x) (ex_out x) w) := by
 obtain ⟨⟨t, ⟨⟨⟨k, n⟩, ⟨a, b⟩⟩, l⟩⟩, u⟩ := x
 obtain ⟨lo, lc, rfl, hr⟩ := hr
 have HR := Lib.hid (KRels.lt _ _ _ hr)
 have HD := Lib.hid hd
 obtain ⟨hnt, hnn, hfl, hw⟩ := hf
 have HFK := Lib.hid hw
 have HNT := Lib.hid hnt
 have HNN := Lib.hid hnn
 have HFL := Lib.hid hfl
 obtain ⟨Xa, hXa⟩ : ∃ U : ByteArray, (⟨a.toArray⟩ : ByteArray) = U := ⟨_, rfl⟩
 obtain ⟨Xb, hXb⟩ : ∃ U : ByteArray, (⟨b.toArray⟩ : ByteArray) = U := ⟨_, rfl⟩
 obtain ⟨Xu, hXu⟩ : ∃ U : ByteArray, (⟨u.toArray⟩ : ByteArray) = U := ⟨_, rfl⟩
 have HXa : Hid (Xa.data.toList = a) := Lib.hid (by rw [← hXa])
 have HXb : Hid (Xb.data.toList = b) := Lib.hid (by rw [← hXb])
 have HU := Lib.hid hXu
 dsimp only [strV]
 rw [hXa, hXb, hXu]
 obtain ⟨mx, hmx⟩ : ∃ m, ex_may d ((t, (((k, n), (a, b)), l)), u) = m := ⟨_, rfl⟩
 obtain ⟨ox, hox⟩ : ∃ m, ex_out ((t, (((k, n), (a, b)), l)), u) = m := ⟨_, rfl⟩
 rw [hmx, hox]
 have HMX := Lib.hid hmx
 have HOX := Lib.hid hox
 obtain ⟨W0, hW0⟩ : ∃ W, w.alloc (.cells #[.slice lo l.length lc, .int .u64 (t : Int), .int .i64 k, .int .u64 (n : Int), .string Xa, .string Xb, .string Xu] 26) = W := ⟨_, rfl⟩
 obtain ⟨bx, hbx⟩ : ∃ bx, w.heap.size = bx := ⟨_, rfl⟩
 have HB0 : Hid (Below w.heap.size w W0) := Lib.hid (by rw [← hW0]; exact below_new _ _)
 have HX0 : Hid (W0.heap[bx]? = some (.cells #[.slice lo l.length lc, .int .u64 (t : Int), .int .i64 k, .int .u64 (n : Int), .string Xa, .string Xb, .string Xu] 26 (0, 0))) := Lib.hid (by rw [← hW0, ← hbx]; exact heap_alloc_new _ _)
 have HW0 := Lib.hid hW0
 have HBX := Lib.hid hbx
 have HET := Lib.hid (enters_of Tryz.func40 (by kernel_rfl) rfl)
 clear hW0 hbx hr hd hmx hox hXa hXb hXu hnt hnn hfl hw
 go_enter Tryz.func21, Tryz.ntmps21
 go_wp2_with fail
 rw [HW0.out, HBX.out]
 refine (wmnew_any d W0).mono ?_; rintro e wz ⟨rfl, hb1, P1, hw1, hp1⟩
 obtain ⟨p, hp⟩ : ∃ p, W0.heap.size = p := ⟨_, rfl⟩
 have hpp : bx < p := by rw [← hp]; exact row_lt HX0.out
 rw [hp] at hw1 hb1 hp1 ⊢
 have HB1 : Hid (Below p W0 wz) := Lib.hid hb1
 have HP1 : Hid (∀ k, P1 k → p ≤ k) := Lib.hid hp1
 have HPE := Lib.hid hp
 have HS := Lib.hid (WSx.start (wh_new hw1) (Below.refl _ _) ((hb1.block _ hpp).trans HX0.out) (fun h => by have := hp1 bx h; omega))
 have HR1 : Hid (KRels wz (fun k => Q k ∧ k < w.heap.size) l lo 0) := Lib.hid (KRels.upd (Upd.of_new (S := fun _ => False) (HB0.out.trans (hb1.mono (by have := HB0.out.size; omega)))) (fun _ _ h => h) (fun _ h => h) l lo 0 HR.out)
 have HQ1 : Hid (∀ k, Q k ∧ k < w.heap.size → k < p ∧ k < wz.heap.size) := Lib.hid (fun k hk => by have := HB0.out.size; have := hb1.size; omega)
 clear hb1 hw1 hp1 hp
 have xc : wz.cell? ⟨bx, 2, none⟩ = some (.int .i64 k) := HS.out.cell rfl
 have xn : wz.cell? ⟨bx, 3, none⟩ = some (.int .u64 (n : Int)) := HS.out.cell rfl
 go_wp2_with fail
 refine (wv_kind k n (Lib.hid HS.out.so.wr)).mono ?_; intro e wz hpost
 obtain ⟨qs2, P2, rfl, hs⟩ := HS.out.next hpost
 have HSN := Lib.hid hs
 clear hpost hs HS xc xn
 have HS := HSN
 clear HSN
 have xc : wz.cell? ⟨bx, 1, none⟩ = some (.int .u64 (t : Int)) := HS.out.cell rfl
 go_wp2_with fail
 refine (wv_num 2 t HS.out.so.wr HNT.out (by omega) (by omega) (by have := HS.out.so.len; have := HFK.out; simp only [List.nil_append]; omega) (by have := HS.out.so.size; have := HFK.out; simp only [List.nil_append]; omega)).mono ?_; intro e wz hpost
 obtain ⟨qs2, P2, rfl, hs⟩ := HS.out.next hpost
 have HSN := Lib.hid hs
 clear hpost hs HS xc
 have HS := HSN
 clear HSN
 have hkk : ((k == 1) = true ∧ (k == 2) = false) ∨ ((k == 1) = false ∧ (k == 2) = true) ∨ ((k == 1) = false ∧ (k == 2) = false) := by
   by_cases h1 : k = 1
   · subst h1; left; exact ⟨rfl, rfl⟩
   · by_cases h2 : k = 2
     · subst h2; right; left; exact ⟨rfl, rfl⟩
     · right; right; exact ⟨beq_eq_false_iff_ne.2 h1, beq_eq_false_iff_ne.2 h2⟩
 rcases hkk with ⟨c1, c2⟩ | ⟨c1, c2⟩ | ⟨c1, c2⟩
 all_goals
  have xc : wz.cell? ⟨bx, 2, none⟩ = some (.int .i64 k) := HS.out.cell rfl
  have xn : wz.cell? ⟨bx, 3, none⟩ = some (.int .u64 (n : Int)) := HS.out.cell rfl
  have xd : wz.cell? ⟨bx, 4, none⟩ = some (.string Xa) := HS.out.cell rfl
  go_wp2_with fail
  first
  | (go_at_call 28
     refine (wfixed_any 3 n _ (by omega) (by omega) HNN.out).mono ?_; rintro e wz ⟨rfl, hbz⟩
     rw [show wrec 3 1 (eight 8 n) = (rF 3 n).raw from rF_wrec (num := 3) (by omega) (by omega) n]
     have HSN := Lib.hid (HS.out.below hbz)
     clear hbz HS xc xn xd
     have HS := HSN
     clear HSN
     go_wp2_with fail
     refine ((wv_put (rF 3 n).raw HS.out.so.wr (by have := HS.out.so.len; have := HFK.out; simp only [List.nil_append]; omega) (by have := rF_len20 3 n; have := HS.out.so.size; have := HFK.out; simp only [List.nil_append]; omega)).mono (fun _ _ h => wv_if (k = 1) (eq_of_beq c1) (h.le (Nat.le_refl _) (rF_len20 3 n)))).mono ?_; intro e wz hpost
     obtain ⟨qs2, P2, rfl, hs⟩ := HS.out.next hpost
     have HSN := Lib.hid hs
     clear hpost hs HS
     have HS := HSN
     clear HSN)
  | (have HSN := Lib.hid (HS.out.skip (k = 1) (fun h => by rw [h] at c1; simp at c1) (rF 3 n).raw 20)
     clear HS xc xn xd
     have HS := HSN
     clear HSN)
  have xc : wz.cell? ⟨bx, 4, none⟩ = some (.string Xa) := HS.out.cell rfl
  try go_wp2_with fail
  refine (wv_bytes 4 Xa a HS.out.so.wr HXa.out (by omega) (by omega) (by have := HFK.out; omega) (by have := HS.out.so.len; have := HFK.out; simp only [List.nil_append]; omega) (by have := HS.out.so.size; have := HFK.out; simp only [List.nil_append]; omega)).mono ?_; intro e wz hpost
  obtain ⟨qs2, P2, rfl, hs⟩ := HS.out.next hpost
  have HSN := Lib.hid hs
  clear hpost hs HS xc
  have HS := HSN
  clear HSN
  have xc : wz.cell? ⟨bx, 5, none⟩ = some (.string Xb) := HS.out.cell rfl
  go_wp2_with fail
  refine (wv_bytes 5 Xb b HS.out.so.wr HXb.out (by omega) (by omega) (by have := HFK.out; omega) (by have := HS.out.so.len; have := HFK.out; simp only [List.nil_append]; omega) (by have := HS.out.so.size; have := HFK.out; simp only [List.nil_append]; omega)).mono ?_; intro e wz hpost
  obtain ⟨qs2, P2, rfl, hs⟩ := HS.out.next hpost
  have HSN := Lib.hid hs
  clear hpost hs HS xc
  have HS := HSN
  clear HSN
  have xc : wz.cell? ⟨bx, 2, none⟩ = some (.int .i64 k) := HS.out.cell rfl
  have xn : wz.cell? ⟨bx, 3, none⟩ = some (.int .u64 (n : Int)) := HS.out.cell rfl
  have xd : wz.cell? ⟨bx, 0, none⟩ = some (.slice lo l.length lc) := HS.out.cell rfl
  go_wp2_with fail
  first
  | (go_at_call 28
     refine (wfixed_any 6 n _ (by omega) (by omega) HNN.out).mono ?_; rintro e wz ⟨rfl, hbz⟩
     rw [show wrec 6 1 (eight 8 n) = (rF 6 n).raw from rF_wrec (num := 6) (by omega) (by omega) n]
     have HSN := Lib.hid (HS.out.below hbz)
     clear hbz HS xc xn xd
     have HS := HSN
     clear HSN
     go_wp2_with fail
     refine ((wv_put (rF 6 n).raw HS.out.so.wr (by have := HS.out.so.len; have := HFK.out; simp only [List.nil_append]; omega) (by have := rF_len20 6 n; have := HS.out.so.size; have := HFK.out; simp only [List.nil_append]; omega)).mono (fun _ _ h => wv_if (k = 2) (eq_of_beq c2) (h.le (Nat.le_refl _) (rF_len20 6 n)))).mono ?_; intro e wz hpost
     obtain ⟨qs2, P2, rfl, hs⟩ := HS.out.next hpost
     have HSN := Lib.hid hs
     clear hpost hs HS
     have HS := HSN
     clear HSN)
  | (have HSN := Lib.hid (HS.out.skip (k = 2) (fun h => by rw [h] at c2; simp at c2) (rF 6 n).raw 20)
     clear HS xc xn xd
     have HS := HSN
     clear HSN)
  have xc : wz.cell? ⟨bx, 0, none⟩ = some (.slice lo l.length lc) := HS.out.cell rfl
  try go_wp2_with fail
  refine (listk_if l hM p d _ [] _ _ (fun k => Q k ∧ k < w.heap.size) wz 7 lo lc HFL.out (KRels.upd HS.out.so.upd (fun k hk h => by have := HP1.out k h; have := HQ1.out k hk; omega) (fun _ h => h) l lo 0 HR1.out) (fun k hk h => by have := HQ1.out k hk; rcases HS.out.so.new k h with h | h; (have := HP1.out k h; omega); omega) HS.out.so.wr (by by_cases h : d < 0; (left; simp [h]); (right; omega)) HD.out (by omega) ⟨by have := HS.out.so.len; have := HFK.out; simp only [List.nil_append]; omega, by have := HS.out.so.size; have := HFK.out; simp only [List.nil_append]; omega, by have := HFK.out; omega⟩).mono ?_; intro e wz hpost
  obtain ⟨qs2, P2, rfl, hs⟩ := HS.out.next hpost
  have HSN := Lib.hid hs
  clear hpost hs HS xc
  have HS := HSN
  clear HSN
  have xc : wz.cell? ⟨bx, 6, none⟩ = some (.string Xu) := HS.out.cell rfl
  go_wp2_with fail
  refine (wv_rest Xu u exF.tk 40 HS.out.so.wr HU.out.symm (by have := HFK.out; omega) (by have := HS.out.so.len; have := HFK.out; simp only [List.nil_append]; omega) (by have := HS.out.so.size; have := HFK.out; simp only [List.nil_append]; omega) HET.out (fun r w => extakes_any r w)).mono ?_; intro e wz hpost
  obtain ⟨qs2, P2, rfl, hs⟩ := HS.out.next hpost
  have HSN := Lib.hid hs
  clear hpost hs HS xc
  have HS := HSN
  clear HSN
  go_wp2_with fail
  obtain ⟨vo, P0, hwa, _⟩ := HS.out.so.wr
  have HWA := Lib.hid hwa
  have HLB := Lib.hid (And.intro HS.out.so.len HS.out.so.size)
  clear hwa
  refine (wend_any p d vo _ _ P0 _ HWA (by have := HLB.out.1; simp only [List.nil_append]; (have := HFK.out; omega)) (by have := HLB.out.2; simp only [List.nil_append]; (have := HFK.out; omega))).mono ?_; rintro e w9 ⟨hb9, hcase⟩
  have HB9 := Lib.hid (mar_below HB0.out HPE.out HB1.out HS.out.so.upd HP1.out hb9)
  have HBY := Lib.hid HS.out.so.bytes
  obtain ⟨bb, hbb⟩ : ∃ bb, (decide (d < 0) || !((((((((true && decide (k = 0 ∧ n = 0 ∨ k = 1 ∨ k = 2)) && true) && true) && true) && true) && true) && kmays l d) && munkOk exF.tk u d)) = bb := ⟨_, rfl⟩
  rw [hbb] at hcase HBY
  have HBB : Hid (mx = !bb) := Lib.hid (by
    rw [← HMX.out, ← hbb]
    show (decide (0 ≤ d) && ((decide (k = 0 ∧ n = 0 ∨ k = 1 ∨ k = 2) && kmays l d) && munkOk exF.tk u d)) = _
    by_cases h : d < 0
    · rw [decide_eq_true h, decide_eq_false (by omega : ¬ 0 ≤ d)]; rfl
    · rw [decide_eq_false h, decide_eq_true (by omega : 0 ≤ d)]
      simp only [Bool.true_and, Bool.and_true, Bool.false_or, Bool.not_not, Bool.and_assoc])
  clear hb9 hbb
  cases bb with
  | true =>
    rw [if_pos rfl] at hcase
    obtain ⟨v, rfl, hec⟩ := hcase
    obtain ⟨T', y, rfl⟩ := hec.iface
    have HEC := Lib.hid hec
    clear hec
    go_wp2_with fail
    go_ret2
    refine ⟨HB9.out, ?_⟩
    rw [HBB.out, if_neg (by simp)]
    exact ⟨_, rfl, HEC.out⟩
  | false =>
    rw [if_neg (by simp)] at hcase
    subst hcase
    have hq9 := HBY.out rfl
    rw [List.nil_append, hq9]
    have hoe : ([] ++ [] ++ (if t = 0 then [] else (rF 2 t).raw) ++ (if k = 1 then (rF 3 n).raw else []) ++ (if a = [] then [] else (rB 4 a).raw) ++ (if b = [] then [] else (rB 5 b).raw) ++ (if k = 2 then (rF 6 n).raw else []) ++ kouts 7 l ++ u : List UInt8) = ox := by
      rw [← HOX.out]
      show _ = (if t = 0 then [] else (rF 2 t).raw) ++ (if k = 1 then (rF 3 n).raw else []) ++ (if a = [] then [] else (rB 4 a).raw) ++ (if b = [] then [] else (rB 5 b).raw) ++ (if k = 2 then (rF 6 n).raw else []) ++ kouts 7 l ++ u
      simp only [List.nil_append]
    rw [hoe]
    clear hoe hq9
    go_wp2_with fail
    go_ret2
    refine ⟨HB9.out, ?_⟩
    rw [HBB.out, if_pos (show (!false) = true from rfl)]
    rfl
end Go.Proofs.YtandoppfbilhbaaGreatDoor

namespace Go.Proofs.YtandoppfbilhbaaGreatDoor
open Go.RowKit

theorem first_ex1 (w : World) : Calls Tryz.prog 21 #[.agg #[.slice none 0 0, .int .u64 0, .int .i64 2, .int .u64 1, .string ⟨#[]⟩, .string ⟨#[]⟩, .string ⟨#[]⟩], .int .i64 0] w fun e w' => e = .returned (.tuple #[.string ⟨#[49, 1, 0, 0, 0, 0, 0, 0, 0]⟩, .nilIface]) ∧ Below w.heap.size w w' := by
  refine (ex_marshal_if ((0, ((2, 1), [], []), []), []) (Lib.hid fun h => absurd rfl h) [.slice none 0 0, .int .u64 0, .int .i64 2, .int .u64 1, .string ⟨#[]⟩, .string ⟨#[]⟩, .string ⟨#[]⟩] (fun _ => False) 0 w ⟨by omega, by omega, by rw [ksfit]; trivial, by rw [ksw]; decide⟩ ⟨none, 0, rfl, by rw [KRels]; trivial⟩ (by omega)).mono ?_
  rintro e w' ⟨hb, h⟩
  rw [show ex_may 0 ((0, ((2, 1), [], []), []), []) = true by kernel_rfl, if_pos rfl, show ex_out ((0, ((2, 1), [], []), []), []) = [49, 1, 0, 0, 0, 0, 0, 0, 0] by kernel_rfl] at h
  exact ⟨h, hb⟩
theorem first_ex2 (w : World) : Calls Tryz.prog 21 #[.agg #[.slice none 0 0, .int .u64 0, .int .i64 0, .int .u64 1, .string ⟨#[]⟩, .string ⟨#[]⟩, .string ⟨#[]⟩], .int .i64 0] w fun e w' => Below w.heap.size w w' ∧ ∃ v, e = .returned (.tuple #[.string ⟨#[]⟩, v]) ∧ EC w' v 8 := by
  refine (ex_marshal_if ((0, ((0, 1), [], []), []), []) (Lib.hid fun h => absurd rfl h) [.slice none 0 0, .int .u64 0, .int .i64 0, .int .u64 1, .string ⟨#[]⟩, .string ⟨#[]⟩, .string ⟨#[]⟩] (fun _ => False) 0 w ⟨by omega, by omega, by rw [ksfit]; trivial, by rw [ksw]; decide⟩ ⟨none, 0, rfl, by rw [KRels]; trivial⟩ (by omega)).mono ?_
  rintro e w' ⟨hb, h⟩
  rw [show ex_may 0 ((0, ((0, 1), [], []), []), []) = false by kernel_rfl, if_neg (by simp)] at h
  exact ⟨hb, h⟩
set_option maxRecDepth 1000000 in
set_option maxHeartbeats 8000000 in
theorem first11 (w : World) (hG : Hid (Glob w)) : Calls Tryz.prog 14 #[] w fun e w' => e = .returned (.bool true) ∧ Below w.heap.size w w' := by
  go_enter Tryz.func14, Tryz.ntmps14
  go_wp2_with fail
  refine (first_ex1 w).mono ?_; rintro e w1 ⟨rfl, hb1⟩
  have HB1 := Lib.hid hb1
  clear hb1
  go_wp2_with fail
  refine (first_ex2 w1).mono ?_; rintro e w2 ⟨hb2, v, rfl, hec⟩
  obtain ⟨T', y, rfl⟩ := hec.iface
  obtain ⟨ws, he⟩ := hec
  have HE := Lib.hid he
  have HB2 := Lib.hid (below_step HB1.out hb2)
  clear hb2 he
  go_wp2_with fail
  refine (code_any ws _ _ w2 HE.out (root_code _) (hG.out.below HB2.out)).mono ?_; rintro e w3 ⟨rfl, hb3⟩
  have HB3 := Lib.hid (below_step HB2.out hb3)
  clear hb3
  rw [show codeOf (codeV ((8 : Nat) : Int)) = 8 from rfl]
  go_wp2_with fail
  go_ret
  exact ⟨rfl, HB3.out⟩
end Go.Proofs.YtandoppfbilhbaaGreatDoor

namespace Go.Proofs.YtandoppfbilhbaaGreatDoor
open Go.RowKit

theorem row7 {w : World} {g : Nat} {c0 c1 c2 c3 c4 c5 c6 : Value} {T : TypeId} {fr : Nat × Nat} (h : w.heap[g]? = some (.cells #[c0, c1, c2, c3, c4, c5, c6] T fr)) : w.cell? ⟨g, 0, none⟩ = some c0 ∧ w.cell? ⟨g, 1, none⟩ = some c1 ∧ w.cell? ⟨g, 2, none⟩ = some c2 ∧ w.cell? ⟨g, 3, none⟩ = some c3 ∧ w.cell? ⟨g, 4, none⟩ = some c4 ∧ w.cell? ⟨g, 5, none⟩ = some c5 ∧ w.cell? ⟨g, 6, none⟩ = some c6 := ⟨row_cell h (j := 0) rfl, row_cell h (j := 1) rfl, row_cell h (j := 2) rfl, row_cell h (j := 3) rfl, row_cell h (j := 4) rfl, row_cell h (j := 5) rfl, row_cell h (j := 6) rfl⟩
end Go.Proofs.YtandoppfbilhbaaGreatDoor

namespace Go.Proofs.YtandoppfbilhbaaGreatDoor
open Go.RowKit

set_option maxRecDepth 1000000 in
set_option maxHeartbeats 16000000 in
theorem exjoin_long1 (s t : ByteArray) (d : Int) (w : World) (HGL : Hid (Glob w)) (h1 : 3000 < s.size) :
 Calls Tryz.prog 8 #[.string s, .string t, .int .i64 d] w fun e w' => e = .returned (.bool true) ∧ Below w.heap.size w w' := by
 have q0 : decide ((3000 : Int) < (s.size : Int)) = true := decide_eq_true (by omega)
 clear h1
 have hb : Below w.heap.size w w := Below.refl _ _
 have H1 := Lib.hid (Fx.nil w)
 have H2 := Lib.hid (H1.out.base (hb))
 clear H1
 clear hb
 go_enter Tryz.func8, Tryz.ntmps8
 go_wp2_with fail
 refine (first11 w (Lib.hid (HGL.out.below (H2.out.is.1)))).mono ?_; rintro e w1 ⟨rfl, hb⟩
 have H3 := Lib.hid (H2.out.below hb)
 clear hb H2
 go_wp2_with fail
 refine (first11 w1 (Lib.hid (HGL.out.below (H3.out.is.1)))).mono ?_; rintro e w2 ⟨rfl, hb⟩
 have H4 := Lib.hid (H3.out.below hb)
 clear hb H3
 go_wp2_with fail
 go_ret
 exact ⟨rfl, H4.out.is.1⟩
set_option maxRecDepth 1000000 in
set_option maxHeartbeats 16000000 in
theorem exjoin_long2 (s t : ByteArray) (d : Int) (w : World) (HGL : Hid (Glob w)) (h1 : ¬ 3000 < s.size) (h2 : 3000 < t.size) :
 Calls Tryz.prog 8 #[.string s, .string t, .int .i64 d] w fun e w' => e = .returned (.bool true) ∧ Below w.heap.size w w' := by
 have q0 : decide ((3000 : Int) < (s.size : Int)) = false := decide_eq_false (by omega)
 have q1 : decide ((3000 : Int) < (t.size : Int)) = true := decide_eq_true (by omega)
 clear h1 h2
 have hb : Below w.heap.size w w := Below.refl _ _
 have H1 := Lib.hid (Fx.nil w)
 have H2 := Lib.hid (H1.out.base (hb))
 clear H1
 clear hb
 go_enter Tryz.func8, Tryz.ntmps8
 go_wp2_with fail
 refine (first11 w (Lib.hid (HGL.out.below (H2.out.is.1)))).mono ?_; rintro e w1 ⟨rfl, hb⟩
 have H3 := Lib.hid (H2.out.below hb)
 clear hb H2
 go_wp2_with fail
 refine (first11 w1 (Lib.hid (HGL.out.below (H3.out.is.1)))).mono ?_; rintro e w2 ⟨rfl, hb⟩
 have H4 := Lib.hid (H3.out.below hb)
 clear hb H3
 go_wp2_with fail
 go_ret
 exact ⟨rfl, H4.out.is.1⟩
set_option maxRecDepth 1000000 in
set_option maxHeartbeats 16000000 in
theorem exjoin_A (s t : ByteArray) (d : Int) (w : World) (HGL : Hid (Glob w)) (hd : -9223372036854775808 ≤ d ∧ d ≤ 9223372036854775807) (hs : s.size ≤ 3000) (ht : t.size ≤ 3000) {c : Nat} (h1 : exrd s.data.toList d = .error c) :
 Calls Tryz.prog 8 #[.string s, .string t, .int .i64 d] w fun e w' => e = .returned (.bool true) ∧ Below w.heap.size w w' := by
 have q0 : decide ((3000 : Int) < (s.size : Int)) = false := decide_eq_false (by omega)
 have q1 : decide ((3000 : Int) < (t.size : Int)) = false := decide_eq_false (by omega)
 have q2 : ¬ 9223372036854775807 < s.size + t.size := by omega
 have HS1 := Lib.hid (fun w' => ex_un s d w' (by omega) hd)
 have HS2 := Lib.hid (fun w' => ex_un t d w' (by omega) hd)
 obtain ⟨ST, hST⟩ : ∃ S, s ++ t = S := ⟨_, rfl⟩
 have hSTL : ST.data.toList = s.data.toList ++ t.data.toList := by rw [← hST]; simp
 have HS3 := Lib.hid (fun w' => ex_un ST d w' (by rw [← hST, ByteArray.size_append]; omega) hd)
 have HST := Lib.hid hST
 rw [h1] at HS1
 clear hd hs ht hST hSTL h1
 have hb : Below w.heap.size w w := Below.refl _ _
 have H1 := Lib.hid (Fx.nil w)
 have H2 := Lib.hid (H1.out.base (hb))
 clear H1
 clear hb
 go_enter Tryz.func8, Tryz.ntmps8
 go_wp2_with fail
 refine (first11 w (Lib.hid (HGL.out.below (H2.out.is.1)))).mono ?_; rintro e w1 ⟨rfl, hb⟩
 have H3 := Lib.hid (H2.out.below hb)
 clear hb H2
 go_wp2_with fail
 refine (HS1.out w1).mono ?_; rintro e w2 ⟨hb, v1, q1, rfl, _, hew⟩
 obtain ⟨T1, y1, rfl⟩ := hew.iface
 clear HS1
 unfold exzero
 have H4 := Lib.hid (H3.out.below hb)
 clear hb H3
 clear hew
 go_wp2_with fail
 obtain ⟨blr1, hbl⟩ : ∃ b, w2.heap.size = b := ⟨_, rfl⟩
 obtain ⟨W3, hW⟩ : ∃ W, w2.alloc (.cells #[.slice none 0 0, .int .u64 0, .int .i64 0, .int .u64 0, .string ⟨#[]⟩, .string ⟨#[]⟩, .string ⟨#[]⟩] 26) = W := ⟨_, rfl⟩
 have hb : Below w2.heap.size w2 W3 := by rw [← hW]; exact below_new _ _
 have hr : W3.heap[blr1]? = some (.cells #[.slice none 0 0, .int .u64 0, .int .i64 0, .int .u64 0, .string ⟨#[]⟩, .string ⟨#[]⟩, .string ⟨#[]⟩] 26 (0, 0)) := by rw [← hW, ← hbl]; exact new_row _ _ _
 rw [hW, hbl]
 clear hW hbl
 have H5 := Lib.hid (H4.out.below hb)
 clear hb H4
 have H6 := Lib.hid (H5.out.row (hr))
 clear H5
 clear hr
 refine (HS2.out W3).mono ?_; intro e w4 hpost
 obtain ⟨hb, lo2, llo2, lc2, jt2, jk2, jn2, Xa2, Xb2, Xu2, v2, rfl⟩ := ex_form hpost
 clear hpost HS2
 have H7 := Lib.hid (H6.out.below hb)
 clear hb H6
 go_wp2_with fail
 obtain ⟨blr2, hbl⟩ : ∃ b, w4.heap.size = b := ⟨_, rfl⟩
 obtain ⟨W5, hW⟩ : ∃ W, w4.alloc (.cells #[.slice lo2 llo2 lc2, .int .u64 jt2, .int .i64 jk2, .int .u64 jn2, .string Xa2, .string Xb2, .string Xu2] 26) = W := ⟨_, rfl⟩
 have hb : Below w4.heap.size w4 W5 := by rw [← hW]; exact below_new _ _
 have hr : W5.heap[blr2]? = some (.cells #[.slice lo2 llo2 lc2, .int .u64 jt2, .int .i64 jk2, .int .u64 jn2, .string Xa2, .string Xb2, .string Xu2] 26 (0, 0)) := by rw [← hW, ← hbl]; exact new_row _ _ _
 rw [hW, hbl]
 clear hW hbl
 have H8 := Lib.hid (H7.out.below hb)
 clear hb H7
 have H9 := Lib.hid (H8.out.row (hr))
 clear H8
 clear hr
 rw [HST.out]
 refine (HS3.out W5).mono ?_; intro e w6 hpost
 obtain ⟨hb, lo3, llo3, lc3, jt3, jk3, jn3, Xa3, Xb3, Xu3, v3, rfl⟩ := ex_form hpost
 clear hpost HS3
 have H10 := Lib.hid (H9.out.below hb)
 clear hb H9
 go_wp2_with fail
 obtain ⟨blr3, hbl⟩ : ∃ b, w6.heap.size = b := ⟨_, rfl⟩
 obtain ⟨W7, hW⟩ : ∃ W, w6.alloc (.cells #[.slice lo3 llo3 lc3, .int .u64 jt3, .int .i64 jk3, .int .u64 jn3, .string Xa3, .string Xb3, .string Xu3] 26) = W := ⟨_, rfl⟩
 have hb : Below w6.heap.size w6 W7 := by rw [← hW]; exact below_new _ _
 have hr : W7.heap[blr3]? = some (.cells #[.slice lo3 llo3 lc3, .int .u64 jt3, .int .i64 jk3, .int .u64 jn3, .string Xa3, .string Xb3, .string Xu3] 26 (0, 0)) := by rw [← hW, ← hbl]; exact new_row _ _ _
 rw [hW, hbl]
 clear hW hbl
 have H11 := Lib.hid (H10.out.below hb)
 clear hb H10
 have H12 := Lib.hid (H11.out.row (hr))
 clear H11
 clear hr
 refine (first11 W7 (Lib.hid (HGL.out.below (H12.out.is.2.2.2.1)))).mono ?_; rintro e w8 ⟨rfl, hb⟩
 have H13 := Lib.hid (H12.out.below hb)
 clear hb H12
 go_wp2_with fail
 go_ret
 exact ⟨rfl, H13.out.is.2.2.2.1⟩
set_option maxRecDepth 1000000 in
set_option maxHeartbeats 16000000 in
theorem exjoin_B (s t : ByteArray) (d : Int) (w : World) (HGL : Hid (Glob w)) (hd : -9223372036854775808 ≤ d ∧ d ≤ 9223372036854775807) (hs : s.size ≤ 3000) (ht : t.size ≤ 3000) {x : Ex} {c : Nat} (h1 : exrd s.data.toList d = .ok x) (h2 : exrd t.data.toList d = .error c) :
 Calls Tryz.prog 8 #[.string s, .string t, .int .i64 d] w fun e w' => e = .returned (.bool true) ∧ Below w.heap.size w w' := by
 have q0 : decide ((3000 : Int) < (s.size : Int)) = false := decide_eq_false (by omega)
 have q1 : decide ((3000 : Int) < (t.size : Int)) = false := decide_eq_false (by omega)
 have q2 : ¬ 9223372036854775807 < s.size + t.size := by omega
 have HS1 := Lib.hid (fun w' => ex_un s d w' (by omega) hd)
 have HS2 := Lib.hid (fun w' => ex_un t d w' (by omega) hd)
 obtain ⟨ST, hST⟩ : ∃ S, s ++ t = S := ⟨_, rfl⟩
 have hSTL : ST.data.toList = s.data.toList ++ t.data.toList := by rw [← hST]; simp
 have HS3 := Lib.hid (fun w' => ex_un ST d w' (by rw [← hST, ByteArray.size_append]; omega) hd)
 have HST := Lib.hid hST
 rw [h1] at HS1
 rw [h2] at HS2
 obtain ⟨⟨t1, ⟨⟨⟨k1, n1⟩, ⟨a1, b1⟩⟩, l1⟩⟩, u1⟩ := x
 clear hd hs ht hST hSTL h1 h2
 have hb : Below w.heap.size w w := Below.refl _ _
 have H1 := Lib.hid (Fx.nil w)
 have H2 := Lib.hid (H1.out.base (hb))
 clear H1
 clear hb
 go_enter Tryz.func8, Tryz.ntmps8
 go_wp2_with fail
 refine (first11 w (Lib.hid (HGL.out.below (H2.out.is.1)))).mono ?_; rintro e w1 ⟨rfl, hb⟩
 have H3 := Lib.hid (H2.out.below hb)
 clear hb H2
 go_wp2_with fail
 refine (HS1.out w1).mono ?_; rintro e w2 ⟨hb, cs, rfl, lo1, lc1, rfl, _⟩
 clear HS1
 obtain ⟨Xa1, ea1⟩ : ∃ X : ByteArray, (⟨a1.toArray⟩ : ByteArray) = X := ⟨_, rfl⟩
 have HNa1 := Lib.hid ea1
 clear ea1
 obtain ⟨Xb1, eb1⟩ : ∃ X : ByteArray, (⟨b1.toArray⟩ : ByteArray) = X := ⟨_, rfl⟩
 have HNb1 := Lib.hid eb1
 clear eb1
 obtain ⟨Xu1, eu1⟩ : ∃ X : ByteArray, (⟨u1.toArray⟩ : ByteArray) = X := ⟨_, rfl⟩
 have HNu1 := Lib.hid eu1
 clear eu1
 dsimp only [strV]
 rw [HNa1.out, HNb1.out, HNu1.out]
 have H4 := Lib.hid (H3.out.below hb)
 clear hb H3
 go_wp2_with fail
 obtain ⟨blr1, hbl⟩ : ∃ b, w2.heap.size = b := ⟨_, rfl⟩
 obtain ⟨W3, hW⟩ : ∃ W, w2.alloc (.cells #[.slice lo1 l1.length lc1, .int .u64 (t1 : Int), .int .i64 k1, .int .u64 (n1 : Int), .string Xa1, .string Xb1, .string Xu1] 26) = W := ⟨_, rfl⟩
 have hb : Below w2.heap.size w2 W3 := by rw [← hW]; exact below_new _ _
 have hr : W3.heap[blr1]? = some (.cells #[.slice lo1 l1.length lc1, .int .u64 (t1 : Int), .int .i64 k1, .int .u64 (n1 : Int), .string Xa1, .string Xb1, .string Xu1] 26 (0, 0)) := by rw [← hW, ← hbl]; exact new_row _ _ _
 rw [hW, hbl]
 clear hW hbl
 have H5 := Lib.hid (H4.out.below hb)
 clear hb H4
 have H6 := Lib.hid (H5.out.row (hr))
 clear H5
 clear hr
 refine (HS2.out W3).mono ?_; rintro e w4 ⟨hb, v2, q2, rfl, _, hew⟩
 obtain ⟨T2, y2, rfl⟩ := hew.iface
 clear HS2
 unfold exzero
 have H7 := Lib.hid (H6.out.below hb)
 clear hb H6
 clear hew
 go_wp2_with fail
 obtain ⟨blr2, hbl⟩ : ∃ b, w4.heap.size = b := ⟨_, rfl⟩
 obtain ⟨W5, hW⟩ : ∃ W, w4.alloc (.cells #[.slice none 0 0, .int .u64 0, .int .i64 0, .int .u64 0, .string ⟨#[]⟩, .string ⟨#[]⟩, .string ⟨#[]⟩] 26) = W := ⟨_, rfl⟩
 have hb : Below w4.heap.size w4 W5 := by rw [← hW]; exact below_new _ _
 have hr : W5.heap[blr2]? = some (.cells #[.slice none 0 0, .int .u64 0, .int .i64 0, .int .u64 0, .string ⟨#[]⟩, .string ⟨#[]⟩, .string ⟨#[]⟩] 26 (0, 0)) := by rw [← hW, ← hbl]; exact new_row _ _ _
 rw [hW, hbl]
 clear hW hbl
 have H8 := Lib.hid (H7.out.below hb)
 clear hb H7
 have H9 := Lib.hid (H8.out.row (hr))
 clear H8
 clear hr
 rw [HST.out]
 refine (HS3.out W5).mono ?_; intro e w6 hpost
 obtain ⟨hb, lo3, llo3, lc3, jt3, jk3, jn3, Xa3, Xb3, Xu3, v3, rfl⟩ := ex_form hpost
 clear hpost HS3
 have H10 := Lib.hid (H9.out.below hb)
 clear hb H9
 go_wp2_with fail
 obtain ⟨blr3, hbl⟩ : ∃ b, w6.heap.size = b := ⟨_, rfl⟩
 obtain ⟨W7, hW⟩ : ∃ W, w6.alloc (.cells #[.slice lo3 llo3 lc3, .int .u64 jt3, .int .i64 jk3, .int .u64 jn3, .string Xa3, .string Xb3, .string Xu3] 26) = W := ⟨_, rfl⟩
 have hb : Below w6.heap.size w6 W7 := by rw [← hW]; exact below_new _ _
 have hr : W7.heap[blr3]? = some (.cells #[.slice lo3 llo3 lc3, .int .u64 jt3, .int .i64 jk3, .int .u64 jn3, .string Xa3, .string Xb3, .string Xu3] 26 (0, 0)) := by rw [← hW, ← hbl]; exact new_row _ _ _
 rw [hW, hbl]
 clear hW hbl
 have H11 := Lib.hid (H10.out.below hb)
 clear hb H10
 have H12 := Lib.hid (H11.out.row (hr))
 clear H11
 clear hr
 refine (first11 W7 (Lib.hid (HGL.out.below (H12.out.is.2.2.2.1)))).mono ?_; rintro e w8 ⟨rfl, hb⟩
 have H13 := Lib.hid (H12.out.below hb)
 clear hb H12
 go_wp2_with fail
 go_ret
 exact ⟨rfl, H13.out.is.2.2.2.1⟩
set_option maxRecDepth 1000000 in
set_option maxHeartbeats 16000000 in
theorem exjoin_C (s t : ByteArray) (d : Int) (w : World) (HGL : Hid (Glob w)) (hd : -9223372036854775808 ≤ d ∧ d ≤ 9223372036854775807) (hs : s.size ≤ 3000) (ht : t.size ≤ 3000) {x y : Ex} (h1 : exrd s.data.toList d = .ok x) (h2 : exrd t.data.toList d = .ok y) :
 Calls Tryz.prog 8 #[.string s, .string t, .int .i64 d] w fun e w' => e = .returned (.bool true) ∧ Below w.heap.size w w' := by
 have q0 : decide ((3000 : Int) < (s.size : Int)) = false := decide_eq_false (by omega)
 have q1 : decide ((3000 : Int) < (t.size : Int)) = false := decide_eq_false (by omega)
 have q2 : ¬ 9223372036854775807 < s.size + t.size := by omega
 have HS1 := Lib.hid (fun w' => ex_un s d w' (by omega) hd)
 have HS2 := Lib.hid (fun w' => ex_un t d w' (by omega) hd)
 obtain ⟨ST, hST⟩ : ∃ S, s ++ t = S := ⟨_, rfl⟩
 have hSTL : ST.data.toList = s.data.toList ++ t.data.toList := by rw [← hST]; simp
 have HS3 := Lib.hid (fun w' => ex_un ST d w' (by rw [← hST, ByteArray.size_append]; omega) hd)
 have HST := Lib.hid hST
 rw [h1] at HS1
 rw [h2] at HS2
 obtain ⟨⟨t1, ⟨⟨⟨k1, n1⟩, ⟨a1, b1⟩⟩, l1⟩⟩, u1⟩ := x
 obtain ⟨⟨t2, ⟨⟨⟨k2, n2⟩, ⟨a2, b2⟩⟩, l2⟩⟩, u2⟩ := y
 obtain ⟨t3, k3, n3, a3, b3, l3, h3, hkn, hlen_l⟩ := ex_join h1 h2
 rw [hSTL, h3] at HS3
 have hu1 := mread_unk h1
 have hu2 := mread_unk h2
 obtain ⟨_, _, _, hwa⟩ := (ex_twice (by simp; omega) h1).2
 obtain ⟨_, _, _, hwb⟩ := (ex_twice (by simp; omega) h2).2
 have hka0 := ksw_len l1
 have hkb0 := ksw_len l2
 have q3l : IntKind.i64.wrap ((l1.length : Int) + (l2.length : Int)) = (l1.length : Int) + (l2.length : Int) := i64_wrap_id (by omega) (by omega)
 have q4l : ((l3.length : Int) == (l1.length : Int) + (l2.length : Int)) = true := by rw [beq_iff_eq, hlen_l]; omega
 have hsz1 : s.data.toList.length = s.size := by simp
 have hsz2 : t.data.toList.length = t.size := by simp
 have HLU := Lib.hid (And.intro (show u1.length ≤ 3000 by omega) (show u2.length ≤ 3000 by omega))
 have HKN := Lib.hid hkn
 clear hu1 hu2 hwa hwb hka0 hkb0 hlen_l hsz1 hsz2 h3 hkn
 clear hd hs ht hST hSTL h1 h2
 have hb : Below w.heap.size w w := Below.refl _ _
 have H1 := Lib.hid (Fx.nil w)
 have H2 := Lib.hid (H1.out.base (hb))
 clear H1
 clear hb
 go_enter Tryz.func8, Tryz.ntmps8
 go_wp2_with fail
 refine (first11 w (Lib.hid (HGL.out.below (H2.out.is.1)))).mono ?_; rintro e w1 ⟨rfl, hb⟩
 have H3 := Lib.hid (H2.out.below hb)
 clear hb H2
 go_wp2_with fail
 refine (HS1.out w1).mono ?_; rintro e w2 ⟨hb, cs, rfl, lo1, lc1, rfl, _⟩
 clear HS1
 obtain ⟨Xa1, ea1⟩ : ∃ X : ByteArray, (⟨a1.toArray⟩ : ByteArray) = X := ⟨_, rfl⟩
 have HNa1 := Lib.hid ea1
 clear ea1
 obtain ⟨Xb1, eb1⟩ : ∃ X : ByteArray, (⟨b1.toArray⟩ : ByteArray) = X := ⟨_, rfl⟩
 have HNb1 := Lib.hid eb1
 clear eb1
 obtain ⟨Xu1, eu1⟩ : ∃ X : ByteArray, (⟨u1.toArray⟩ : ByteArray) = X := ⟨_, rfl⟩
 have HNu1 := Lib.hid eu1
 clear eu1
 dsimp only [strV]
 rw [HNa1.out, HNb1.out, HNu1.out]
 have H4 := Lib.hid (H3.out.below hb)
 clear hb H3
 go_wp2_with fail
 obtain ⟨blr1, hbl⟩ : ∃ b, w2.heap.size = b := ⟨_, rfl⟩
 obtain ⟨W3, hW⟩ : ∃ W, w2.alloc (.cells #[.slice lo1 l1.length lc1, .int .u64 (t1 : Int), .int .i64 k1, .int .u64 (n1 : Int), .string Xa1, .string Xb1, .string Xu1] 26) = W := ⟨_, rfl⟩
 have hb : Below w2.heap.size w2 W3 := by rw [← hW]; exact below_new _ _
 have hr : W3.heap[blr1]? = some (.cells #[.slice lo1 l1.length lc1, .int .u64 (t1 : Int), .int .i64 k1, .int .u64 (n1 : Int), .string Xa1, .string Xb1, .string Xu1] 26 (0, 0)) := by rw [← hW, ← hbl]; exact new_row _ _ _
 rw [hW, hbl]
 clear hW hbl
 have H5 := Lib.hid (H4.out.below hb)
 clear hb H4
 have H6 := Lib.hid (H5.out.row (hr))
 clear H5
 clear hr
 refine (HS2.out W3).mono ?_; rintro e w4 ⟨hb, cs, rfl, lo2, lc2, rfl, _⟩
 clear HS2
 obtain ⟨Xa2, ea2⟩ : ∃ X : ByteArray, (⟨a2.toArray⟩ : ByteArray) = X := ⟨_, rfl⟩
 have HNa2 := Lib.hid ea2
 clear ea2
 obtain ⟨Xb2, eb2⟩ : ∃ X : ByteArray, (⟨b2.toArray⟩ : ByteArray) = X := ⟨_, rfl⟩
 have HNb2 := Lib.hid eb2
 clear eb2
 obtain ⟨Xu2, eu2⟩ : ∃ X : ByteArray, (⟨u2.toArray⟩ : ByteArray) = X := ⟨_, rfl⟩
 have HNu2 := Lib.hid eu2
 clear eu2
 dsimp only [strV]
 rw [HNa2.out, HNb2.out, HNu2.out]
 have H7 := Lib.hid (H6.out.below hb)
 clear hb H6
 go_wp2_with fail
 obtain ⟨blr2, hbl⟩ : ∃ b, w4.heap.size = b := ⟨_, rfl⟩
 obtain ⟨W5, hW⟩ : ∃ W, w4.alloc (.cells #[.slice lo2 l2.length lc2, .int .u64 (t2 : Int), .int .i64 k2, .int .u64 (n2 : Int), .string Xa2, .string Xb2, .string Xu2] 26) = W := ⟨_, rfl⟩
 have hb : Below w4.heap.size w4 W5 := by rw [← hW]; exact below_new _ _
 have hr : W5.heap[blr2]? = some (.cells #[.slice lo2 l2.length lc2, .int .u64 (t2 : Int), .int .i64 k2, .int .u64 (n2 : Int), .string Xa2, .string Xb2, .string Xu2] 26 (0, 0)) := by rw [← hW, ← hbl]; exact new_row _ _ _
 rw [hW, hbl]
 clear hW hbl
 have H8 := Lib.hid (H7.out.below hb)
 clear hb H7
 have H9 := Lib.hid (H8.out.row (hr))
 clear H8
 clear hr
 rw [HST.out]
 refine (HS3.out W5).mono ?_; rintro e w6 ⟨hb, cs, rfl, lo3, lc3, rfl, _⟩
 clear HS3
 obtain ⟨Xa3, ea3⟩ : ∃ X : ByteArray, (⟨a3.toArray⟩ : ByteArray) = X := ⟨_, rfl⟩
 have HNa3 := Lib.hid ea3
 clear ea3
 obtain ⟨Xb3, eb3⟩ : ∃ X : ByteArray, (⟨b3.toArray⟩ : ByteArray) = X := ⟨_, rfl⟩
 have HNb3 := Lib.hid eb3
 clear eb3
 obtain ⟨Xu3, eu3⟩ : ∃ X : ByteArray, (⟨(u1 ++ u2).toArray⟩ : ByteArray) = X := ⟨_, rfl⟩
 have HNu3 := Lib.hid eu3
 clear eu3
 dsimp only [strV]
 rw [HNa3.out, HNb3.out, HNu3.out]
 have H10 := Lib.hid (H9.out.below hb)
 clear hb H9
 go_wp2_with fail
 obtain ⟨blr3, hbl⟩ : ∃ b, w6.heap.size = b := ⟨_, rfl⟩
 obtain ⟨W7, hW⟩ : ∃ W, w6.alloc (.cells #[.slice lo3 l3.length lc3, .int .u64 (t3 : Int), .int .i64 k3, .int .u64 (n3 : Int), .string Xa3, .string Xb3, .string Xu3] 26) = W := ⟨_, rfl⟩
 have hb : Below w6.heap.size w6 W7 := by rw [← hW]; exact below_new _ _
 have hr : W7.heap[blr3]? = some (.cells #[.slice lo3 l3.length lc3, .int .u64 (t3 : Int), .int .i64 k3, .int .u64 (n3 : Int), .string Xa3, .string Xb3, .string Xu3] 26 (0, 0)) := by rw [← hW, ← hbl]; exact new_row _ _ _
 rw [hW, hbl]
 clear hW hbl
 have H11 := Lib.hid (H10.out.below hb)
 clear hb H10
 have H12 := Lib.hid (H11.out.row (hr))
 clear H11
 clear hr
 refine (first11 W7 (Lib.hid (HGL.out.below (H12.out.is.2.2.2.1)))).mono ?_; rintro e w8 ⟨rfl, hb⟩
 have H13 := Lib.hid (H12.out.below hb)
 clear hb H12
 obtain rfl : Xu1 ++ Xu2 = Xu3 := by rw [← HNu1.out, ← HNu2.out, ← HNu3.out]; exact ByteArray.ext (Array.ext' (by simp))
 have q5 : ¬ 9223372036854775807 < Xu1.size + Xu2.size := by
  have e1 : Xu1.size = u1.length := by rw [← HNu1.out]; simp [ByteArray.size]
  have e2 : Xu2.size = u2.length := by rw [← HNu2.out]; simp [ByteArray.size]
  have := HLU.out
  omega
 obtain ⟨xa0, xa1, xa2, xa3, xa4, xa5, xa6⟩ := row7 (H13.out.is.2.2.1)
 obtain ⟨xb0, xb1, xb2, xb3, xb4, xb5, xb6⟩ := row7 (H13.out.is.2.1)
 obtain ⟨xc0, xc1, xc2, xc3, xc4, xc5, xc6⟩ := row7 (H13.out.is.1)
 rcases HKN.out with ⟨e1, rfl, rfl⟩ | ⟨e1, rfl, rfl⟩
 case inl =>
  have dk1 : (k2 == 0) = true := by rw [beq_iff_eq]; exact e1
  clear e1
  go_wp2_with fail
  go_ret
  exact ⟨rfl, H13.out.is.2.2.2.1⟩
 case inr =>
  have dk1 : (k3 == 0) = false := by rw [beq_eq_false_iff_ne]; omega
  have dk2 : decide (k3 > 0) = true := decide_eq_true e1
  clear e1
  go_wp2_with fail
  go_ret
  exact ⟨rfl, H13.out.is.2.2.2.1⟩
set_option maxRecDepth 1000000 in
set_option maxHeartbeats 16000000 in
theorem exjoin_any (s t : ByteArray) (d : Int) (w : World) (HGL : Hid (Glob w)) (hd : -9223372036854775808 ≤ d ∧ d ≤ 9223372036854775807) :
 Calls Tryz.prog 8 #[.string s, .string t, .int .i64 d] w fun e w' => e = .returned (.bool true) ∧ Below w.heap.size w w' := by
 by_cases hs : 3000 < s.size
 · exact exjoin_long1 s t d w HGL hs
 by_cases ht : 3000 < t.size
 · exact exjoin_long2 s t d w HGL hs ht
 cases h1 : exrd s.data.toList d with
 | error c => exact exjoin_A s t d w HGL hd (by omega) (by omega) h1
 | ok x => cases h2 : exrd t.data.toList d with
  | error c => exact exjoin_B s t d w HGL hd (by omega) (by omega) h1 h2
  | ok y => exact exjoin_C s t d w HGL hd (by omega) (by omega) h1 h2
end Go.Proofs.YtandoppfbilhbaaGreatDoor

namespace Go.Proofs.YtandoppfbilhbaaGreatDoor.exemJoins
open Go.ChangeShapes Go.WideShapes Go.ChangeAt Go.RowKit
open Go.ChangeMaps (open_string shut_string)

theorem reads (os : Os) {H : Type} (enc : TypeId × Value → H) : ∃ places, DataW.whole enc Tryz.prog ((laidWorld os).forCall (fun _ _ => 0) ⟨#[], #[.string .empty, .string .empty, .int .i64 0], []⟩).memory Tryz.f8.params.toList Rows.exemJoinsSpec.vars false (#[.string .empty, .string .empty, .int .i64 0] : Array Value).toList 8 = some ([.lit (.string []), .lit (.string []), .lit (.int .i64 0)], [], places) :=
  ⟨[], by kernel_rfl⟩
set_option maxRecDepth 100000 in
theorem lifted (os : Os) (started : os.Started) (H : Type) (enc : TypeId × Value → H) (F : Stop.Interp) :
    ReturnsInHanded {} Tryz.checked os 8 .any ((OpenSpec.ofChange Rows.exemJoinsSpec).preRow enc Tryz.prog Tryz.f8 Rows.exemJoinsRow.domain false Rows.exemJoinsRow.laid) (((OpenSpec.ofChange Rows.exemJoinsSpec).at F).post enc Tryz.prog Tryz.f8 false true false false) := by
  obtain ⟨places, hx⟩ := reads os enc
  refine returnsInHanded_of_row (C := Tryz.checked) (s := OpenSpec.ofChange Rows.exemJoinsSpec) Tryz.own started (by kernel_rfl) Tryz.func8
    (witness_row_at (enc := enc) (C := Tryz.checked) false (laidWorld os) #[.string .empty, .string .empty, .int .i64 0] rfl (by kernel_rfl) (by kernel_rfl) (by kernel_rfl)
      (OpenSpec.preRow_of_cond 8 hx (by kernel_rfl) (fun k hk => by cases hk) (by kernel_rfl) (laidWorld_met os _))) ?_
  intro W base args ds gs before hval0 hW _ _ _ hL _ _
  have hg : Glob W := glob_of_laid hL
  clear hL
  have hval : ∀ (j : Nat) t v, Tryz.f8.params[j]? = some t → args[j]? = some v → Value.okWide Tryz.prog W .any base t v := hval0
  have hW' := hW
  obtain ⟨p, q, hA0, hV, rfl, hfz, hnd⟩ := hW
  have hA : DataW.TrodAll enc Tryz.prog W 0 (fun _ => true) true Tryz.f8.params.toList args.toList ds p := hA0
  rw [Tryz.params8] at hA hval
  obtain ⟨v0, vs0, d0, ds0, p0, q0, hargs, rfl, rfl, h0, r0⟩ := trodAll_cons hA
  obtain ⟨v1, vs1, d1, ds1, p1, q1, rfl, rfl, rfl, h1, r1⟩ := trodAll_cons r0
  obtain ⟨v2, vs2, d2, ds2, p2, q2, rfl, rfl, rfl, h2, r2⟩ := trodAll_cons r1
  obtain ⟨rfl, rfl, rfl⟩ := trodAll_nil r2
  obtain rfl : args = #[v0, v1, v2] := by cases args; simp_all
  have hpl : ∀ x ∈ p0 ++ (p1 ++ (p2 ++ [])), x.block < W.heap.size := fun x hx => by simpa using hW'.lt x (List.mem_append_left _ hx)
  obtain ⟨a0, rfl, rfl, rfl, z0⟩ := open_string Tryz.underlying9 (hval 0 9 v0 rfl rfl) h0
  obtain ⟨a1, rfl, rfl, rfl, z1⟩ := open_string Tryz.underlying9 (hval 1 9 v1 rfl rfl) h1
  obtain ⟨a2, rfl, rfl, rfl, w2⟩ := open_int Tryz.underlying3 (hval 2 3 v2 rfl rfl) h2
  have b2 : -9223372036854775808 ≤ a2 ∧ a2 ≤ 9223372036854775807 := by simp [Lit.wf, IntKind.min, IntKind.max, IntKind.signed, IntKind.bits] at w2; omega
  refine Calls.mono ?_ (fun e W' (h : e = .returned (.bool true) ∧ Below W.heap.size W W') => ⟨_, h.1, law_post (by kernel_rfl) (by kernel_rfl) rfl Tryz.underlying4 rfl hW' (fun ds hd => by match ds, hd with | [_, _, _], _ => rfl) h.2⟩)
  exact exjoin_any a0 a1 a2 W (Lib.hid hg) b2

theorem over : Rows.ExemJoinsSaid :=
  OpenClaim.holds_of_cond 8 Tryz.f8 rfl rfl rfl rfl rfl rfl rfl ⟨rfl, rfl, rfl, rfl, rfl⟩ rfl rfl rfl rfl rfl (by kernel_rfl) Tryz.func8 (by kernel_rfl)
    (of_decide_eq_true (by kernel_rfl)) (by unfold Func.isWrapper; first | (rw [if_pos (by decide +kernel)]; kernel_rfl) | (rw [if_neg (by decide +kernel)]; exact ⟨rfl, rfl⟩))
    (fun os started H enc _ F => by rw [OpenClaim.pre_eq_preRow]; exact lifted os started H enc F)
theorem looks (f : FuncId) (fn : Func) (hf : Tryz.pinned.checked.prog.funcNamed "hygrometer/hyglaw11.ExemJoins" = some f) (hfn : Tryz.pinned.checked.prog.funcs[f]? = some fn) :
    true = Tryz.pinned.checked.prog.looks [] ∧ ∀ (j : Nat) t, fn.params[j]? = some t → Tryz.pinned.checked.prog.wantsStandIn t = false := by
  obtain rfl : f = 8 := Option.some.inj ((show Tryz.prog.funcNamed "hygrometer/hyglaw11.ExemJoins" = some 8 by kernel_rfl).symm.trans hf) |>.symm
  obtain rfl : fn = Tryz.f8 := (Option.some.inj (Tryz.func8.symm.trans hfn)).symm
  refine ⟨by kernel_rfl, fun j t ht => ?_⟩
  have hall : Tryz.f8.params.toList.all (fun t => Tryz.prog.wantsStandIn t == false) = true := by kernel_rfl
  have := List.all_eq_true.1 hall t (by simpa using Array.mem_of_getElem? ht)
  exact eq_of_beq this
theorem proved : Rows.ExemJoinsCardSaid :=
  Claim7.holds_tied_plain_at .later [] _ _ _ _ over (fun _ h => by cases h) (by kernel_rfl) (fun _ h => by cases h) exemJoins_row_tie rfl ⟨rfl, rfl⟩ (by kernel_rfl) rfl looks (by kernel_rfl)
end Go.Proofs.YtandoppfbilhbaaGreatDoor.exemJoins

