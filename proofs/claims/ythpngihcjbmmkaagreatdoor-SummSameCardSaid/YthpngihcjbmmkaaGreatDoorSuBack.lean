/-
  Points of summaries: by their fields; in memory; there and back; joined.
-/
import Derived.Test.YthpngihcjbmmkaaGreatDoorQuBack
namespace Go.Proofs.YthpngihcjbmmkaaGreatDoor
open Go.RowKit

/-- what a point of a summary has -/
def suF : Fld := (numF 2).and ((numF 3).and ((numF 4).and ((numF 5).and ((listF 6 quSb).and ((listF 7 kvS).and (var32F 8))))))
theorem suF_ok : suF.Ok := (numF_ok (by omega) (by omega)).and ((numF_ok (by omega) (by omega)).and ((numF_ok (by omega) (by omega)).and ((numF_ok (by omega) (by omega)).and ((listF_ok quSb_ok (by omega) (by omega)).and ((listF_ok kvS_ok (by omega) (by omega)).and (var32F_ok (by omega) (by omega)) (apart_of fun r h => by simp only [listF, listTk, decide_eq_true_eq] at h; simp only [var32F, decide_eq_false_iff_not]; omega)) (apart_of fun r h => by simp only [listF, listTk, decide_eq_true_eq] at h; simp only [Fld.and, var32F, listF, listTk, Bool.or_eq_false_iff, decide_eq_false_iff_not]; omega)) (apart_of fun r h => by simp only [numF, decide_eq_true_eq] at h; simp only [Fld.and, var32F, listF, listTk, Bool.or_eq_false_iff, decide_eq_false_iff_not]; omega)) (apart_of fun r h => by simp only [numF, decide_eq_true_eq] at h; simp only [Fld.and, numF, var32F, listF, listTk, Bool.or_eq_false_iff, decide_eq_false_iff_not]; omega)) (apart_of fun r h => by simp only [numF, decide_eq_true_eq] at h; simp only [Fld.and, numF, var32F, listF, listTk, Bool.or_eq_false_iff, decide_eq_false_iff_not]; omega)) (apart_of fun r h => by simp only [numF, decide_eq_true_eq] at h; simp only [Fld.and, numF, var32F, listF, listTk, Bool.or_eq_false_iff, decide_eq_false_iff_not]; omega)
theorem suF_tk (r : Rec) : suF.tk r = decide ((r.num = 2 ∧ r.ty = 1) ∨ ((r.num = 3 ∧ r.ty = 1) ∨ ((r.num = 4 ∧ r.ty = 1) ∨ ((r.num = 5 ∧ r.ty = 1) ∨ ((r.num = 6 ∧ r.ty = 2) ∨ ((r.num = 7 ∧ r.ty = 2) ∨ (r.num = 8 ∧ r.ty = 0))))))) := by
  rw [Bool.eq_iff_iff]
  simp only [suF, Fld.and, numF, var32F, listF, listTk, Bool.or_eq_true, decide_eq_true_eq]
theorem suF_2 {r : Rec} (h : r.num = 2 ∧ r.ty = 1) (d : Int) (a : Nat) (t : Nat) (k : Nat) (n : Nat) (qs : List Qu) (l : List KV) (f : Nat) : suF.step d (a, (t, (k, (n, (qs, (l, f)))))) r = .ok (r.n, (t, (k, (n, (qs, (l, f)))))) :=
  (Fld.and_1ok (by simp only [numF, decide_eq_true_eq]; omega) rfl)
theorem suF_3 {r : Rec} (h : r.num = 3 ∧ r.ty = 1) (d : Int) (a : Nat) (t : Nat) (k : Nat) (n : Nat) (qs : List Qu) (l : List KV) (f : Nat) : suF.step d (a, (t, (k, (n, (qs, (l, f)))))) r = .ok (a, (r.n, (k, (n, (qs, (l, f)))))) :=
  (Fld.and_2ok (by simp only [numF, decide_eq_false_iff_not]; omega) (Fld.and_1ok (by simp only [numF, decide_eq_true_eq]; omega) rfl))
theorem suF_4 {r : Rec} (h : r.num = 4 ∧ r.ty = 1) (d : Int) (a : Nat) (t : Nat) (k : Nat) (n : Nat) (qs : List Qu) (l : List KV) (f : Nat) : suF.step d (a, (t, (k, (n, (qs, (l, f)))))) r = .ok (a, (t, (r.n, (n, (qs, (l, f)))))) :=
  (Fld.and_2ok (by simp only [numF, decide_eq_false_iff_not]; omega) (Fld.and_2ok (by simp only [numF, decide_eq_false_iff_not]; omega) (Fld.and_1ok (by simp only [numF, decide_eq_true_eq]; omega) rfl)))
theorem suF_5 {r : Rec} (h : r.num = 5 ∧ r.ty = 1) (d : Int) (a : Nat) (t : Nat) (k : Nat) (n : Nat) (qs : List Qu) (l : List KV) (f : Nat) : suF.step d (a, (t, (k, (n, (qs, (l, f)))))) r = .ok (a, (t, (k, (r.n, (qs, (l, f)))))) :=
  (Fld.and_2ok (by simp only [numF, decide_eq_false_iff_not]; omega) (Fld.and_2ok (by simp only [numF, decide_eq_false_iff_not]; omega) (Fld.and_2ok (by simp only [numF, decide_eq_false_iff_not]; omega) (Fld.and_1ok (by simp only [numF, decide_eq_true_eq]; omega) rfl))))
theorem suF_6 {r : Rec} (h : r.num = 6 ∧ r.ty = 2) (d : Int) (a : Nat) (t : Nat) (k : Nat) (n : Nat) (qs : List Qu) (l : List KV) (f : Nat) : suF.step d (a, (t, (k, (n, (qs, (l, f)))))) r = match qurd r.s (d - 1) with
    | .error c => .error c
    | .ok x => .ok (a, (t, (k, (n, (qs ++ [x], (l, f)))))) := by
  cases e : qurd r.s (d - 1) with
  | error c => exact (Fld.and_2no (by simp only [numF, decide_eq_false_iff_not]; omega) (Fld.and_2no (by simp only [numF, decide_eq_false_iff_not]; omega) (Fld.and_2no (by simp only [numF, decide_eq_false_iff_not]; omega) (Fld.and_2no (by simp only [numF, decide_eq_false_iff_not]; omega) (Fld.and_1no (by simp only [listF, listTk, decide_eq_true_eq]; omega) (lst_no (S := quSb) e))))))
  | ok x => exact (Fld.and_2ok (by simp only [numF, decide_eq_false_iff_not]; omega) (Fld.and_2ok (by simp only [numF, decide_eq_false_iff_not]; omega) (Fld.and_2ok (by simp only [numF, decide_eq_false_iff_not]; omega) (Fld.and_2ok (by simp only [numF, decide_eq_false_iff_not]; omega) (Fld.and_1ok (by simp only [listF, listTk, decide_eq_true_eq]; omega) (lst_ok (S := quSb) e))))))
theorem suF_7 {r : Rec} (h : r.num = 7 ∧ r.ty = 2) (d : Int) (a : Nat) (t : Nat) (k : Nat) (n : Nat) (qs : List Qu) (l : List KV) (f : Nat) : suF.step d (a, (t, (k, (n, (qs, (l, f)))))) r = match kread 1000001 r.s (d - 1) with
    | .error c => .error c
    | .ok x => .ok (a, (t, (k, (n, (qs, (l ++ [x], f)))))) := by
  cases e : kread 1000001 r.s (d - 1) with
  | error c => exact (Fld.and_2no (by simp only [numF, decide_eq_false_iff_not]; omega) (Fld.and_2no (by simp only [numF, decide_eq_false_iff_not]; omega) (Fld.and_2no (by simp only [numF, decide_eq_false_iff_not]; omega) (Fld.and_2no (by simp only [numF, decide_eq_false_iff_not]; omega) (Fld.and_2no (by simp only [listF, listTk, decide_eq_false_iff_not]; omega) (Fld.and_1no (by simp only [listF, listTk, decide_eq_true_eq]; omega) (kv_no e)))))))
  | ok x => exact (Fld.and_2ok (by simp only [numF, decide_eq_false_iff_not]; omega) (Fld.and_2ok (by simp only [numF, decide_eq_false_iff_not]; omega) (Fld.and_2ok (by simp only [numF, decide_eq_false_iff_not]; omega) (Fld.and_2ok (by simp only [numF, decide_eq_false_iff_not]; omega) (Fld.and_2ok (by simp only [listF, listTk, decide_eq_false_iff_not]; omega) (Fld.and_1ok (by simp only [listF, listTk, decide_eq_true_eq]; omega) (kv_ok e)))))))
theorem suF_8 {r : Rec} (h : r.num = 8 ∧ r.ty = 0) (d : Int) (a : Nat) (t : Nat) (k : Nat) (n : Nat) (qs : List Qu) (l : List KV) (f : Nat) : suF.step d (a, (t, (k, (n, (qs, (l, f)))))) r = .ok (a, (t, (k, (n, (qs, (l, r.n % 4294967296)))))) :=
  (Fld.and_2ok (by simp only [numF, decide_eq_false_iff_not]; omega) (Fld.and_2ok (by simp only [numF, decide_eq_false_iff_not]; omega) (Fld.and_2ok (by simp only [numF, decide_eq_false_iff_not]; omega) (Fld.and_2ok (by simp only [numF, decide_eq_false_iff_not]; omega) (Fld.and_2ok (by simp only [listF, listTk, decide_eq_false_iff_not]; omega) (Fld.and_2ok (by simp only [listF, listTk, decide_eq_false_iff_not]; omega) rfl))))))
abbrev Su : Type := (Nat × Nat × Nat × Nat × List Qu × List KV × Nat) × List UInt8
/-- in memory, with what is unknown behind it -/
def SuRel (w : World) (P : Nat → Prop) : Su → List Value → Prop
  | ((a, (t, (k, (n, (qs, (l, f)))))), u), cs => ∃ (lo : Option Addr) (lc : Nat) (qo : Option Addr) (qc : Nat), cs = [.slice lo l.length lc, .int .u64 (a : Int), .int .u64 (t : Int), .int .u64 (k : Int), .int .u64 (n : Int), .slice qo qs.length qc, .int .u32 (f : Int), strV u] ∧ KRels w P l lo 0 ∧ CRels quCel w P qs qo
def suCel : Cel Su where
  R := SuRel
  size := 8
  len := by rintro w P ⟨⟨a, ⟨t, ⟨k, ⟨n, ⟨qs, ⟨l, f⟩⟩⟩⟩⟩⟩, u⟩ cs ⟨lo, lc, qo, qc, rfl, _, _⟩; rfl
  upd := by rintro w w' S P Q ⟨⟨a, ⟨t, ⟨k, ⟨n, ⟨qs, ⟨l, f⟩⟩⟩⟩⟩⟩, u⟩ cs hu hs hq ⟨lo, lc, qo, qc, h, h0, h1⟩; exact ⟨lo, lc, qo, qc, h, KRels.upd hu hs hq _ _ _ h0, CRels.upd hu hs hq h1⟩
  lt := by rintro w P ⟨⟨a, ⟨t, ⟨k, ⟨n, ⟨qs, ⟨l, f⟩⟩⟩⟩⟩⟩, u⟩ cs ⟨lo, lc, qo, qc, h, h0, h1⟩; exact ⟨lo, lc, qo, qc, h, KRels.lt _ _ _ h0, CRels.lt h1⟩
def suzero : Array Value := #[.slice none 0 0, .int .u64 0, .int .u64 0, .int .u64 0, .int .u64 0, .slice none 0 0, .int .u32 0, .string ⟨#[]⟩]
def surd (l : List UInt8) (d : Int) : Except Nat Su := mread (σ := Nat × Nat × Nat × Nat × List Qu × List KV × Nat) suF.tk (suF.step d) suF.z l d
theorem su_unk {w : World} {P : Nat → Prop} {u u' : List UInt8} {a : Nat} {t : Nat} {k : Nat} {n : Nat} {qs : List Qu} {l : List KV} {f : Nat} {cs : List Value} (h : suCel.R w P ((a, (t, (k, (n, (qs, (l, f)))))), u') (cs ++ [strV u'])) : suCel.R w P ((a, (t, (k, (n, (qs, (l, f)))))), u) (cs ++ [strV u]) := by
  obtain ⟨lo, lc, qo, qc, h, h0, h1⟩ := h
  refine ⟨lo, lc, qo, qc, ?_, h0, h1⟩
  have h2 := List.append_inj_left' (t₁ := [strV u']) (t₂ := [strV u']) (h.trans (show _ = [.slice lo l.length lc, .int .u64 (a : Int), .int .u64 (t : Int), .int .u64 (k : Int), .int .u64 (n : Int), .slice qo qs.length qc, .int .u32 (f : Int)] ++ [strV u'] from rfl)) rfl
  rw [h2]; rfl
theorem su_form {rd : Except Nat Su} {n : Nat} {w w' : World} {e : Ending} (h : RdPost suCel suzero rd n w e w') : Below w.heap.size w w' ∧ ∃ (lo : Option Addr) (llo lc : Nat) (ja : Int) (jt : Int) (jk : Int) (jn : Int) (qo : Option Addr) (lqo qc : Nat) (jf : Int) (Xu : ByteArray) (v : Value), e = .returned (.tuple #[.agg #[.slice lo llo lc, .int .u64 ja, .int .u64 jt, .int .u64 jk, .int .u64 jn, .slice qo lqo qc, .int .u32 jf, .string Xu], v]) := by
  obtain ⟨hb, h⟩ := h
  refine ⟨hb, ?_⟩
  cases rd with
  | error c => obtain ⟨v, q, rfl, _⟩ := h; exact ⟨_, _, _, _, _, _, _, _, _, _, _, _, _, rfl⟩
  | ok x => obtain ⟨cs, rfl, h⟩ := h; obtain ⟨⟨a, ⟨t, ⟨k, ⟨n, ⟨qs, ⟨l, f⟩⟩⟩⟩⟩⟩, u⟩ := x; obtain ⟨lo, lc, qo, qc, rfl, _, _⟩ := h; exact ⟨_, _, _, _, _, _, _, _, _, _, _, _, _, rfl⟩
def su_may (d : Int) : Su → Bool
  | ((_, (_, (_, (_, (qs, (l, _)))))), u) => decide (0 ≤ d) && ((lmays quSb qs d && kmays l d) && munkOk suF.tk u d)
def su_out : Su → List UInt8
  | ((a, (t, (k, (n, (qs, (l, f)))))), u) => (if a = 0 then [] else (rF 2 a).raw) ++ (if t = 0 then [] else (rF 3 t).raw) ++ (if k = 0 then [] else (rF 4 k).raw) ++ (if n = 0 then [] else (rF 5 n).raw) ++ louts quSb 6 qs ++ kouts 7 l ++ (if f = 0 then [] else (rN 8 f).raw) ++ u
def su_wt : Su → Nat
  | ((_, (_, (_, (_, (qs, (l, _)))))), u) => 20 + (lwt quSb qs + ksw l + u.length)
/-- little enough to be written -/
def su_fit : Su → Prop
  | ((a, (t, (k, (n, (qs, (l, f)))))), u) => a < 18446744073709551616 ∧ t < 18446744073709551616 ∧ k < 18446744073709551616 ∧ n < 18446744073709551616 ∧ (∀ x ∈ qs, qu_fit x) ∧ ksfit l ∧ f < 4294967296 ∧ lwt quSb qs + ksw l + u.length ≤ 400000
/-- what an argument is -/
def su_arg : Su → Prop
  | ((a, (t, (k, (n, (qs, (l, f)))))), u) => a < 18446744073709551616 ∧ t < 18446744073709551616 ∧ k < 18446744073709551616 ∧ n < 18446744073709551616 ∧ (∀ x ∈ qs, qu_arg x) ∧ qs.length ≤ 9223372036854775807 ∧ ksfit l ∧ kslim l ∧ l.length ≤ 9223372036854775807 ∧ f < 4294967296 ∧ u.length ≤ 9223372036854775807
theorem su_mayF (d : Int) {a : Nat} {t : Nat} {k : Nat} {n : Nat} {qs : List Qu} {l : List KV} {f : Nat} {u : List UInt8} : su_may d ((a, (t, (k, (n, (qs, (l, f)))))), u) = (decide (0 ≤ d) && (suF.may d (a, (t, (k, (n, (qs, (l, f)))))) && munkOk suF.tk u d)) := by
  have h : suF.may d (a, (t, (k, (n, (qs, (l, f)))))) = (lmays quSb qs d && kmays l d) := by
    show (true && (true && (true && (true && ((listF 6 quSb).may d qs && ((listF 7 kvS).may d l && true)))))) = _
    simp only [kvs_may, lst_may (S := quSb), Bool.and_true, Bool.true_and]
  rw [h]; rfl
theorem su_outF {a : Nat} {t : Nat} {k : Nat} {n : Nat} {qs : List Qu} {l : List KV} {f : Nat} {u : List UInt8} : (suF.out (a, (t, (k, (n, (qs, (l, f))))))).flatMap Rec.raw ++ u = su_out ((a, (t, (k, (n, (qs, (l, f)))))), u) := by
  have h := congrArg (· ++ u) ((out_and (numF 2) ((numF 3).and ((numF 4).and ((numF 5).and ((listF 6 quSb).and ((listF 7 kvS).and (var32F 8)))))) a (t, (k, (n, (qs, (l, f)))))).trans (congr (congrArg HAppend.hAppend (num_out 2 a)) ((out_and (numF 3) ((numF 4).and ((numF 5).and ((listF 6 quSb).and ((listF 7 kvS).and (var32F 8))))) t (k, (n, (qs, (l, f))))).trans (congr (congrArg HAppend.hAppend (num_out 3 t)) ((out_and (numF 4) ((numF 5).and ((listF 6 quSb).and ((listF 7 kvS).and (var32F 8)))) k (n, (qs, (l, f)))).trans (congr (congrArg HAppend.hAppend (num_out 4 k)) ((out_and (numF 5) ((listF 6 quSb).and ((listF 7 kvS).and (var32F 8))) n (qs, (l, f))).trans (congr (congrArg HAppend.hAppend (num_out 5 n)) ((out_and (listF 6 quSb) ((listF 7 kvS).and (var32F 8)) qs (l, f)).trans (congr (congrArg HAppend.hAppend (lst_out (S := quSb) 6 qs)) ((out_and (listF 7 kvS) (var32F 8) l f).trans (congr (congrArg HAppend.hAppend (kvs_out 7 l)) (var_out 8 f)))))))))))))
  refine Eq.trans (show _ = _ from h) ?_
  show _ = (if a = 0 then [] else (rF 2 a).raw) ++ (if t = 0 then [] else (rF 3 t).raw) ++ (if k = 0 then [] else (rF 4 k).raw) ++ (if n = 0 then [] else (rF 5 n).raw) ++ louts quSb 6 qs ++ kouts 7 l ++ (if f = 0 then [] else (rN 8 f).raw) ++ u
  simp only [List.append_assoc]
theorem su_fitF {a : Nat} {t : Nat} {k : Nat} {n : Nat} {qs : List Qu} {l : List KV} {f : Nat} {u : List UInt8} (h : su_fit ((a, (t, (k, (n, (qs, (l, f)))))), u)) : suF.fit (a, (t, (k, (n, (qs, (l, f)))))) ∧ suF.wt (a, (t, (k, (n, (qs, (l, f)))))) ≤ 1000000 := by
  obtain ⟨hna, hnt, hnk, hnn, hfqs, hfl, hnf, hw⟩ := h
  refine ⟨⟨hna, ⟨hnt, ⟨hnk, ⟨hnn, ⟨(qus_fit2 hfqs), ⟨(kvs_fit2 hfl), hnf⟩⟩⟩⟩⟩⟩, ?_⟩
  show (0 + (0 + (0 + (0 + ((listF 6 quSb).wt qs + ((listF 7 kvS).wt l + 0)))))) ≤ _
  rw [lst_wt, kvs_wt]; omega
theorem su_back {a : Nat} {t : Nat} {k : Nat} {n : Nat} {qs : List Qu} {l : List KV} {f : Nat} {u : List UInt8} {d : Int} (hf : su_fit ((a, (t, (k, (n, (qs, (l, f)))))), u)) (hm : su_may d ((a, (t, (k, (n, (qs, (l, f)))))), u) = true) : surd (su_out ((a, (t, (k, (n, (qs, (l, f)))))), u)) d = .ok ((a, (t, (k, (n, (qs, (l, f)))))), u) := by
  rw [su_mayF] at hm
  simp only [Bool.and_eq_true, decide_eq_true_eq] at hm
  have h := fld_back suF_ok (s := (a, (t, (k, (n, (qs, (l, f))))))) (u := u) (su_fitF hf).1 (su_fitF hf).2 hm.1 hm.2.1 hm.2.2
  exact (congrArg (fun t => mread (σ := Nat × Nat × Nat × Nat × List Qu × List KV × Nat) suF.tk (suF.step d) suF.z t d) (su_outF)).symm.trans h
theorem su_less {a : Nat} {t : Nat} {k : Nat} {n : Nat} {qs : List Qu} {l : List KV} {f : Nat} {u : List UInt8} {d d' : Int} (hf : su_fit ((a, (t, (k, (n, (qs, (l, f)))))), u)) (hm : su_may d ((a, (t, (k, (n, (qs, (l, f)))))), u) = true) (hle : d' ≤ d) (hn : su_may d' ((a, (t, (k, (n, (qs, (l, f)))))), u) = false) : ∃ c, surd (su_out ((a, (t, (k, (n, (qs, (l, f)))))), u)) d' = .error c := by
  rw [su_mayF] at hm hn
  simp only [Bool.and_eq_true, decide_eq_true_eq] at hm
  obtain ⟨c, h⟩ := fld_less suF_ok (s := (a, (t, (k, (n, (qs, (l, f))))))) (u := u) (d := d) (d' := d') (su_fitF hf).1 (su_fitF hf).2 hm.2.1 hm.2.2 hle (by
    by_cases h0 : d' < 0
    · exact .inl h0
    · rw [decide_eq_true (by omega : 0 ≤ d'), Bool.true_and, Bool.and_eq_false_iff] at hn
      exact .inr hn)
  exact ⟨c, (congrArg (fun t => mread (σ := Nat × Nat × Nat × Nat × List Qu × List KV × Nat) suF.tk (suF.step d') suF.z t d') (su_outF)).symm.trans h⟩
theorem su_twice {a : Nat} {t : Nat} {k : Nat} {n : Nat} {qs : List Qu} {l : List KV} {f : Nat} {u : List UInt8} {s : List UInt8} {d : Int} (hl : s.length ≤ 6000) (h : surd s d = .ok ((a, (t, (k, (n, (qs, (l, f)))))), u)) : su_may d ((a, (t, (k, (n, (qs, (l, f)))))), u) = true ∧ su_fit ((a, (t, (k, (n, (qs, (l, f)))))), u) := by
  obtain ⟨h0, h1, h2, h3, h4⟩ := fld_twice suF_ok (s := (a, (t, (k, (n, (qs, (l, f))))))) (by omega) h
  refine ⟨?_, ?_⟩
  · rw [su_mayF, h1, h2, decide_eq_true h0]; rfl
  · have h5 : (0 + (0 + (0 + (0 + ((listF 6 quSb).wt qs + ((listF 7 kvS).wt l + 0)))))) + u.length ≤ (0 + (0 + (0 + (0 + (0 + (0 + 0)))))) + 51 * s.length := h4
    rw [lst_wt, kvs_wt] at h5
    exact ⟨h3.1, h3.2.1, h3.2.2.1, h3.2.2.2.1, qus_fit h3.2.2.2.2.1 (by omega), kvs_fit h3.2.2.2.2.2.1, h3.2.2.2.2.2.2, by omega⟩
theorem su_arg_of {a : Nat} {t : Nat} {k : Nat} {n : Nat} {qs : List Qu} {l : List KV} {f : Nat} {u : List UInt8} (h : su_fit ((a, (t, (k, (n, (qs, (l, f)))))), u)) : su_arg ((a, (t, (k, (n, (qs, (l, f)))))), u) := by
  obtain ⟨hna, hnt, hnk, hnn, hfqs, hfl, hnf, hw⟩ := h
  have hzl := ksw_len l
  have hzqs := qus_len qs
  exact ⟨hna, hnt, hnk, hnn, (fun x hx => qu_arg_ofx (hfqs x hx)), (by omega), hfl, kslim_ofw l (by omega), (by omega), hnf, (by omega)⟩
theorem su_fit_of {a : Nat} {t : Nat} {k : Nat} {n : Nat} {qs : List Qu} {l : List KV} {f : Nat} {u : List UInt8} (h : su_arg ((a, (t, (k, (n, (qs, (l, f)))))), u)) (hw : su_wt ((a, (t, (k, (n, (qs, (l, f)))))), u) ≤ 12000) : su_fit ((a, (t, (k, (n, (qs, (l, f)))))), u) := by
  obtain ⟨hna, hnt, hnk, hnn, hfqs, hzqs, hfl, hll, hzl, hnf, hzu⟩ := h
  have hw : 20 + (lwt quSb qs + ksw l + u.length) ≤ 12000 := hw
  exact ⟨hna, hnt, hnk, hnn, (qus_fit_of hfqs (by omega)), hfl, hnf, (by omega)⟩
theorem su_olen {a : Nat} {t : Nat} {k : Nat} {n : Nat} {qs : List Qu} {l : List KV} {f : Nat} {u : List UInt8} (h : su_fit ((a, (t, (k, (n, (qs, (l, f)))))), u)) : (su_out ((a, (t, (k, (n, (qs, (l, f)))))), u)).length ≤ 500000 := by
  obtain ⟨_, _, _, _, _, _, _, hw⟩ := h
  have hzl := ksw_len l
  have hzqs := qus_len qs
  have g0 := num_seg 2 a
  have g1 := num_seg 3 t
  have g2 := num_seg 4 k
  have g3 := num_seg 5 n
  have g4 := qus_olen (num := 6) (by omega) qs (by omega)
  have g5 := kouts_le 7 (by omega) l
  have g6 := var_seg 8 f
  show ((if a = 0 then [] else (rF 2 a).raw) ++ (if t = 0 then [] else (rF 3 t).raw) ++ (if k = 0 then [] else (rF 4 k).raw) ++ (if n = 0 then [] else (rF 5 n).raw) ++ louts quSb 6 qs ++ kouts 7 l ++ (if f = 0 then [] else (rN 8 f).raw) ++ u).length ≤ _
  simp only [List.length_append]
  omega
theorem su_tko (r : Rec) (h : r.ty = 5 ∨ r.num = 536870911) : suF.tk r = false := by
  rw [suF_tk]
  exact decide_eq_false (by omega)
theorem su_tk90 (r : Rec) (h : r.num = 90) : suF.tk r = false := by
  rw [suF_tk]
  exact decide_eq_false (by omega)
theorem su_free : suF.Free := ((numF_free _).and (((numF_free _).and (((numF_free _).and (((numF_free _).and (((lst_free _).and (((kvF_free _).and (var32F_free _))))))))))))
theorem su_zarg : su_arg ((0, (0, (0, (0, ([], ([], 0)))))), []) := ⟨(by omega), (by omega), (by omega), (by omega), (fun x hx => by cases hx), (by simp), (by rw [ksfit]; trivial), (by rw [kslim]; trivial), (by simp), (by omega), (by simp)⟩
theorem su_zrel (w : World) (P : Nat → Prop) : suCel.R w P ((0, (0, (0, (0, ([], ([], 0)))))), []) [.slice none 0 0, .int .u64 0, .int .u64 0, .int .u64 0, .int .u64 0, .slice none 0 0, .int .u32 0, .string ⟨#[]⟩] := ⟨none, 0, none, 0, rfl, by rw [KRels]; trivial, CRels.nil _ _ _ _⟩
theorem num_from {num : Nat} : ∀ (rs : List Rec) (n0 n : Nat), mfold (σ := Nat) (numF num).tk (fun _ r => .ok r.n) n0 rs = .ok n → (n = n0 ∧ (∀ n1, mfold (σ := Nat) (numF num).tk (fun _ r => .ok r.n) n1 rs = .ok n1)) ∨ ∀ n1, mfold (σ := Nat) (numF num).tk (fun _ r => .ok r.n) n1 rs = .ok n
  | [], n0, n, h => by
    have h : Except.ok n0 = Except.ok n := h
    exact .inl ⟨(Except.ok.inj h).symm, fun _ => rfl⟩
  | r :: rs, n0, n, h => by
    cases e : (numF num).tk r with
    | false =>
      have e1 : ∀ m : Nat, mfold (σ := Nat) (numF num).tk (fun _ r => .ok r.n) m (r :: rs) = mfold (σ := Nat) (numF num).tk (fun _ r => .ok r.n) m rs := fun m => by rw [mfold, e]; rfl
      rw [e1] at h
      rcases num_from rs n0 n h with ⟨h1, h2⟩ | h1
      · exact .inl ⟨h1, fun m => by rw [e1]; exact h2 m⟩
      · exact .inr fun m => by rw [e1]; exact h1 m
    | true =>
      have e1 : ∀ m : Nat, mfold (σ := Nat) (numF num).tk (fun _ r => .ok r.n) m (r :: rs) = mfold (σ := Nat) (numF num).tk (fun _ r => .ok r.n) r.n rs := fun m => by rw [mfold, e]; rfl
      rw [e1] at h
      exact .inr fun m => by rw [e1]; exact h
/-- of two, one behind the other: the second's, if it has one -/
theorem num_join {num : Nat} {d : Int} {rs ts : List Rec} {x y z : Nat} (h1 : (numF num).rd d (0 : Nat) rs = .ok x) (h2 : (numF num).rd d (0 : Nat) ts = .ok y) (h3 : (numF num).rd d (0 : Nat) (rs ++ ts) = .ok z) : y = 0 ∨ z = y := by
  have h1 : mfold (σ := Nat) (numF num).tk (fun _ r => .ok r.n) 0 rs = .ok x := h1
  have h2 : mfold (σ := Nat) (numF num).tk (fun _ r => .ok r.n) 0 ts = .ok y := h2
  have h3 : mfold (σ := Nat) (numF num).tk (fun _ r => .ok r.n) 0 (rs ++ ts) = .ok z := h3
  rw [mfold_append, h1] at h3
  dsimp only at h3
  rcases num_from ts 0 y h2 with ⟨h, _⟩ | h
  · exact .inl h
  · rw [h x] at h3
    exact .inr (Except.ok.inj h3).symm
theorem su_ap : (numF 2).Apart ((numF 3).and ((numF 4).and ((numF 5).and ((listF 6 quSb).and ((listF 7 kvS).and (var32F 8)))))) := apart_of fun r h => by
  simp only [numF, decide_eq_true_eq] at h
  simp only [Fld.and, numF, var32F, listF, listTk, Bool.or_eq_false_iff, decide_eq_false_iff_not]
  omega
theorem su_ap2 : (numF 3).Apart ((numF 4).and ((numF 5).and ((listF 6 quSb).and ((listF 7 kvS).and (var32F 8))))) := apart_of fun r h => by
  simp only [numF, decide_eq_true_eq] at h
  simp only [Fld.and, numF, var32F, listF, listTk, Bool.or_eq_false_iff, decide_eq_false_iff_not]
  omega
theorem su_ap22 : (numF 4).Apart ((numF 5).and ((listF 6 quSb).and ((listF 7 kvS).and (var32F 8)))) := apart_of fun r h => by
  simp only [numF, decide_eq_true_eq] at h
  simp only [Fld.and, numF, var32F, listF, listTk, Bool.or_eq_false_iff, decide_eq_false_iff_not]
  omega
theorem su_ap222 : (numF 5).Apart ((listF 6 quSb).and ((listF 7 kvS).and (var32F 8))) := apart_of fun r h => by
  simp only [numF, decide_eq_true_eq] at h
  simp only [Fld.and, var32F, listF, listTk, Bool.or_eq_false_iff, decide_eq_false_iff_not]
  omega
theorem su_ap2222 : (listF 6 quSb).Apart ((listF 7 kvS).and (var32F 8)) := apart_of fun r h => by
  simp only [listF, listTk, decide_eq_true_eq] at h
  simp only [Fld.and, var32F, listF, listTk, Bool.or_eq_false_iff, decide_eq_false_iff_not]
  omega
theorem su_ap22222 : (listF 7 kvS).Apart (var32F 8) := apart_of fun r h => by
  simp only [listF, listTk, decide_eq_true_eq] at h
  simp only [var32F, decide_eq_false_iff_not]
  omega
theorem su_join {s t u1 u2 : List UInt8} {a1 : Nat} {t1 : Nat} {k1 : Nat} {n1 : Nat} {qs1 : List Qu} {l1 : List KV} {f1 : Nat} {a2 : Nat} {t2 : Nat} {k2 : Nat} {n2 : Nat} {qs2 : List Qu} {l2 : List KV} {f2 : Nat} {d : Int} (h1 : surd s d = .ok ((a1, (t1, (k1, (n1, (qs1, (l1, f1)))))), u1)) (h2 : surd t d = .ok ((a2, (t2, (k2, (n2, (qs2, (l2, f2)))))), u2)) : ∃ a3 t3 k3 n3 qs3 l3 f3, surd (s ++ t) d = .ok ((a3, (t3, (k3, (n3, (qs3, (l3, f3)))))), (u1 ++ u2)) ∧ (n2 = 0 ∨ n3 = n2) ∧ qs3.length = qs1.length + qs2.length ∧ l3.length = l1.length + l2.length := by
  obtain ⟨⟨a3, ⟨t3, ⟨k3, ⟨n3, ⟨qs3, ⟨l3, f3⟩⟩⟩⟩⟩⟩, rs, ts, h3, h4, h5, h6⟩ := fld_join su_free h1 h2
  refine ⟨a3, t3, k3, n3, qs3, l3, f3, h3, ?_, ?_, ?_⟩
  · exact num_join (Fld.and_fst su_ap222 (Fld.and_fst su_ap22 (Fld.and_fst su_ap2 (Fld.and_fst su_ap h4).2).2).2).1 (Fld.and_fst su_ap222 (Fld.and_fst su_ap22 (Fld.and_fst su_ap2 (Fld.and_fst su_ap h5).2).2).2).1 (Fld.and_fst su_ap222 (Fld.and_fst su_ap22 (Fld.and_fst su_ap2 (Fld.and_fst su_ap h6).2).2).2).1
  · have e1 := lst_count (S := quSb) _ _ _ (Fld.and_fst su_ap2222 (Fld.and_fst su_ap222 (Fld.and_fst su_ap22 (Fld.and_fst su_ap2 (Fld.and_fst su_ap h4).2).2).2).2).1
    have e2 := lst_count (S := quSb) _ _ _ (Fld.and_fst su_ap2222 (Fld.and_fst su_ap222 (Fld.and_fst su_ap22 (Fld.and_fst su_ap2 (Fld.and_fst su_ap h5).2).2).2).2).1
    have e3 := lst_count (S := quSb) _ _ _ (Fld.and_fst su_ap2222 (Fld.and_fst su_ap222 (Fld.and_fst su_ap22 (Fld.and_fst su_ap2 (Fld.and_fst su_ap h6).2).2).2).2).1
    rw [List.filter_append, List.length_append] at e3
    have z1 : ((listF 6 quSb).z : List Qu).length = 0 := rfl
    omega
  · have e1 := kv_count _ _ _ (Fld.and_fst su_ap22222 (Fld.and_fst su_ap2222 (Fld.and_fst su_ap222 (Fld.and_fst su_ap22 (Fld.and_fst su_ap2 (Fld.and_fst su_ap h4).2).2).2).2).2).1
    have e2 := kv_count _ _ _ (Fld.and_fst su_ap22222 (Fld.and_fst su_ap2222 (Fld.and_fst su_ap222 (Fld.and_fst su_ap22 (Fld.and_fst su_ap2 (Fld.and_fst su_ap h5).2).2).2).2).2).1
    have e3 := kv_count _ _ _ (Fld.and_fst su_ap22222 (Fld.and_fst su_ap2222 (Fld.and_fst su_ap222 (Fld.and_fst su_ap22 (Fld.and_fst su_ap2 (Fld.and_fst su_ap h6).2).2).2).2).2).1
    rw [List.filter_append, List.length_append] at e3
    have z1 : ((listF 7 kvS).z : List KV).length = 0 := rfl
    omega
end Go.Proofs.YthpngihcjbmmkaaGreatDoor

