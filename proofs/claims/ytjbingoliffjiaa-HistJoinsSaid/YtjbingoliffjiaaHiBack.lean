/-
  Points of histograms: by their fields; in memory; there and back; joined.
-/
import Derived.Test.YtjbingoliffjiaaNumsK
import Derived.Test.YtjbingoliffjiaaExSub
namespace Go.Proofs.Ytjbingoliffjiaa
open Go.RowKit
def hiF : Fld := (numF 2).and ((numF 3).and ((numF 4).and ((optF 5).and ((numsF 6).and ((numsF 7).and ((listF 8 exSb).and ((listF 9 kvS).and ((var32F 10).and ((optF 11).and (optF 12))))))))))
theorem hiF_ok : hiF.Ok := (numF_ok (by omega) (by omega)).and ((numF_ok (by omega) (by omega)).and ((numF_ok (by omega) (by omega)).and ((optF_ok (by omega) (by omega)).and ((numsF_ok (by omega) (by omega)).and ((numsF_ok (by omega) (by omega)).and ((listF_ok exSb_ok (by omega) (by omega)).and ((listF_ok kvS_ok (by omega) (by omega)).and ((var32F_ok (by omega) (by omega)).and ((optF_ok (by omega) (by omega)).and (optF_ok (by omega) (by omega)) (apart_of fun r h => by simp only [optF, decide_eq_true_eq] at h; simp only [optF, decide_eq_false_iff_not]; omega)) (apart_of fun r h => by simp only [var32F, decide_eq_true_eq] at h; simp only [Fld.and, optF, Bool.or_eq_false_iff, decide_eq_false_iff_not]; omega)) (apart_of fun r h => by simp only [listF, listTk, decide_eq_true_eq] at h; simp only [Fld.and, optF, var32F, Bool.or_eq_false_iff, decide_eq_false_iff_not]; omega)) (apart_of fun r h => by simp only [listF, listTk, decide_eq_true_eq] at h; simp only [Fld.and, optF, var32F, listF, listTk, Bool.or_eq_false_iff, decide_eq_false_iff_not]; omega)) (apart_of fun r h => by simp only [numsF, decide_eq_true_eq] at h; simp only [Fld.and, optF, var32F, listF, listTk, Bool.or_eq_false_iff, decide_eq_false_iff_not]; omega)) (apart_of fun r h => by simp only [numsF, decide_eq_true_eq] at h; simp only [Fld.and, optF, numsF, var32F, listF, listTk, Bool.or_eq_false_iff, decide_eq_false_iff_not]; omega)) (apart_of fun r h => by simp only [optF, decide_eq_true_eq] at h; simp only [Fld.and, optF, numsF, var32F, listF, listTk, Bool.or_eq_false_iff, decide_eq_false_iff_not]; omega)) (apart_of fun r h => by simp only [numF, decide_eq_true_eq] at h; simp only [Fld.and, optF, numsF, var32F, listF, listTk, Bool.or_eq_false_iff, decide_eq_false_iff_not]; omega)) (apart_of fun r h => by simp only [numF, decide_eq_true_eq] at h; simp only [Fld.and, numF, optF, numsF, var32F, listF, listTk, Bool.or_eq_false_iff, decide_eq_false_iff_not]; omega)) (apart_of fun r h => by simp only [numF, decide_eq_true_eq] at h; simp only [Fld.and, numF, optF, numsF, var32F, listF, listTk, Bool.or_eq_false_iff, decide_eq_false_iff_not]; omega)
theorem hiF_tk (r : Rec) : hiF.tk r = decide ((r.num = 2 ∧ r.ty = 1) ∨ ((r.num = 3 ∧ r.ty = 1) ∨ ((r.num = 4 ∧ r.ty = 1) ∨ ((r.num = 5 ∧ r.ty = 1) ∨ ((r.num = 6 ∧ (r.ty = 1 ∨ r.ty = 2)) ∨ ((r.num = 7 ∧ (r.ty = 1 ∨ r.ty = 2)) ∨ ((r.num = 8 ∧ r.ty = 2) ∨ ((r.num = 9 ∧ r.ty = 2) ∨ ((r.num = 10 ∧ r.ty = 0) ∨ ((r.num = 11 ∧ r.ty = 1) ∨ (r.num = 12 ∧ r.ty = 1))))))))))) := by
 rw [Bool.eq_iff_iff]
 simp only [hiF, Fld.and, numF, optF, numsF, var32F, listF, listTk, Bool.or_eq_true, decide_eq_true_eq]
theorem hiF_2 {r : Rec} (h : r.num = 2 ∧ r.ty = 1) (d : Int) (a : Nat) (t : Nat) (k : Nat) (ph : Bool) (pn : Nat) (nc : List Nat) (nb : List Nat) (es : List Ex) (l : List KV) (f : Nat) (mh : Bool) (mn : Nat) (gh : Bool) (gn : Nat) : hiF.step d (a, (t, (k, ((ph, pn), (nc, (nb, (es, (l, (f, ((mh, mn), (gh, gn))))))))))) r = .ok (r.n, (t, (k, ((ph, pn), (nc, (nb, (es, (l, (f, ((mh, mn), (gh, gn))))))))))) :=
 (Fld.and_1ok (by simp only [numF, decide_eq_true_eq]; omega) rfl)
theorem hiF_3 {r : Rec} (h : r.num = 3 ∧ r.ty = 1) (d : Int) (a : Nat) (t : Nat) (k : Nat) (ph : Bool) (pn : Nat) (nc : List Nat) (nb : List Nat) (es : List Ex) (l : List KV) (f : Nat) (mh : Bool) (mn : Nat) (gh : Bool) (gn : Nat) : hiF.step d (a, (t, (k, ((ph, pn), (nc, (nb, (es, (l, (f, ((mh, mn), (gh, gn))))))))))) r = .ok (a, (r.n, (k, ((ph, pn), (nc, (nb, (es, (l, (f, ((mh, mn), (gh, gn))))))))))) :=
 (Fld.and_2ok (by simp only [numF, decide_eq_false_iff_not]; omega) (Fld.and_1ok (by simp only [numF, decide_eq_true_eq]; omega) rfl))
theorem hiF_4 {r : Rec} (h : r.num = 4 ∧ r.ty = 1) (d : Int) (a : Nat) (t : Nat) (k : Nat) (ph : Bool) (pn : Nat) (nc : List Nat) (nb : List Nat) (es : List Ex) (l : List KV) (f : Nat) (mh : Bool) (mn : Nat) (gh : Bool) (gn : Nat) : hiF.step d (a, (t, (k, ((ph, pn), (nc, (nb, (es, (l, (f, ((mh, mn), (gh, gn))))))))))) r = .ok (a, (t, (r.n, ((ph, pn), (nc, (nb, (es, (l, (f, ((mh, mn), (gh, gn))))))))))) :=
 (Fld.and_2ok (by simp only [numF, decide_eq_false_iff_not]; omega) (Fld.and_2ok (by simp only [numF, decide_eq_false_iff_not]; omega) (Fld.and_1ok (by simp only [numF, decide_eq_true_eq]; omega) rfl)))
theorem hiF_5 {r : Rec} (h : r.num = 5 ∧ r.ty = 1) (d : Int) (a : Nat) (t : Nat) (k : Nat) (ph : Bool) (pn : Nat) (nc : List Nat) (nb : List Nat) (es : List Ex) (l : List KV) (f : Nat) (mh : Bool) (mn : Nat) (gh : Bool) (gn : Nat) : hiF.step d (a, (t, (k, ((ph, pn), (nc, (nb, (es, (l, (f, ((mh, mn), (gh, gn))))))))))) r = .ok (a, (t, (k, ((true, r.n), (nc, (nb, (es, (l, (f, ((mh, mn), (gh, gn))))))))))) :=
 (Fld.and_2ok (by simp only [numF, decide_eq_false_iff_not]; omega) (Fld.and_2ok (by simp only [numF, decide_eq_false_iff_not]; omega) (Fld.and_2ok (by simp only [numF, decide_eq_false_iff_not]; omega) (Fld.and_1ok (by simp only [optF, decide_eq_true_eq]; omega) rfl))))
theorem hiF_6 {r : Rec} (h : r.num = 6 ∧ (r.ty = 1 ∨ r.ty = 2)) (d : Int) (a : Nat) (t : Nat) (k : Nat) (ph : Bool) (pn : Nat) (nc : List Nat) (nb : List Nat) (es : List Ex) (l : List KV) (f : Nat) (mh : Bool) (mn : Nat) (gh : Bool) (gn : Nat) : hiF.step d (a, (t, (k, ((ph, pn), (nc, (nb, (es, (l, (f, ((mh, mn), (gh, gn))))))))))) r = match fstep nc r with
  | .error c => .error c
  | .ok x => .ok (a, (t, (k, ((ph, pn), (x, (nb, (es, (l, (f, ((mh, mn), (gh, gn))))))))))) := by
 cases e : fstep nc r with
 | error c => exact (Fld.and_2no (by simp only [numF, decide_eq_false_iff_not]; omega) (Fld.and_2no (by simp only [numF, decide_eq_false_iff_not]; omega) (Fld.and_2no (by simp only [numF, decide_eq_false_iff_not]; omega) (Fld.and_2no (by simp only [optF, decide_eq_false_iff_not]; omega) (Fld.and_1no (by simp only [numsF, decide_eq_true_eq]; omega) (show (numsF 6).step d nc r = .error c from e))))))
 | ok x => exact (Fld.and_2ok (by simp only [numF, decide_eq_false_iff_not]; omega) (Fld.and_2ok (by simp only [numF, decide_eq_false_iff_not]; omega) (Fld.and_2ok (by simp only [numF, decide_eq_false_iff_not]; omega) (Fld.and_2ok (by simp only [optF, decide_eq_false_iff_not]; omega) (Fld.and_1ok (by simp only [numsF, decide_eq_true_eq]; omega) (show (numsF 6).step d nc r = .ok x from e))))))
theorem hiF_7 {r : Rec} (h : r.num = 7 ∧ (r.ty = 1 ∨ r.ty = 2)) (d : Int) (a : Nat) (t : Nat) (k : Nat) (ph : Bool) (pn : Nat) (nc : List Nat) (nb : List Nat) (es : List Ex) (l : List KV) (f : Nat) (mh : Bool) (mn : Nat) (gh : Bool) (gn : Nat) : hiF.step d (a, (t, (k, ((ph, pn), (nc, (nb, (es, (l, (f, ((mh, mn), (gh, gn))))))))))) r = match fstep nb r with
  | .error c => .error c
  | .ok x => .ok (a, (t, (k, ((ph, pn), (nc, (x, (es, (l, (f, ((mh, mn), (gh, gn))))))))))) := by
 cases e : fstep nb r with
 | error c => exact (Fld.and_2no (by simp only [numF, decide_eq_false_iff_not]; omega) (Fld.and_2no (by simp only [numF, decide_eq_false_iff_not]; omega) (Fld.and_2no (by simp only [numF, decide_eq_false_iff_not]; omega) (Fld.and_2no (by simp only [optF, decide_eq_false_iff_not]; omega) (Fld.and_2no (by simp only [numsF, decide_eq_false_iff_not]; omega) (Fld.and_1no (by simp only [numsF, decide_eq_true_eq]; omega) (show (numsF 7).step d nb r = .error c from e)))))))
 | ok x => exact (Fld.and_2ok (by simp only [numF, decide_eq_false_iff_not]; omega) (Fld.and_2ok (by simp only [numF, decide_eq_false_iff_not]; omega) (Fld.and_2ok (by simp only [numF, decide_eq_false_iff_not]; omega) (Fld.and_2ok (by simp only [optF, decide_eq_false_iff_not]; omega) (Fld.and_2ok (by simp only [numsF, decide_eq_false_iff_not]; omega) (Fld.and_1ok (by simp only [numsF, decide_eq_true_eq]; omega) (show (numsF 7).step d nb r = .ok x from e)))))))
theorem hiF_8 {r : Rec} (h : r.num = 8 ∧ r.ty = 2) (d : Int) (a : Nat) (t : Nat) (k : Nat) (ph : Bool) (pn : Nat) (nc : List Nat) (nb : List Nat) (es : List Ex) (l : List KV) (f : Nat) (mh : Bool) (mn : Nat) (gh : Bool) (gn : Nat) : hiF.step d (a, (t, (k, ((ph, pn), (nc, (nb, (es, (l, (f, ((mh, mn), (gh, gn))))))))))) r = match exrd r.s (d - 1) with
  | .error c => .error c
  | .ok x => .ok (a, (t, (k, ((ph, pn), (nc, (nb, (es ++ [x], (l, (f, ((mh, mn), (gh, gn))))))))))) := by
 cases e : exrd r.s (d - 1) with
 | error c => exact (Fld.and_2no (by simp only [numF, decide_eq_false_iff_not]; omega) (Fld.and_2no (by simp only [numF, decide_eq_false_iff_not]; omega) (Fld.and_2no (by simp only [numF, decide_eq_false_iff_not]; omega) (Fld.and_2no (by simp only [optF, decide_eq_false_iff_not]; omega) (Fld.and_2no (by simp only [numsF, decide_eq_false_iff_not]; omega) (Fld.and_2no (by simp only [numsF, decide_eq_false_iff_not]; omega) (Fld.and_1no (by simp only [listF, listTk, decide_eq_true_eq]; omega) (lst_no (S := exSb) e))))))))
 | ok x => exact (Fld.and_2ok (by simp only [numF, decide_eq_false_iff_not]; omega) (Fld.and_2ok (by simp only [numF, decide_eq_false_iff_not]; omega) (Fld.and_2ok (by simp only [numF, decide_eq_false_iff_not]; omega) (Fld.and_2ok (by simp only [optF, decide_eq_false_iff_not]; omega) (Fld.and_2ok (by simp only [numsF, decide_eq_false_iff_not]; omega) (Fld.and_2ok (by simp only [numsF, decide_eq_false_iff_not]; omega) (Fld.and_1ok (by simp only [listF, listTk, decide_eq_true_eq]; omega) (lst_ok (S := exSb) e))))))))
theorem hiF_9 {r : Rec} (h : r.num = 9 ∧ r.ty = 2) (d : Int) (a : Nat) (t : Nat) (k : Nat) (ph : Bool) (pn : Nat) (nc : List Nat) (nb : List Nat) (es : List Ex) (l : List KV) (f : Nat) (mh : Bool) (mn : Nat) (gh : Bool) (gn : Nat) : hiF.step d (a, (t, (k, ((ph, pn), (nc, (nb, (es, (l, (f, ((mh, mn), (gh, gn))))))))))) r = match kread 1000001 r.s (d - 1) with
  | .error c => .error c
  | .ok x => .ok (a, (t, (k, ((ph, pn), (nc, (nb, (es, (l ++ [x], (f, ((mh, mn), (gh, gn))))))))))) := by
 cases e : kread 1000001 r.s (d - 1) with
 | error c => exact (Fld.and_2no (by simp only [numF, decide_eq_false_iff_not]; omega) (Fld.and_2no (by simp only [numF, decide_eq_false_iff_not]; omega) (Fld.and_2no (by simp only [numF, decide_eq_false_iff_not]; omega) (Fld.and_2no (by simp only [optF, decide_eq_false_iff_not]; omega) (Fld.and_2no (by simp only [numsF, decide_eq_false_iff_not]; omega) (Fld.and_2no (by simp only [numsF, decide_eq_false_iff_not]; omega) (Fld.and_2no (by simp only [listF, listTk, decide_eq_false_iff_not]; omega) (Fld.and_1no (by simp only [listF, listTk, decide_eq_true_eq]; omega) (kv_no e)))))))))
 | ok x => exact (Fld.and_2ok (by simp only [numF, decide_eq_false_iff_not]; omega) (Fld.and_2ok (by simp only [numF, decide_eq_false_iff_not]; omega) (Fld.and_2ok (by simp only [numF, decide_eq_false_iff_not]; omega) (Fld.and_2ok (by simp only [optF, decide_eq_false_iff_not]; omega) (Fld.and_2ok (by simp only [numsF, decide_eq_false_iff_not]; omega) (Fld.and_2ok (by simp only [numsF, decide_eq_false_iff_not]; omega) (Fld.and_2ok (by simp only [listF, listTk, decide_eq_false_iff_not]; omega) (Fld.and_1ok (by simp only [listF, listTk, decide_eq_true_eq]; omega) (kv_ok e)))))))))
theorem hiF_10 {r : Rec} (h : r.num = 10 ∧ r.ty = 0) (d : Int) (a : Nat) (t : Nat) (k : Nat) (ph : Bool) (pn : Nat) (nc : List Nat) (nb : List Nat) (es : List Ex) (l : List KV) (f : Nat) (mh : Bool) (mn : Nat) (gh : Bool) (gn : Nat) : hiF.step d (a, (t, (k, ((ph, pn), (nc, (nb, (es, (l, (f, ((mh, mn), (gh, gn))))))))))) r = .ok (a, (t, (k, ((ph, pn), (nc, (nb, (es, (l, (r.n % 4294967296, ((mh, mn), (gh, gn))))))))))) :=
 (Fld.and_2ok (by simp only [numF, decide_eq_false_iff_not]; omega) (Fld.and_2ok (by simp only [numF, decide_eq_false_iff_not]; omega) (Fld.and_2ok (by simp only [numF, decide_eq_false_iff_not]; omega) (Fld.and_2ok (by simp only [optF, decide_eq_false_iff_not]; omega) (Fld.and_2ok (by simp only [numsF, decide_eq_false_iff_not]; omega) (Fld.and_2ok (by simp only [numsF, decide_eq_false_iff_not]; omega) (Fld.and_2ok (by simp only [listF, listTk, decide_eq_false_iff_not]; omega) (Fld.and_2ok (by simp only [listF, listTk, decide_eq_false_iff_not]; omega) (Fld.and_1ok (by simp only [var32F, decide_eq_true_eq]; omega) rfl)))))))))
theorem hiF_11 {r : Rec} (h : r.num = 11 ∧ r.ty = 1) (d : Int) (a : Nat) (t : Nat) (k : Nat) (ph : Bool) (pn : Nat) (nc : List Nat) (nb : List Nat) (es : List Ex) (l : List KV) (f : Nat) (mh : Bool) (mn : Nat) (gh : Bool) (gn : Nat) : hiF.step d (a, (t, (k, ((ph, pn), (nc, (nb, (es, (l, (f, ((mh, mn), (gh, gn))))))))))) r = .ok (a, (t, (k, ((ph, pn), (nc, (nb, (es, (l, (f, ((true, r.n), (gh, gn))))))))))) :=
 (Fld.and_2ok (by simp only [numF, decide_eq_false_iff_not]; omega) (Fld.and_2ok (by simp only [numF, decide_eq_false_iff_not]; omega) (Fld.and_2ok (by simp only [numF, decide_eq_false_iff_not]; omega) (Fld.and_2ok (by simp only [optF, decide_eq_false_iff_not]; omega) (Fld.and_2ok (by simp only [numsF, decide_eq_false_iff_not]; omega) (Fld.and_2ok (by simp only [numsF, decide_eq_false_iff_not]; omega) (Fld.and_2ok (by simp only [listF, listTk, decide_eq_false_iff_not]; omega) (Fld.and_2ok (by simp only [listF, listTk, decide_eq_false_iff_not]; omega) (Fld.and_2ok (by simp only [var32F, decide_eq_false_iff_not]; omega) (Fld.and_1ok (by simp only [optF, decide_eq_true_eq]; omega) rfl))))))))))
theorem hiF_12 {r : Rec} (h : r.num = 12 ∧ r.ty = 1) (d : Int) (a : Nat) (t : Nat) (k : Nat) (ph : Bool) (pn : Nat) (nc : List Nat) (nb : List Nat) (es : List Ex) (l : List KV) (f : Nat) (mh : Bool) (mn : Nat) (gh : Bool) (gn : Nat) : hiF.step d (a, (t, (k, ((ph, pn), (nc, (nb, (es, (l, (f, ((mh, mn), (gh, gn))))))))))) r = .ok (a, (t, (k, ((ph, pn), (nc, (nb, (es, (l, (f, ((mh, mn), (true, r.n))))))))))) :=
 (Fld.and_2ok (by simp only [numF, decide_eq_false_iff_not]; omega) (Fld.and_2ok (by simp only [numF, decide_eq_false_iff_not]; omega) (Fld.and_2ok (by simp only [numF, decide_eq_false_iff_not]; omega) (Fld.and_2ok (by simp only [optF, decide_eq_false_iff_not]; omega) (Fld.and_2ok (by simp only [numsF, decide_eq_false_iff_not]; omega) (Fld.and_2ok (by simp only [numsF, decide_eq_false_iff_not]; omega) (Fld.and_2ok (by simp only [listF, listTk, decide_eq_false_iff_not]; omega) (Fld.and_2ok (by simp only [listF, listTk, decide_eq_false_iff_not]; omega) (Fld.and_2ok (by simp only [var32F, decide_eq_false_iff_not]; omega) (Fld.and_2ok (by simp only [optF, decide_eq_false_iff_not]; omega) rfl))))))))))
abbrev Hi : Type := (Nat × Nat × Nat × (Bool × Nat) × List Nat × List Nat × List Ex × List KV × Nat × (Bool × Nat) × Bool × Nat) × List UInt8
def HiRel (w : World) (P : Nat → Prop) : Hi → List Value → Prop
 | ((a, (t, (k, ((ph, pn), (nc, (nb, (es, (l, (f, ((mh, mn), (gh, gn))))))))))), u), cs => ∃ (lo : Option Addr) (lc : Nat) (nco : Option Addr) (ncc : Nat) (nbo : Option Addr) (nbc : Nat) (eo : Option Addr) (ec : Nat), cs = [.slice lo l.length lc, .int .u64 (a : Int), .int .u64 (t : Int), .int .u64 (k : Int), .bool ph, .int .u64 (pn : Int), .bool mh, .int .u64 (mn : Int), .bool gh, .int .u64 (gn : Int), .slice nco nc.length ncc, .slice nbo nb.length nbc, .slice eo es.length ec, .int .u32 (f : Int), strV u] ∧ KRels w P l lo 0 ∧ CRels natCel w P nc nco ∧ CRels natCel w P nb nbo ∧ CRels exCel w P es eo
def hiCel : Cel Hi where
 R := HiRel
 size := 15
 len := by rintro w P ⟨⟨a, ⟨t, ⟨k, ⟨⟨ph, pn⟩, ⟨nc, ⟨nb, ⟨es, ⟨l, ⟨f, ⟨⟨mh, mn⟩, ⟨gh, gn⟩⟩⟩⟩⟩⟩⟩⟩⟩⟩⟩, u⟩ cs ⟨lo, lc, nco, ncc, nbo, nbc, eo, ec, rfl, _, _, _, _⟩; rfl
 upd := by rintro w w' S P Q ⟨⟨a, ⟨t, ⟨k, ⟨⟨ph, pn⟩, ⟨nc, ⟨nb, ⟨es, ⟨l, ⟨f, ⟨⟨mh, mn⟩, ⟨gh, gn⟩⟩⟩⟩⟩⟩⟩⟩⟩⟩⟩, u⟩ cs hu hs hq ⟨lo, lc, nco, ncc, nbo, nbc, eo, ec, h, h0, h1, h2, h3⟩; exact ⟨lo, lc, nco, ncc, nbo, nbc, eo, ec, h, KRels.upd hu hs hq _ _ _ h0, CRels.upd hu hs hq h1, CRels.upd hu hs hq h2, CRels.upd hu hs hq h3⟩
 lt := by rintro w P ⟨⟨a, ⟨t, ⟨k, ⟨⟨ph, pn⟩, ⟨nc, ⟨nb, ⟨es, ⟨l, ⟨f, ⟨⟨mh, mn⟩, ⟨gh, gn⟩⟩⟩⟩⟩⟩⟩⟩⟩⟩⟩, u⟩ cs ⟨lo, lc, nco, ncc, nbo, nbc, eo, ec, h, h0, h1, h2, h3⟩; exact ⟨lo, lc, nco, ncc, nbo, nbc, eo, ec, h, KRels.lt _ _ _ h0, CRels.lt h1, CRels.lt h2, CRels.lt h3⟩
def hizero : Array Value := #[.slice none 0 0, .int .u64 0, .int .u64 0, .int .u64 0, .bool false, .int .u64 0, .bool false, .int .u64 0, .bool false, .int .u64 0, .slice none 0 0, .slice none 0 0, .slice none 0 0, .int .u32 0, .string ⟨#[]⟩]
def hird (l : List UInt8) (d : Int) : Except Nat Hi := mread (σ := Nat × Nat × Nat × (Bool × Nat) × List Nat × List Nat × List Ex × List KV × Nat × (Bool × Nat) × Bool × Nat) hiF.tk (hiF.step d) hiF.z l d
theorem hi_form {rd : Except Nat Hi} {n : Nat} {w w' : World} {e : Ending} (h : RdPost hiCel hizero rd n w e w') : Below w.heap.size w w' ∧ ∃ (lo : Option Addr) (llo lc : Nat) (ja : Int) (jt : Int) (jk : Int) (jph : Bool) (jpn : Int) (jmh : Bool) (jmn : Int) (jgh : Bool) (jgn : Int) (nco : Option Addr) (lnco ncc : Nat) (nbo : Option Addr) (lnbo nbc : Nat) (eo : Option Addr) (leo ec : Nat) (jf : Int) (Xu : ByteArray) (v : Value), e = .returned (.tuple #[.agg #[.slice lo llo lc, .int .u64 ja, .int .u64 jt, .int .u64 jk, .bool jph, .int .u64 jpn, .bool jmh, .int .u64 jmn, .bool jgh, .int .u64 jgn, .slice nco lnco ncc, .slice nbo lnbo nbc, .slice eo leo ec, .int .u32 jf, .string Xu], v]) := by
 obtain ⟨hb, h⟩ := h
 refine ⟨hb, ?_⟩
 cases rd with
 | error c => obtain ⟨v, q, rfl, _⟩ := h; exact ⟨_, _, _, _, _, _, _, _, _, _, _, _, _, _, _, _, _, _, _, _, _, _, _, _, rfl⟩
 | ok x => obtain ⟨cs, rfl, h⟩ := h; obtain ⟨⟨a, ⟨t, ⟨k, ⟨⟨ph, pn⟩, ⟨nc, ⟨nb, ⟨es, ⟨l, ⟨f, ⟨⟨mh, mn⟩, ⟨gh, gn⟩⟩⟩⟩⟩⟩⟩⟩⟩⟩⟩, u⟩ := x; obtain ⟨lo, lc, nco, ncc, nbo, nbc, eo, ec, rfl, _, _, _, _⟩ := h; exact ⟨_, _, _, _, _, _, _, _, _, _, _, _, _, _, _, _, _, _, _, _, _, _, _, _, rfl⟩
theorem nums_seg (num : Nat) (l : List Nat) : (if l = [] then [] else (rB num (eights l)).raw).length ≤ 20 + 8 * l.length := by
 split
 ·simp
 ·show (vput (8 * num + 2) ++ (vput (eights l).length ++ eights l)).length ≤ _
  have := vput_le10 (8 * num + 2); have := vput_le10 (eights l).length; have := eights_len l; simp only [List.length_append]; omega
def hi_may (d : Int) : Hi → Bool
 | ((_, (_, (_, ((ph, pn), (_, (_, (es, (l, (_, ((mh, mn), (gh, gn))))))))))), u) => decide (0 ≤ d) && (((ph || decide (pn = 0)) && (lmays exSb es d && (kmays l d && ((mh || decide (mn = 0)) && (gh || decide (gn = 0)))))) && munkOk hiF.tk u d)
def hi_out : Hi → List UInt8
 | ((a, (t, (k, ((ph, pn), (nc, (nb, (es, (l, (f, ((mh, mn), (gh, gn))))))))))), u) => (if a = 0 then [] else (rF 2 a).raw) ++ (if t = 0 then [] else (rF 3 t).raw) ++ (if k = 0 then [] else (rF 4 k).raw) ++ (if ph = true then (rF 5 pn).raw else []) ++ (if nc = [] then [] else (rB 6 (eights nc)).raw) ++ (if nb = [] then [] else (rB 7 (eights nb)).raw) ++ louts exSb 8 es ++ kouts 9 l ++ (if f = 0 then [] else (rN 10 f).raw) ++ (if mh = true then (rF 11 mn).raw else []) ++ (if gh = true then (rF 12 gn).raw else []) ++ u
def hi_fit : Hi → Prop
 | ((a, (t, (k, ((_, pn), (nc, (nb, (es, (l, (f, ((_, mn), (_, gn))))))))))), u) => a < 18446744073709551616 ∧ t < 18446744073709551616 ∧ k < 18446744073709551616 ∧ pn < 18446744073709551616 ∧ (∀ n ∈ nc, n < 18446744073709551616) ∧ (∀ n ∈ nb, n < 18446744073709551616) ∧ (∀ x ∈ es, ex_fit x) ∧ ksfit l ∧ f < 4294967296 ∧ mn < 18446744073709551616 ∧ gn < 18446744073709551616 ∧ 8 * nc.length + 8 * nb.length + lwt exSb es + ksw l + u.length ≤ 400000
theorem hi_mayF (d : Int) {a : Nat} {t : Nat} {k : Nat} {ph : Bool} {pn : Nat} {nc : List Nat} {nb : List Nat} {es : List Ex} {l : List KV} {f : Nat} {mh : Bool} {mn : Nat} {gh : Bool} {gn : Nat} {u : List UInt8} : hi_may d ((a, (t, (k, ((ph, pn), (nc, (nb, (es, (l, (f, ((mh, mn), (gh, gn))))))))))), u) = (decide (0 ≤ d) && (hiF.may d (a, (t, (k, ((ph, pn), (nc, (nb, (es, (l, (f, ((mh, mn), (gh, gn))))))))))) && munkOk hiF.tk u d)) := by
 have h : hiF.may d (a, (t, (k, ((ph, pn), (nc, (nb, (es, (l, (f, ((mh, mn), (gh, gn))))))))))) = ((ph || decide (pn = 0)) && (lmays exSb es d && (kmays l d && ((mh || decide (mn = 0)) && (gh || decide (gn = 0)))))) := by
  show (true && (true && (true && ((ph || decide (pn = 0)) && (true && (true && ((listF 8 exSb).may d es && ((listF 9 kvS).may d l && (true && ((mh || decide (mn = 0)) && (gh || decide (gn = 0)))))))))))) = _
  simp only [kvs_may, lst_may (S := exSb), Bool.true_and]
 rw [h]; rfl
theorem hi_twice {a : Nat} {t : Nat} {k : Nat} {ph : Bool} {pn : Nat} {nc : List Nat} {nb : List Nat} {es : List Ex} {l : List KV} {f : Nat} {mh : Bool} {mn : Nat} {gh : Bool} {gn : Nat} {u : List UInt8} {s : List UInt8} {d : Int} (hl : s.length ≤ 6000) (h : hird s d = .ok ((a, (t, (k, ((ph, pn), (nc, (nb, (es, (l, (f, ((mh, mn), (gh, gn))))))))))), u)) : hi_may d ((a, (t, (k, ((ph, pn), (nc, (nb, (es, (l, (f, ((mh, mn), (gh, gn))))))))))), u) = true ∧ hi_fit ((a, (t, (k, ((ph, pn), (nc, (nb, (es, (l, (f, ((mh, mn), (gh, gn))))))))))), u) := by
 obtain ⟨h0, h1, h2, h3, h4⟩ := fld_twice hiF_ok (s := (a, (t, (k, ((ph, pn), (nc, (nb, (es, (l, (f, ((mh, mn), (gh, gn)))))))))))) (by omega) h
 refine ⟨?_, ?_⟩
 ·rw [hi_mayF, h1, h2, decide_eq_true h0]; rfl
 ·have h5 : (0 + (0 + (0 + (0 + (8 * nc.length + (8 * nb.length + ((listF 8 exSb).wt es + ((listF 9 kvS).wt l + (0 + (0 + 0)))))))))) + u.length ≤ (0 + (0 + (0 + (0 + (0 + (0 + (0 + (0 + (0 + (0 + 0)))))))))) + 51 * s.length := h4
  rw [lst_wt, kvs_wt] at h5
  exact ⟨h3.1, h3.2.1, h3.2.2.1, h3.2.2.2.1, h3.2.2.2.2.1, h3.2.2.2.2.2.1, exs_fit h3.2.2.2.2.2.2.1 (by omega), kvs_fit h3.2.2.2.2.2.2.2.1, h3.2.2.2.2.2.2.2.2.1, h3.2.2.2.2.2.2.2.2.2.1, h3.2.2.2.2.2.2.2.2.2.2, by omega⟩
theorem hi_free : hiF.Free := ((numF_free _).and (((numF_free _).and (((numF_free _).and (((optF_free _).and (((numsF_free _).and (((numsF_free _).and (((lst_free _).and (((kvF_free _).and (((var32F_free _).and (((optF_free _).and (optF_free _))))))))))))))))))))
theorem hi_ap : (numF 2).Apart ((numF 3).and ((numF 4).and ((optF 5).and ((numsF 6).and ((numsF 7).and ((listF 8 exSb).and ((listF 9 kvS).and ((var32F 10).and ((optF 11).and (optF 12)))))))))) := apart_of fun r h => by
 simp only [numF, decide_eq_true_eq] at h
 simp only [Fld.and, numF, optF, numsF, var32F, listF, listTk, Bool.or_eq_false_iff, decide_eq_false_iff_not]
 omega
theorem hi_ap2 : (numF 3).Apart ((numF 4).and ((optF 5).and ((numsF 6).and ((numsF 7).and ((listF 8 exSb).and ((listF 9 kvS).and ((var32F 10).and ((optF 11).and (optF 12))))))))) := apart_of fun r h => by
 simp only [numF, decide_eq_true_eq] at h
 simp only [Fld.and, numF, optF, numsF, var32F, listF, listTk, Bool.or_eq_false_iff, decide_eq_false_iff_not]
 omega
theorem hi_ap22 : (numF 4).Apart ((optF 5).and ((numsF 6).and ((numsF 7).and ((listF 8 exSb).and ((listF 9 kvS).and ((var32F 10).and ((optF 11).and (optF 12)))))))) := apart_of fun r h => by
 simp only [numF, decide_eq_true_eq] at h
 simp only [Fld.and, optF, numsF, var32F, listF, listTk, Bool.or_eq_false_iff, decide_eq_false_iff_not]
 omega
theorem hi_ap222 : (optF 5).Apart ((numsF 6).and ((numsF 7).and ((listF 8 exSb).and ((listF 9 kvS).and ((var32F 10).and ((optF 11).and (optF 12))))))) := apart_of fun r h => by
 simp only [optF, decide_eq_true_eq] at h
 simp only [Fld.and, optF, numsF, var32F, listF, listTk, Bool.or_eq_false_iff, decide_eq_false_iff_not]
 omega
theorem hi_ap2222 : (numsF 6).Apart ((numsF 7).and ((listF 8 exSb).and ((listF 9 kvS).and ((var32F 10).and ((optF 11).and (optF 12)))))) := apart_of fun r h => by
 simp only [numsF, decide_eq_true_eq] at h
 simp only [Fld.and, optF, numsF, var32F, listF, listTk, Bool.or_eq_false_iff, decide_eq_false_iff_not]
 omega
theorem hi_ap22222 : (numsF 7).Apart ((listF 8 exSb).and ((listF 9 kvS).and ((var32F 10).and ((optF 11).and (optF 12))))) := apart_of fun r h => by
 simp only [numsF, decide_eq_true_eq] at h
 simp only [Fld.and, optF, var32F, listF, listTk, Bool.or_eq_false_iff, decide_eq_false_iff_not]
 omega
theorem hi_ap222222 : (listF 8 exSb).Apart ((listF 9 kvS).and ((var32F 10).and ((optF 11).and (optF 12)))) := apart_of fun r h => by
 simp only [listF, listTk, decide_eq_true_eq] at h
 simp only [Fld.and, optF, var32F, listF, listTk, Bool.or_eq_false_iff, decide_eq_false_iff_not]
 omega
theorem hi_ap2222222 : (listF 9 kvS).Apart ((var32F 10).and ((optF 11).and (optF 12))) := apart_of fun r h => by
 simp only [listF, listTk, decide_eq_true_eq] at h
 simp only [Fld.and, optF, var32F, Bool.or_eq_false_iff, decide_eq_false_iff_not]
 omega
theorem hi_join {s t u1 u2 : List UInt8} {a1 : Nat} {t1 : Nat} {k1 : Nat} {ph1 : Bool} {pn1 : Nat} {nc1 : List Nat} {nb1 : List Nat} {es1 : List Ex} {l1 : List KV} {f1 : Nat} {mh1 : Bool} {mn1 : Nat} {gh1 : Bool} {gn1 : Nat} {a2 : Nat} {t2 : Nat} {k2 : Nat} {ph2 : Bool} {pn2 : Nat} {nc2 : List Nat} {nb2 : List Nat} {es2 : List Ex} {l2 : List KV} {f2 : Nat} {mh2 : Bool} {mn2 : Nat} {gh2 : Bool} {gn2 : Nat} {d : Int} (h1 : hird s d = .ok ((a1, (t1, (k1, ((ph1, pn1), (nc1, (nb1, (es1, (l1, (f1, ((mh1, mn1), (gh1, gn1))))))))))), u1)) (h2 : hird t d = .ok ((a2, (t2, (k2, ((ph2, pn2), (nc2, (nb2, (es2, (l2, (f2, ((mh2, mn2), (gh2, gn2))))))))))), u2)) : ∃ a3 t3 k3 ph3 pn3 nc3 nb3 es3 l3 f3 mh3 mn3 gh3 gn3, hird (s ++ t) d = .ok ((a3, (t3, (k3, ((ph3, pn3), (nc3, (nb3, (es3, (l3, (f3, ((mh3, mn3), (gh3, gn3))))))))))), (u1 ++ u2)) ∧ (ph2 = false ∧ ph3 = ph1 ∨ ph2 = true ∧ ph3 = true ∧ pn3 = pn2) ∧ nc3.length = nc1.length + nc2.length ∧ nb3.length = nb1.length + nb2.length ∧ es3.length = es1.length + es2.length ∧ l3.length = l1.length + l2.length := by
 obtain ⟨⟨a3, ⟨t3, ⟨k3, ⟨⟨ph3, pn3⟩, ⟨nc3, ⟨nb3, ⟨es3, ⟨l3, ⟨f3, ⟨⟨mh3, mn3⟩, ⟨gh3, gn3⟩⟩⟩⟩⟩⟩⟩⟩⟩⟩⟩, rs, ts, h3, h4, h5, h6⟩ := fld_join hi_free h1 h2
 refine ⟨a3, t3, k3, ph3, pn3, nc3, nb3, es3, l3, f3, mh3, mn3, gh3, gn3, h3, ?_, ?_, ?_, ?_, ?_⟩
 ·rcases opt_join (Fld.and_fst hi_ap222 (Fld.and_fst hi_ap22 (Fld.and_fst hi_ap2 (Fld.and_fst hi_ap h4).2).2).2).1 (Fld.and_fst hi_ap222 (Fld.and_fst hi_ap22 (Fld.and_fst hi_ap2 (Fld.and_fst hi_ap h5).2).2).2).1 (Fld.and_fst hi_ap222 (Fld.and_fst hi_ap22 (Fld.and_fst hi_ap2 (Fld.and_fst hi_ap h6).2).2).2).1 with ⟨e1, e2⟩ | ⟨e1, e2⟩
  ·exact .inl ⟨e1, congrArg Prod.fst e2⟩
  ·exact .inr ⟨e1, (congrArg Prod.fst e2).trans e1, congrArg Prod.snd e2⟩
 ·have e1 := nums_join (Fld.and_fst hi_ap2222 (Fld.and_fst hi_ap222 (Fld.and_fst hi_ap22 (Fld.and_fst hi_ap2 (Fld.and_fst hi_ap h4).2).2).2).2).1 (Fld.and_fst hi_ap2222 (Fld.and_fst hi_ap222 (Fld.and_fst hi_ap22 (Fld.and_fst hi_ap2 (Fld.and_fst hi_ap h5).2).2).2).2).1 (Fld.and_fst hi_ap2222 (Fld.and_fst hi_ap222 (Fld.and_fst hi_ap22 (Fld.and_fst hi_ap2 (Fld.and_fst hi_ap h6).2).2).2).2).1
  rw [e1, List.length_append]
 ·have e1 := nums_join (Fld.and_fst hi_ap22222 (Fld.and_fst hi_ap2222 (Fld.and_fst hi_ap222 (Fld.and_fst hi_ap22 (Fld.and_fst hi_ap2 (Fld.and_fst hi_ap h4).2).2).2).2).2).1 (Fld.and_fst hi_ap22222 (Fld.and_fst hi_ap2222 (Fld.and_fst hi_ap222 (Fld.and_fst hi_ap22 (Fld.and_fst hi_ap2 (Fld.and_fst hi_ap h5).2).2).2).2).2).1 (Fld.and_fst hi_ap22222 (Fld.and_fst hi_ap2222 (Fld.and_fst hi_ap222 (Fld.and_fst hi_ap22 (Fld.and_fst hi_ap2 (Fld.and_fst hi_ap h6).2).2).2).2).2).1
  rw [e1, List.length_append]
 ·have e1 := lst_count (S := exSb) _ _ _ (Fld.and_fst hi_ap222222 (Fld.and_fst hi_ap22222 (Fld.and_fst hi_ap2222 (Fld.and_fst hi_ap222 (Fld.and_fst hi_ap22 (Fld.and_fst hi_ap2 (Fld.and_fst hi_ap h4).2).2).2).2).2).2).1
  have e2 := lst_count (S := exSb) _ _ _ (Fld.and_fst hi_ap222222 (Fld.and_fst hi_ap22222 (Fld.and_fst hi_ap2222 (Fld.and_fst hi_ap222 (Fld.and_fst hi_ap22 (Fld.and_fst hi_ap2 (Fld.and_fst hi_ap h5).2).2).2).2).2).2).1
  have e3 := lst_count (S := exSb) _ _ _ (Fld.and_fst hi_ap222222 (Fld.and_fst hi_ap22222 (Fld.and_fst hi_ap2222 (Fld.and_fst hi_ap222 (Fld.and_fst hi_ap22 (Fld.and_fst hi_ap2 (Fld.and_fst hi_ap h6).2).2).2).2).2).2).1
  rw [List.filter_append, List.length_append] at e3
  have z1 : ((listF 8 exSb).z : List Ex).length = 0 := rfl
  omega
 ·have e1 := kv_count _ _ _ (Fld.and_fst hi_ap2222222 (Fld.and_fst hi_ap222222 (Fld.and_fst hi_ap22222 (Fld.and_fst hi_ap2222 (Fld.and_fst hi_ap222 (Fld.and_fst hi_ap22 (Fld.and_fst hi_ap2 (Fld.and_fst hi_ap h4).2).2).2).2).2).2).2).1
  have e2 := kv_count _ _ _ (Fld.and_fst hi_ap2222222 (Fld.and_fst hi_ap222222 (Fld.and_fst hi_ap22222 (Fld.and_fst hi_ap2222 (Fld.and_fst hi_ap222 (Fld.and_fst hi_ap22 (Fld.and_fst hi_ap2 (Fld.and_fst hi_ap h5).2).2).2).2).2).2).2).1
  have e3 := kv_count _ _ _ (Fld.and_fst hi_ap2222222 (Fld.and_fst hi_ap222222 (Fld.and_fst hi_ap22222 (Fld.and_fst hi_ap2222 (Fld.and_fst hi_ap222 (Fld.and_fst hi_ap22 (Fld.and_fst hi_ap2 (Fld.and_fst hi_ap h6).2).2).2).2).2).2).2).1
  rw [List.filter_append, List.length_append] at e3
  have z1 : ((listF 9 kvS).z : List KV).length = 0 := rfl
  omega
end Go.Proofs.Ytjbingoliffjiaa
