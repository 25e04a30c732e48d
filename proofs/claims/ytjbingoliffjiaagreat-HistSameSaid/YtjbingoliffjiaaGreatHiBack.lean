/-
  HiBack, HiTakes
-/
import Derived.Test.YtjbingoliffjiaaGreatNumsK
import Derived.Test.YtjbingoliffjiaaGreatExSub
set_option maxRecDepth 1000000
set_option maxHeartbeats 16000000
namespace Go.Proofs.YtjbingoliffjiaaGreat
open Go.RowKit
def hiF : Fld := (numF 2).and ((numF 3).and ((numF 4).and ((optF 5).and ((numsF 6).and ((numsF 7).and ((listF 8 exSb).and ((listF 9 kvS).and ((var32F 10).and ((optF 11).and (optF 12))))))))))
theorem hiF_ok : hiF.Ok := (numF_ok (by omega) (by omega)).and ((numF_ok (by omega) (by omega)).and ((numF_ok (by omega) (by omega)).and ((optF_ok (by omega) (by omega)).and ((numsF_ok (by omega) (by omega)).and ((numsF_ok (by omega) (by omega)).and ((listF_ok exSb_ok (by omega) (by omega)).and ((listF_ok kvS_ok (by omega) (by omega)).and ((var32F_ok (by omega) (by omega)).and ((optF_ok (by omega) (by omega)).and (optF_ok (by omega) (by omega)) (apart_of fun r h => by simp only [optF, decide_eq_true_eq] at h; simp only [optF, decide_eq_false_iff_not]; omega)) (apart_of fun r h => by simp only [var32F, decide_eq_true_eq] at h; simp only [Fld.and, optF, Bool.or_eq_false_iff, decide_eq_false_iff_not]; omega)) (apart_of fun r h => by simp only [listF, listTk, decide_eq_true_eq] at h; simp only [Fld.and, optF, var32F, Bool.or_eq_false_iff, decide_eq_false_iff_not]; omega)) (apart_of fun r h => by simp only [listF, listTk, decide_eq_true_eq] at h; simp only [Fld.and, optF, var32F, listF, listTk, Bool.or_eq_false_iff, decide_eq_false_iff_not]; omega)) (apart_of fun r h => by simp only [numsF, decide_eq_true_eq] at h; simp only [Fld.and, optF, var32F, listF, listTk, Bool.or_eq_false_iff, decide_eq_false_iff_not]; omega)) (apart_of fun r h => by simp only [numsF, decide_eq_true_eq] at h; simp only [Fld.and, optF, numsF, var32F, listF, listTk, Bool.or_eq_false_iff, decide_eq_false_iff_not]; omega)) (apart_of fun r h => by simp only [optF, decide_eq_true_eq] at h; simp only [Fld.and, optF, numsF, var32F, listF, listTk, Bool.or_eq_false_iff, decide_eq_false_iff_not]; omega)) (apart_of fun r h => by simp only [numF, decide_eq_true_eq] at h; simp only [Fld.and, optF, numsF, var32F, listF, listTk, Bool.or_eq_false_iff, decide_eq_false_iff_not]; omega)) (apart_of fun r h => by simp only [numF, decide_eq_true_eq] at h; simp only [Fld.and, numF, optF, numsF, var32F, listF, listTk, Bool.or_eq_false_iff, decide_eq_false_iff_not]; omega)) (apart_of fun r h => by simp only [numF, decide_eq_true_eq] at h; simp only [Fld.and, numF, optF, numsF, var32F, listF, listTk, Bool.or_eq_false_iff, decide_eq_false_iff_not]; omega)
theorem hiF_tk (r : Rec) : hiF.tk r = decide ((r.num = 2 ∧ r.ty = 1) ∨ ((r.num = 3 ∧ r.ty = 1) ∨ ((r.num = 4 ∧ r.ty = 1) ∨ ((r.num = 5 ∧ r.ty = 1) ∨ ((r.num = 6 ∧ (r.ty = 1 ∨ r.ty = 2)) ∨ ((r.num = 7 ∧ (r.ty = 1 ∨ r.ty = 2)) ∨ ((r.num = 8 ∧ r.ty = 2) ∨ ((r.num = 9 ∧ r.ty = 2) ∨ ((r.num = 10 ∧ r.ty = 0) ∨ ((r.num = 11 ∧ r.ty = 1) ∨ (r.num = 12 ∧ r.ty = 1))))))))))) := by
 rw [Bool.eq_iff_iff]
 simp only [hiF, Fld.and, numF, optF, numsF, var32F, listF, listTk, Bool.or_eq_true, decide_eq_true_eq]
theorem hiF_2 {r : Rec} (h : r.num = 2 ∧ r.ty = 1) (d : Int) (a : Nat) (t : Nat) (k : Nat) (ph : Bool) (pn : Nat) (nc : List Nat) (nb : List Nat) (es : List Ex) (l : List KV) (f : Nat) (mh : Bool) (mn : Nat) (gh : Bool) (gn : Nat) : hiF.step d (a, (t, (k, ((ph, pn), (nc, (nb, (es, (l, (f, ((mh, mn), (gh, gn))))))))))) r = .ok (r.n, (t, (k, ((ph, pn), (nc, (nb, (es, (l, (f, ((mh, mn), (gh, gn))))))))))) :=
 (Fld.and_1ok (by simp only [numF, decide_eq_true_eq]; omega) rfl)
theorem hiF_3 {r : Rec} (h : r.num = 3 ∧ r.ty = 1) (d : Int) (a : Nat) (t : Nat) (k : Nat) (ph : Bool) (pn : Nat) (nc : List Nat) (nb : List Nat) (es : List Ex) (l : List KV) (f : Nat) (mh : Bool) (mn : Nat) (gh : Bool) (gn : Nat) : hiF.step d (a, (t, (k, ((ph, pn), (nc, (nb, (es, (l, (f, ((mh, mn), (gh, gn))))))))))) r = .ok (a, (r.n, (k, ((ph, pn), (nc, (nb, (es, (l, (f, ((mh, mn), (gh, gn))))))))))) :=
 (Fld.and_2ok (by simp only [numF, decide_eq_false_iff_not]; omega) (Fld.and_1ok (by simp only [numF, decide_eq_true_eq]; omega) rfl))
theorem hiF_4 {r : Rec} (h : r.num = 4 ∧ r.ty = 1) (d : Int) (a : Nat) (t : Nat) (k : Nat) (ph : Bool) (pn : Nat) (nc : List Nat) (nb : List Nat) (es : List Ex) (l : List KV) (f : Nat) (mh : Bool) (mn : Nat) (gh : Bool) (gn : Nat) : hiF.step d (a, (t, (k, ((ph, pn), (nc, (nb, (es, (l, (f, ((mh, mn), (gh, gn))))))))))) r = .ok (a, (t, (r.n, ((ph, pn), (nc, (nb, (es, (l, (f, ((mh, mn), (gh, gn))))))))))) :=
 (Fld.and_2ok (by simp only [numF, decide_eq_false_iff_not]; omega) (Fld.and_2ok (by simp only [numF, decide_eq_false_iff_not]; omega) (Fld.and_1ok (by simp only [numF, decide_eq_true_eq]; omega) rfl)))
theorem hiF_5 {r : Rec} (h : r.num = 5 ∧ r.ty = 1) (d : Int) (a : Nat) (t : Nat) (k : Nat) (ph : Bool) (pn : Nat) (nc : List Nat) (nb : List Nat) (es : List Ex) (l : List KV) (f : Nat) (mh : Bool) (mn : Nat) (gh : Bool) (gn : Nat) : hiF.step d (a, (t, (k, ((ph, pn), (nc, (nb, (es, (l, (f, ((mh, mn), (gh, gn))))))))))) r = .ok (a, (t, (k, ((true, r.n), (nc, (nb, (es, (l, (f, ((mh, mn), (gh, gn))))))))))) :=
 (Fld.and_2ok (by simp only [numF, decide_eq_false_iff_not]; omega) (Fld.and_2ok (by simp only [numF, decide_eq_false_iff_not]; omega) (Fld.and_2ok (by simp only [numF, decide_eq_false_iff_not]; omega) (Fld.and_1ok (by simp only [optF, decide_eq_true_eq]; omega) rfl))))
theorem hiF_6 {r : Rec} (h : r.num = 6 ∧ (r.ty = 1 ∨ r.ty = 2)) (d : Int) (a : Nat) (t : Nat) (k : Nat) (ph : Bool) (pn : Nat) (nc : List Nat) (nb : List Nat) (es : List Ex) (l : List KV) (f : Nat) (mh : Bool) (mn : Nat) (gh : Bool) (gn : Nat) : hiF.step d (a, (t, (k, ((ph, pn), (nc, (nb, (es, (l, (f, ((mh, mn), (gh, gn))))))))))) r = match fstep nc r with
  | .error c => .error c
  | .ok x => .ok (a, (t, (k, ((ph, pn), (x, (nb, (es, (l, (f, ((mh, mn), (gh, gn))))))))))) := by
 cases e : fstep nc r with
 | error c => exact (Fld.and_2no (by simp only [numF, decide_eq_false_iff_not]; omega) (Fld.and_2no (by simp only [numF, decide_eq_false_iff_not]; omega) (Fld.and_2no (by simp only [numF, decide_eq_false_iff_not]; omega) (Fld.and_2no (by simp only [optF, decide_eq_false_iff_not]; omega) (Fld.and_1no (by simp only [numsF, decide_eq_true_eq]; omega) (show (numsF 6).step d nc r = .error c from e))))))
 | ok x => exact (Fld.and_2ok (by simp only [numF, decide_eq_false_iff_not]; omega) (Fld.and_2ok (by simp only [numF, decide_eq_false_iff_not]; omega) (Fld.and_2ok (by simp only [numF, decide_eq_false_iff_not]; omega) (Fld.and_2ok (by simp only [optF, decide_eq_false_iff_not]; omega) (Fld.and_1ok (by simp only [numsF, decide_eq_true_eq]; omega) (show (numsF 6).step d nc r = .ok x from e))))))
theorem hiF_7 {r : Rec} (h : r.num = 7 ∧ (r.ty = 1 ∨ r.ty = 2)) (d : Int) (a : Nat) (t : Nat) (k : Nat) (ph : Bool) (pn : Nat) (nc : List Nat) (nb : List Nat) (es : List Ex) (l : List KV) (f : Nat) (mh : Bool) (mn : Nat) (gh : Bool) (gn : Nat) : hiF.step d (a, (t, (k, ((ph, pn), (nc, (nb, (es, (l, (f, ((mh, mn), (gh, gn))))))))))) r = match fstep nb r with
  | .error c => .error c
  | .ok x => .ok (a, (t, (k, ((ph, pn), (nc, (x, (es, (l, (f, ((mh, mn), (gh, gn))))))))))) := by
 cases e : fstep nb r with
 | error c => exact (Fld.and_2no (by simp only [numF, decide_eq_false_iff_not]; omega) (Fld.and_2no (by simp only [numF, decide_eq_false_iff_not]; omega) (Fld.and_2no (by simp only [numF, decide_eq_false_iff_not]; omega) (Fld.and_2no (by simp only [optF, decide_eq_false_iff_not]; omega) (Fld.and_2no (by simp only [numsF, decide_eq_false_iff_not]; omega) (Fld.and_1no (by simp only [numsF, decide_eq_true_eq]; omega) (show (numsF 7).step d nb r = .error c from e)))))))
 | ok x => exact (Fld.and_2ok (by simp only [numF, decide_eq_false_iff_not]; omega) (Fld.and_2ok (by simp only [numF, decide_eq_false_iff_not]; omega) (Fld.and_2ok (by simp only [numF, decide_eq_false_iff_not]; omega) (Fld.and_2ok (by simp only [optF, decide_eq_false_iff_not]; omega) (Fld.and_2ok (by simp only [numsF, decide_eq_false_iff_not]; omega) (Fld.and_1ok (by simp only [numsF, decide_eq_true_eq]; omega) (show (numsF 7).step d nb r = .ok x from e)))))))
theorem hiF_8 {r : Rec} (h : r.num = 8 ∧ r.ty = 2) (d : Int) (a : Nat) (t : Nat) (k : Nat) (ph : Bool) (pn : Nat) (nc : List Nat) (nb : List Nat) (es : List Ex) (l : List KV) (f : Nat) (mh : Bool) (mn : Nat) (gh : Bool) (gn : Nat) : hiF.step d (a, (t, (k, ((ph, pn), (nc, (nb, (es, (l, (f, ((mh, mn), (gh, gn))))))))))) r = match exrd r.s (d - 1) with
  | .error c => .error c
  | .ok x => .ok (a, (t, (k, ((ph, pn), (nc, (nb, (es ++ [x], (l, (f, ((mh, mn), (gh, gn))))))))))) := by
 cases e : exrd r.s (d - 1) with
 | error c => exact (Fld.and_2no (by simp only [numF, decide_eq_false_iff_not]; omega) (Fld.and_2no (by simp only [numF, decide_eq_false_iff_not]; omega) (Fld.and_2no (by simp only [numF, decide_eq_false_iff_not]; omega) (Fld.and_2no (by simp only [optF, decide_eq_false_iff_not]; omega) (Fld.and_2no (by simp only [numsF, decide_eq_false_iff_not]; omega) (Fld.and_2no (by simp only [numsF, decide_eq_false_iff_not]; omega) (Fld.and_1no (by simp only [listF, listTk, decide_eq_true_eq]; omega) (lst_no (S := exSb) e))))))))
 | ok x => exact (Fld.and_2ok (by simp only [numF, decide_eq_false_iff_not]; omega) (Fld.and_2ok (by simp only [numF, decide_eq_false_iff_not]; omega) (Fld.and_2ok (by simp only [numF, decide_eq_false_iff_not]; omega) (Fld.and_2ok (by simp only [optF, decide_eq_false_iff_not]; omega) (Fld.and_2ok (by simp only [numsF, decide_eq_false_iff_not]; omega) (Fld.and_2ok (by simp only [numsF, decide_eq_false_iff_not]; omega) (Fld.and_1ok (by simp only [listF, listTk, decide_eq_true_eq]; omega) (lst_ok (S := exSb) e))))))))
theorem hiF_9 {r : Rec} (h : r.num = 9 ∧ r.ty = 2) (d : Int) (a : Nat) (t : Nat) (k : Nat) (ph : Bool) (pn : Nat) (nc : List Nat) (nb : List Nat) (es : List Ex) (l : List KV) (f : Nat) (mh : Bool) (mn : Nat) (gh : Bool) (gn : Nat) : hiF.step d (a, (t, (k, ((ph, pn), (nc, (nb, (es, (l, (f, ((mh, mn), (gh, gn))))))))))) r = match kread 1000001 r.s (d - 1) with
  | .error c => .error c
  | .ok x => .ok (a, (t, (k, ((ph, pn), (nc, (nb, (es, (l ++ [x], (f, ((mh, mn), (gh, gn))))))))))) := by
 cases e : kread 1000001 r.s (d - 1) with
 | error c => exact (Fld.and_2no (by simp only [numF, decide_eq_false_iff_not]; omega) (Fld.and_2no (by simp only [numF, decide_eq_false_iff_not]; omega) (Fld.and_2no (by simp only [numF, decide_eq_false_iff_not]; omega) (Fld.and_2no (by simp only [optF, decide_eq_false_iff_not]; omega) (Fld.and_2no (by simp only [numsF, decide_eq_false_iff_not]; omega) (Fld.and_2no (by simp only [numsF, decide_eq_false_iff_not]; omega) (Fld.and_2no (by simp only [listF, listTk, decide_eq_false_iff_not]; omega) (Fld.and_1no (by simp only [listF, listTk, decide_eq_true_eq]; omega) (kv_no e)))))))))
 | ok x => exact (Fld.and_2ok (by simp only [numF, decide_eq_false_iff_not]; omega) (Fld.and_2ok (by simp only [numF, decide_eq_false_iff_not]; omega) (Fld.and_2ok (by simp only [numF, decide_eq_false_iff_not]; omega) (Fld.and_2ok (by simp only [optF, decide_eq_false_iff_not]; omega) (Fld.and_2ok (by simp only [numsF, decide_eq_false_iff_not]; omega) (Fld.and_2ok (by simp only [numsF, decide_eq_false_iff_not]; omega) (Fld.and_2ok (by simp only [listF, listTk, decide_eq_false_iff_not]; omega) (Fld.and_1ok (by simp only [listF, listTk, decide_eq_true_eq]; omega) (kv_ok e)))))))))
theorem hiF_10 {r : Rec} (h : r.num = 10 ∧ r.ty = 0) (d : Int) (a : Nat) (t : Nat) (k : Nat) (ph : Bool) (pn : Nat) (nc : List Nat) (nb : List Nat) (es : List Ex) (l : List KV) (f : Nat) (mh : Bool) (mn : Nat) (gh : Bool) (gn : Nat) : hiF.step d (a, (t, (k, ((ph, pn), (nc, (nb, (es, (l, (f, ((mh, mn), (gh, gn))))))))))) r = .ok (a, (t, (k, ((ph, pn), (nc, (nb, (es, (l, (r.n % 4294967296, ((mh, mn), (gh, gn))))))))))) :=
 (Fld.and_2ok (by simp only [numF, decide_eq_false_iff_not]; omega) (Fld.and_2ok (by simp only [numF, decide_eq_false_iff_not]; omega) (Fld.and_2ok (by simp only [numF, decide_eq_false_iff_not]; omega) (Fld.and_2ok (by simp only [optF, decide_eq_false_iff_not]; omega) (Fld.and_2ok (by simp only [numsF, decide_eq_false_iff_not]; omega) (Fld.and_2ok (by simp only [numsF, decide_eq_false_iff_not]; omega) (Fld.and_2ok (by simp only [listF, listTk, decide_eq_false_iff_not]; omega) (Fld.and_2ok (by simp only [listF, listTk, decide_eq_false_iff_not]; omega) (Fld.and_1ok (by simp only [var32F, decide_eq_true_eq]; omega) rfl)))))))))
theorem hiF_11 {r : Rec} (h : r.num = 11 ∧ r.ty = 1) (d : Int) (a : Nat) (t : Nat) (k : Nat) (ph : Bool) (pn : Nat) (nc : List Nat) (nb : List Nat) (es : List Ex) (l : List KV) (f : Nat) (mh : Bool) (mn : Nat) (gh : Bool) (gn : Nat) : hiF.step d (a, (t, (k, ((ph, pn), (nc, (nb, (es, (l, (f, ((mh, mn), (gh, gn))))))))))) r = .ok (a, (t, (k, ((ph, pn), (nc, (nb, (es, (l, (f, ((true, r.n), (gh, gn))))))))))) :=
 (Fld.and_2ok (by simp only [numF, decide_eq_false_iff_not]; omega) (Fld.and_2ok (by simp only [numF, decide_eq_false_iff_not]; omega) (Fld.and_2ok (by simp only [numF, decide_eq_false_iff_not]; omega) (Fld.and_2ok (by simp only [optF, decide_eq_false_iff_not]; omega) (Fld.and_2ok (by simp only [numsF, decide_eq_false_iff_not]; omega) (Fld.and_2ok (by simp only [numsF, decide_eq_false_iff_not]; omega) (Fld.and_2ok (by simp only [listF, listTk, decide_eq_false_iff_not]; omega) (Fld.and_2ok (by simp only [listF, listTk, decide_eq_false_iff_not]; omega) (Fld.and_2ok (by simp only [var32F, decide_eq_false_iff_not]; omega) (Fld.and_1ok (by simp only [optF, decide_eq_true_eq]; omega) rfl))))))))))
theorem hiF_12 {r : Rec} (h : r.num = 12 ∧ r.ty = 1) (d : Int) (a : Nat) (t : Nat) (k : Nat) (ph : Bool) (pn : Nat) (nc : List Nat) (nb : List Nat) (es : List Ex) (l : List KV) (f : Nat) (mh : Bool) (mn : Nat) (gh : Bool) (gn : Nat) : hiF.step d (a, (t, (k, ((ph, pn), (nc, (nb, (es, (l, (f, ((mh, mn), (gh, gn))))))))))) r = .ok (a, (t, (k, ((ph, pn), (nc, (nb, (es, (l, (f, ((mh, mn), (true, r.n))))))))))) :=
 (Fld.and_2ok (by simp only [numF, decide_eq_false_iff_not]; omega) (Fld.and_2ok (by simp only [numF, decide_eq_false_iff_not]; omega) (Fld.and_2ok (by simp only [numF, decide_eq_false_iff_not]; omega) (Fld.and_2ok (by simp only [optF, decide_eq_false_iff_not]; omega) (Fld.and_2ok (by simp only [numsF, decide_eq_false_iff_not]; omega) (Fld.and_2ok (by simp only [numsF, decide_eq_false_iff_not]; omega) (Fld.and_2ok (by simp only [listF, listTk, decide_eq_false_iff_not]; omega) (Fld.and_2ok (by simp only [listF, listTk, decide_eq_false_iff_not]; omega) (Fld.and_2ok (by simp only [var32F, decide_eq_false_iff_not]; omega) (Fld.and_2ok (by simp only [optF, decide_eq_false_iff_not]; omega) rfl))))))))))
abbrev Hi : Type := (Nat × Nat × Nat × (Bool × Nat) × List Nat × List Nat × List Ex × List KV × Nat × (Bool × Nat) × Bool × Nat) × List UInt8
def HiRel (w : World) (P : Nat → Prop) : Hi → List Value → Prop
 | ((a, (t, (k, ((ph, pn), (nc, (nb, (es, (l, (f, ((mh, mn), (gh, gn))))))))))), u), cs => ∃ (lo : Option Addr) (lc : Nat) (nco : Option Addr) (ncc : Nat) (nbo : Option Addr) (nbc : Nat) (eo : Option Addr) (ec : Nat), cs = [.slice lo l.length lc, .int .u64 (a : Int), .int .u64 (t : Int), .int .u64 (k : Int), .bool ph, .int .u64 (pn : Int), .bool mh, .int .u64 (mn : Int), .bool gh, .int .u64 (gn : Int), .slice nco nc.length ncc, .slice nbo nb.length nbc, .slice eo es.length ec, .int .u32 (f : Int), strV u] ∧ KRels w P l lo 0 ∧ CRels natCel w P nc nco ∧ CRels natCel w P nb nbo ∧ CRels exCel w P es eo
def hiCel : Cel Hi where
 R := HiRel
 size := 15
 len := by rintro w P ⟨⟨a, ⟨t, ⟨k, ⟨⟨ph, pn⟩, ⟨nc, ⟨nb, ⟨es, ⟨l, ⟨f, ⟨⟨mh, mn⟩, ⟨gh, gn⟩⟩⟩⟩⟩⟩⟩⟩⟩⟩⟩, u⟩ cs ⟨lo, lc, nco, ncc, nbo, nbc, eo, ec, rfl, _, _, _, _⟩; rfl
 upd := by rintro w w' S P Q ⟨⟨a, ⟨t, ⟨k, ⟨⟨ph, pn⟩, ⟨nc, ⟨nb, ⟨es, ⟨l, ⟨f, ⟨⟨mh, mn⟩, ⟨gh, gn⟩⟩⟩⟩⟩⟩⟩⟩⟩⟩⟩, u⟩ cs hu hs hq ⟨lo, lc, nco, ncc, nbo, nbc, eo, ec, h, h0, h1, h2, h3⟩; exact ⟨lo, lc, nco, ncc, nbo, nbc, eo, ec, h, KRels.upd hu hs hq _ _ _ h0, CRels.upd hu hs hq h1, CRels.upd hu hs hq h2, CRels.upd hu hs hq h3⟩
 lt := by rintro w P ⟨⟨a, ⟨t, ⟨k, ⟨⟨ph, pn⟩, ⟨nc, ⟨nb, ⟨es, ⟨l, ⟨f, ⟨⟨mh, mn⟩, ⟨gh, gn⟩⟩⟩⟩⟩⟩⟩⟩⟩⟩⟩, u⟩ cs ⟨lo, lc, nco, ncc, nbo, nbc, eo, ec, h, h0, h1, h2, h3⟩; exact ⟨lo, lc, nco, ncc, nbo, nbc, eo, ec, h, KRels.lt _ _ _ h0, CRels.lt h1, CRels.lt h2, CRels.lt h3⟩
def hizero : Array Value := #[.slice none 0 0, .int .u64 0, .int .u64 0, .int .u64 0, .bool false, .int .u64 0, .bool false, .int .u64 0, .bool false, .int .u64 0, .slice none 0 0, .slice none 0 0, .slice none 0 0, .int .u32 0, .string ⟨#[]⟩]
def hird (l : List UInt8) (d : Int) : Except Nat Hi := mread (σ := Nat × Nat × Nat × (Bool × Nat) × List Nat × List Nat × List Ex × List KV × Nat × (Bool × Nat) × Bool × Nat) hiF.tk (hiF.step d) hiF.z l d
def hi_may (d : Int) : Hi → Bool
 | ((_, (_, (_, ((ph, pn), (_, (_, (es, (l, (_, ((mh, mn), (gh, gn))))))))))), u) => decide (0 ≤ d) && (((ph || decide (pn = 0)) && (lmays exSb es d && (kmays l d && ((mh || decide (mn = 0)) && (gh || decide (gn = 0)))))) && munkOk hiF.tk u d)
def hi_out : Hi → List UInt8
 | ((a, (t, (k, ((ph, pn), (nc, (nb, (es, (l, (f, ((mh, mn), (gh, gn))))))))))), u) => (if a = 0 then [] else (rF 2 a).raw) ++ (if t = 0 then [] else (rF 3 t).raw) ++ (if k = 0 then [] else (rF 4 k).raw) ++ (if ph = true then (rF 5 pn).raw else []) ++ (if nc = [] then [] else (rB 6 (eights nc)).raw) ++ (if nb = [] then [] else (rB 7 (eights nb)).raw) ++ louts exSb 8 es ++ kouts 9 l ++ (if f = 0 then [] else (rN 10 f).raw) ++ (if mh = true then (rF 11 mn).raw else []) ++ (if gh = true then (rF 12 gn).raw else []) ++ u
def hi_wt : Hi → Nat
 | ((_, (_, (_, ((_, _), (nc, (nb, (es, (l, (_, ((_, _), (_, _))))))))))), u) => 60 + (8 * nc.length + 8 * nb.length + lwt exSb es + ksw l + u.length)
def hi_fit : Hi → Prop
 | ((a, (t, (k, ((_, pn), (nc, (nb, (es, (l, (f, ((_, mn), (_, gn))))))))))), u) => a < 18446744073709551616 ∧ t < 18446744073709551616 ∧ k < 18446744073709551616 ∧ pn < 18446744073709551616 ∧ (∀ n ∈ nc, n < 18446744073709551616) ∧ (∀ n ∈ nb, n < 18446744073709551616) ∧ (∀ x ∈ es, ex_fit x) ∧ ksfit l ∧ f < 4294967296 ∧ mn < 18446744073709551616 ∧ gn < 18446744073709551616 ∧ 8 * nc.length + 8 * nb.length + lwt exSb es + ksw l + u.length ≤ 400000
def hi_arg : Hi → Prop
 | ((a, (t, (k, ((_, pn), (nc, (nb, (es, (l, (f, ((_, mn), (_, gn))))))))))), u) => a < 18446744073709551616 ∧ t < 18446744073709551616 ∧ k < 18446744073709551616 ∧ pn < 18446744073709551616 ∧ (∀ n ∈ nc, n < 18446744073709551616) ∧ nc.length ≤ 9223372036854775807 ∧ (∀ n ∈ nb, n < 18446744073709551616) ∧ nb.length ≤ 9223372036854775807 ∧ (∀ x ∈ es, ex_arg x) ∧ es.length ≤ 9223372036854775807 ∧ ksfit l ∧ kslim l ∧ l.length ≤ 9223372036854775807 ∧ f < 4294967296 ∧ mn < 18446744073709551616 ∧ gn < 18446744073709551616 ∧ u.length ≤ 9223372036854775807
open Go.RowKit
theorem hitakes_any (r : Rec) (w : World) : Calls Tryz.prog 37 #[.int .i64 (r.num : Int), .int .i64 (r.ty : Int)] w fun e w' => e = .returned (.bool (hiF.tk r)) ∧ w = w' := by
 obtain ⟨num, ty, n, s, raw⟩ := r
 have hq := hiF_tk ⟨num, ty, n, s, raw⟩
 dsimp only at hq
 obtain ⟨q, hqe⟩ : ∃ q, hiF.tk ⟨num, ty, n, s, raw⟩ = q := ⟨_, rfl⟩
 rw [hqe] at hq ⊢
 clear hqe
 by_cases h2 : num = 2
 ·subst h2
  have hb : Hid (q = ((ty : Int) == (1 : Int))) := Lib.hid (by rw [show ((1 : Int)) = ((1 : Nat) : Int) from rfl, ibeq, hq]; exact decide_eq_decide.2 (by omega))
  clear hq
  go_enter Tryz.func37, Tryz.ntmps37
  go_wp2_with fail
  go_ret
  exact ⟨by rw [hb.out]; rfl, rfl⟩
 by_cases h3 : num = 3
 ·subst h3
  have hb : Hid (q = ((ty : Int) == (1 : Int))) := Lib.hid (by rw [show ((1 : Int)) = ((1 : Nat) : Int) from rfl, ibeq, hq]; exact decide_eq_decide.2 (by omega))
  clear hq
  go_enter Tryz.func37, Tryz.ntmps37
  go_wp2_with fail
  go_ret
  exact ⟨by rw [hb.out]; rfl, rfl⟩
 by_cases h4 : num = 4
 ·subst h4
  have hb : Hid (q = ((ty : Int) == (1 : Int))) := Lib.hid (by rw [show ((1 : Int)) = ((1 : Nat) : Int) from rfl, ibeq, hq]; exact decide_eq_decide.2 (by omega))
  clear hq
  go_enter Tryz.func37, Tryz.ntmps37
  go_wp2_with fail
  go_ret
  exact ⟨by rw [hb.out]; rfl, rfl⟩
 by_cases h5 : num = 5
 ·subst h5
  have hb : Hid (q = ((ty : Int) == (1 : Int))) := Lib.hid (by rw [show ((1 : Int)) = ((1 : Nat) : Int) from rfl, ibeq, hq]; exact decide_eq_decide.2 (by omega))
  clear hq
  go_enter Tryz.func37, Tryz.ntmps37
  go_wp2_with fail
  go_ret
  exact ⟨by rw [hb.out]; rfl, rfl⟩
 by_cases h6 : num = 6
 ·subst h6
  by_cases h2t : ty = 2
  ·have hb : Hid (q = true) := Lib.hid (by rw [hq]; exact decide_eq_true (by omega))
   have dt : ((ty : Int) == 2) = true := by rw [beq_iff_eq]; omega
   clear hq
   go_enter Tryz.func37, Tryz.ntmps37
   go_wp2_with fail
   go_ret
   exact ⟨by rw [hb.out]; rfl, rfl⟩
  ·have hb : Hid (q = ((ty : Int) == (1 : Int))) := Lib.hid (by rw [show ((1 : Int)) = ((1 : Nat) : Int) from rfl, ibeq, hq]; exact decide_eq_decide.2 (by omega))
   have dt : ((ty : Int) == 2) = false := by rw [beq_eq_false_iff_ne]; omega
   clear hq h2t
   go_enter Tryz.func37, Tryz.ntmps37
   go_wp2_with fail
   go_ret
   exact ⟨by rw [hb.out]; rfl, rfl⟩
 by_cases h7 : num = 7
 ·subst h7
  by_cases h2t : ty = 2
  ·have hb : Hid (q = true) := Lib.hid (by rw [hq]; exact decide_eq_true (by omega))
   have dt : ((ty : Int) == 2) = true := by rw [beq_iff_eq]; omega
   clear hq
   go_enter Tryz.func37, Tryz.ntmps37
   go_wp2_with fail
   go_ret
   exact ⟨by rw [hb.out]; rfl, rfl⟩
  ·have hb : Hid (q = ((ty : Int) == (1 : Int))) := Lib.hid (by rw [show ((1 : Int)) = ((1 : Nat) : Int) from rfl, ibeq, hq]; exact decide_eq_decide.2 (by omega))
   have dt : ((ty : Int) == 2) = false := by rw [beq_eq_false_iff_ne]; omega
   clear hq h2t
   go_enter Tryz.func37, Tryz.ntmps37
   go_wp2_with fail
   go_ret
   exact ⟨by rw [hb.out]; rfl, rfl⟩
 by_cases h8 : num = 8
 ·subst h8
  have hb : Hid (q = ((ty : Int) == (2 : Int))) := Lib.hid (by rw [show ((2 : Int)) = ((2 : Nat) : Int) from rfl, ibeq, hq]; exact decide_eq_decide.2 (by omega))
  clear hq
  go_enter Tryz.func37, Tryz.ntmps37
  go_wp2_with fail
  go_ret
  exact ⟨by rw [hb.out]; rfl, rfl⟩
 by_cases h9 : num = 9
 ·subst h9
  have hb : Hid (q = ((ty : Int) == (2 : Int))) := Lib.hid (by rw [show ((2 : Int)) = ((2 : Nat) : Int) from rfl, ibeq, hq]; exact decide_eq_decide.2 (by omega))
  clear hq
  go_enter Tryz.func37, Tryz.ntmps37
  go_wp2_with fail
  go_ret
  exact ⟨by rw [hb.out]; rfl, rfl⟩
 by_cases h10 : num = 10
 ·subst h10
  have hb : Hid (q = ((ty : Int) == (0 : Int))) := Lib.hid (by rw [show ((0 : Int)) = ((0 : Nat) : Int) from rfl, ibeq, hq]; exact decide_eq_decide.2 (by omega))
  clear hq
  go_enter Tryz.func37, Tryz.ntmps37
  go_wp2_with fail
  go_ret
  exact ⟨by rw [hb.out]; rfl, rfl⟩
 by_cases h11 : num = 11
 ·subst h11
  have hb : Hid (q = ((ty : Int) == (1 : Int))) := Lib.hid (by rw [show ((1 : Int)) = ((1 : Nat) : Int) from rfl, ibeq, hq]; exact decide_eq_decide.2 (by omega))
  clear hq
  go_enter Tryz.func37, Tryz.ntmps37
  go_wp2_with fail
  go_ret
  exact ⟨by rw [hb.out]; rfl, rfl⟩
 by_cases h12 : num = 12
 ·subst h12
  have hb : Hid (q = ((ty : Int) == (1 : Int))) := Lib.hid (by rw [show ((1 : Int)) = ((1 : Nat) : Int) from rfl, ibeq, hq]; exact decide_eq_decide.2 (by omega))
  clear hq
  go_enter Tryz.func37, Tryz.ntmps37
  go_wp2_with fail
  go_ret
  exact ⟨by rw [hb.out]; rfl, rfl⟩
 have d2 : ((num : Int) == (2 : Int)) = false := by rw [beq_eq_false_iff_ne]; omega
 have d3 : ((num : Int) == (3 : Int)) = false := by rw [beq_eq_false_iff_ne]; omega
 have d4 : ((num : Int) == (4 : Int)) = false := by rw [beq_eq_false_iff_ne]; omega
 have d5 : ((num : Int) == (5 : Int)) = false := by rw [beq_eq_false_iff_ne]; omega
 have d6 : ((num : Int) == (6 : Int)) = false := by rw [beq_eq_false_iff_ne]; omega
 have d7 : ((num : Int) == (7 : Int)) = false := by rw [beq_eq_false_iff_ne]; omega
 have d8 : ((num : Int) == (8 : Int)) = false := by rw [beq_eq_false_iff_ne]; omega
 have d9 : ((num : Int) == (9 : Int)) = false := by rw [beq_eq_false_iff_ne]; omega
 have d10 : ((num : Int) == (10 : Int)) = false := by rw [beq_eq_false_iff_ne]; omega
 have d11 : ((num : Int) == (11 : Int)) = false := by rw [beq_eq_false_iff_ne]; omega
 have d12 : ((num : Int) == (12 : Int)) = false := by rw [beq_eq_false_iff_ne]; omega
 have hb : Hid (q = false) := Lib.hid (by rw [hq]; exact decide_eq_false (by omega))
 clear h2 h3 h4 h5 h6 h7 h8 h9 h10 h11 h12 hq
 go_enter Tryz.func37, Tryz.ntmps37
 go_wp2_with fail
 go_ret
 exact ⟨by rw [hb.out]; rfl, rfl⟩
end Go.Proofs.YtjbingoliffjiaaGreat
