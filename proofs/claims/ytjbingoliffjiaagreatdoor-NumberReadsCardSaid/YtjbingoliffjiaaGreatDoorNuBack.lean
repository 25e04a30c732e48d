/-
  Points of gauges and sums: by their fields; in memory; there and back; joined.
-/
import Derived.Test.YtjbingoliffjiaaGreatDoorExSub
set_option maxRecDepth 1000000
set_option maxHeartbeats 16000000
namespace Go.Proofs.YtjbingoliffjiaaGreatDoor
open Go.RowKit
def nuF : Fld := (numF 2).and ((numF 3).and (((kindF 4 6).wrap (listF 5 exSb) (fun s => if s.1 = 1 then [rF 4 s.2] else []) (fun s => if s.1 = 2 then [rF 6 s.2] else [])).and ((listF 7 kvS).and (var32F 8))))
theorem nuF_ok : nuF.Ok := (numF_ok (by omega) (by omega)).and ((numF_ok (by omega) (by omega)).and (((kindF_ok (by omega) (by omega) (by omega) (by omega) (by omega)).wrap (listF_ok exSb_ok (by omega) (by omega)) (apart_of fun r h => by simp only [kindF, decide_eq_true_eq] at h; simp only [listF, listTk, decide_eq_false_iff_not]; omega) (fun s => by show (if s.1 = 1 then [rF 4 s.2] else []) ++ (if s.1 = 2 then [rF 6 s.2] else []) = (if s.1 = 1 then [rF 4 s.2] else if s.1 = 2 then [rF 6 s.2] else []); by_cases h1 : s.1 = 1 <;> by_cases h2 : s.1 = 2 <;> simp_all)).and ((listF_ok kvS_ok (by omega) (by omega)).and (var32F_ok (by omega) (by omega)) (apart_of fun r h => by simp only [listF, listTk, decide_eq_true_eq] at h; simp only [var32F, decide_eq_false_iff_not]; omega)) (apart_of fun r h => by simp only [Fld.and, Fld.wrap, kindF, listF, listTk, Bool.or_eq_true, decide_eq_true_eq] at h; simp only [Fld.and, var32F, listF, listTk, Bool.or_eq_false_iff, decide_eq_false_iff_not]; omega)) (apart_of fun r h => by simp only [numF, decide_eq_true_eq] at h; simp only [Fld.and, Fld.wrap, var32F, kindF, listF, listTk, Bool.or_eq_false_iff, decide_eq_false_iff_not]; omega)) (apart_of fun r h => by simp only [numF, decide_eq_true_eq] at h; simp only [Fld.and, Fld.wrap, numF, var32F, kindF, listF, listTk, Bool.or_eq_false_iff, decide_eq_false_iff_not]; omega)
theorem nuF_tk (r : Rec) : nuF.tk r = decide ((r.num = 2 ∧ r.ty = 1) ∨ ((r.num = 3 ∧ r.ty = 1) ∨ ((((r.num = 4 ∨ r.num = 6) ∧ r.ty = 1) ∨ (r.num = 5 ∧ r.ty = 2)) ∨ ((r.num = 7 ∧ r.ty = 2) ∨ (r.num = 8 ∧ r.ty = 0))))) := by
 rw [Bool.eq_iff_iff]
 simp only [nuF, Fld.and, Fld.wrap, numF, var32F, kindF, listF, listTk, Bool.or_eq_true, decide_eq_true_eq]
theorem nuF_2 {r : Rec} (h : r.num = 2 ∧ r.ty = 1) (d : Int) (a : Nat) (t : Nat) (k : Int) (n : Nat) (es : List Ex) (l : List KV) (f : Nat) : nuF.step d (a, (t, (((k, n), es), (l, f)))) r = .ok (r.n, (t, (((k, n), es), (l, f)))) :=
 (Fld.and_1ok (by simp only [numF, decide_eq_true_eq]; omega) rfl)
theorem nuF_3 {r : Rec} (h : r.num = 3 ∧ r.ty = 1) (d : Int) (a : Nat) (t : Nat) (k : Int) (n : Nat) (es : List Ex) (l : List KV) (f : Nat) : nuF.step d (a, (t, (((k, n), es), (l, f)))) r = .ok (a, (r.n, (((k, n), es), (l, f)))) :=
 (Fld.and_2ok (by simp only [numF, decide_eq_false_iff_not]; omega) (Fld.and_1ok (by simp only [numF, decide_eq_true_eq]; omega) rfl))
theorem nuF_4 {r : Rec} (h : r.num = 4 ∧ r.ty = 1) (d : Int) (a : Nat) (t : Nat) (k : Int) (n : Nat) (es : List Ex) (l : List KV) (f : Nat) : nuF.step d (a, (t, (((k, n), es), (l, f)))) r = .ok (a, (t, (((1, r.n), es), (l, f)))) :=
 (Fld.and_2ok (by simp only [numF, decide_eq_false_iff_not]; omega) (Fld.and_2ok (by simp only [numF, decide_eq_false_iff_not]; omega) (Fld.and_1ok (by simp only [Fld.and, Fld.wrap, kindF, listF, listTk, Bool.or_eq_true, decide_eq_true_eq]; omega) (Fld.and_1ok (by simp only [kindF, decide_eq_true_eq]; omega) (show Except.ok ((if r.num = 6 then (2 : Int) else 1), r.n) = _ by rw [h.1]; rfl)))))
theorem nuF_6 {r : Rec} (h : r.num = 6 ∧ r.ty = 1) (d : Int) (a : Nat) (t : Nat) (k : Int) (n : Nat) (es : List Ex) (l : List KV) (f : Nat) : nuF.step d (a, (t, (((k, n), es), (l, f)))) r = .ok (a, (t, (((2, r.n), es), (l, f)))) :=
 (Fld.and_2ok (by simp only [numF, decide_eq_false_iff_not]; omega) (Fld.and_2ok (by simp only [numF, decide_eq_false_iff_not]; omega) (Fld.and_1ok (by simp only [Fld.and, Fld.wrap, kindF, listF, listTk, Bool.or_eq_true, decide_eq_true_eq]; omega) (Fld.and_1ok (by simp only [kindF, decide_eq_true_eq]; omega) (show Except.ok ((if r.num = 6 then (2 : Int) else 1), r.n) = _ by rw [h.1]; rfl)))))
theorem nuF_5 {r : Rec} (h : r.num = 5 ∧ r.ty = 2) (d : Int) (a : Nat) (t : Nat) (k : Int) (n : Nat) (es : List Ex) (l : List KV) (f : Nat) : nuF.step d (a, (t, (((k, n), es), (l, f)))) r = match exrd r.s (d - 1) with
  | .error c => .error c
  | .ok x => .ok (a, (t, (((k, n), es ++ [x]), (l, f)))) := by
 cases e : exrd r.s (d - 1) with
 | error c => exact (Fld.and_2no (by simp only [numF, decide_eq_false_iff_not]; omega) (Fld.and_2no (by simp only [numF, decide_eq_false_iff_not]; omega) (Fld.and_1no (by simp only [Fld.and, Fld.wrap, kindF, listF, listTk, Bool.or_eq_true, decide_eq_true_eq]; omega) (Fld.and_2no (by simp only [kindF, decide_eq_false_iff_not]; omega) (lst_no (S := exSb) e)))))
 | ok x => exact (Fld.and_2ok (by simp only [numF, decide_eq_false_iff_not]; omega) (Fld.and_2ok (by simp only [numF, decide_eq_false_iff_not]; omega) (Fld.and_1ok (by simp only [Fld.and, Fld.wrap, kindF, listF, listTk, Bool.or_eq_true, decide_eq_true_eq]; omega) (Fld.and_2ok (by simp only [kindF, decide_eq_false_iff_not]; omega) (lst_ok (S := exSb) e)))))
theorem nuF_7 {r : Rec} (h : r.num = 7 ∧ r.ty = 2) (d : Int) (a : Nat) (t : Nat) (k : Int) (n : Nat) (es : List Ex) (l : List KV) (f : Nat) : nuF.step d (a, (t, (((k, n), es), (l, f)))) r = match kread 1000001 r.s (d - 1) with
  | .error c => .error c
  | .ok x => .ok (a, (t, (((k, n), es), (l ++ [x], f)))) := by
 cases e : kread 1000001 r.s (d - 1) with
 | error c => exact (Fld.and_2no (by simp only [numF, decide_eq_false_iff_not]; omega) (Fld.and_2no (by simp only [numF, decide_eq_false_iff_not]; omega) (Fld.and_2no (by simp only [Fld.and, Fld.wrap, kindF, listF, listTk, Bool.or_eq_false_iff, decide_eq_false_iff_not]; omega) (Fld.and_1no (by simp only [listF, listTk, decide_eq_true_eq]; omega) (kv_no e)))))
 | ok x => exact (Fld.and_2ok (by simp only [numF, decide_eq_false_iff_not]; omega) (Fld.and_2ok (by simp only [numF, decide_eq_false_iff_not]; omega) (Fld.and_2ok (by simp only [Fld.and, Fld.wrap, kindF, listF, listTk, Bool.or_eq_false_iff, decide_eq_false_iff_not]; omega) (Fld.and_1ok (by simp only [listF, listTk, decide_eq_true_eq]; omega) (kv_ok e)))))
theorem nuF_8 {r : Rec} (h : r.num = 8 ∧ r.ty = 0) (d : Int) (a : Nat) (t : Nat) (k : Int) (n : Nat) (es : List Ex) (l : List KV) (f : Nat) : nuF.step d (a, (t, (((k, n), es), (l, f)))) r = .ok (a, (t, (((k, n), es), (l, r.n % 4294967296)))) :=
 (Fld.and_2ok (by simp only [numF, decide_eq_false_iff_not]; omega) (Fld.and_2ok (by simp only [numF, decide_eq_false_iff_not]; omega) (Fld.and_2ok (by simp only [Fld.and, Fld.wrap, kindF, listF, listTk, Bool.or_eq_false_iff, decide_eq_false_iff_not]; omega) (Fld.and_2ok (by simp only [listF, listTk, decide_eq_false_iff_not]; omega) rfl))))
abbrev Nu : Type := (Nat × Nat × ((Int × Nat) × List Ex) × List KV × Nat) × List UInt8
def NuRel (w : World) (P : Nat → Prop) : Nu → List Value → Prop
 | ((a, (t, (((k, n), es), (l, f)))), u), cs => ∃ (lo : Option Addr) (lc : Nat) (eo : Option Addr) (ec : Nat), cs = [.slice lo l.length lc, .int .u64 (a : Int), .int .u64 (t : Int), .int .i64 k, .int .u64 (n : Int), .slice eo es.length ec, .int .u32 (f : Int), strV u] ∧ KRels w P l lo 0 ∧ CRels exCel w P es eo
def nuCel : Cel Nu where
 R := NuRel
 size := 8
 len := by rintro w P ⟨⟨a, ⟨t, ⟨⟨⟨k, n⟩, es⟩, ⟨l, f⟩⟩⟩⟩, u⟩ cs ⟨lo, lc, eo, ec, rfl, _, _⟩; rfl
 upd := by rintro w w' S P Q ⟨⟨a, ⟨t, ⟨⟨⟨k, n⟩, es⟩, ⟨l, f⟩⟩⟩⟩, u⟩ cs hu hs hq ⟨lo, lc, eo, ec, h, h0, h1⟩; exact ⟨lo, lc, eo, ec, h, KRels.upd hu hs hq _ _ _ h0, CRels.upd hu hs hq h1⟩
 lt := by rintro w P ⟨⟨a, ⟨t, ⟨⟨⟨k, n⟩, es⟩, ⟨l, f⟩⟩⟩⟩, u⟩ cs ⟨lo, lc, eo, ec, h, h0, h1⟩; exact ⟨lo, lc, eo, ec, h, KRels.lt _ _ _ h0, CRels.lt h1⟩
def nuzero : Array Value := #[.slice none 0 0, .int .u64 0, .int .u64 0, .int .i64 0, .int .u64 0, .slice none 0 0, .int .u32 0, .string ⟨#[]⟩]
def nurd (l : List UInt8) (d : Int) : Except Nat Nu := mread (σ := Nat × Nat × ((Int × Nat) × List Ex) × List KV × Nat) nuF.tk (nuF.step d) nuF.z l d
def nu_may (d : Int) : Nu → Bool
 | ((_, (_, (((k, n), es), (l, _)))), u) => decide (0 ≤ d) && ((decide (k = 0 ∧ n = 0 ∨ k = 1 ∨ k = 2) && (lmays exSb es d && kmays l d)) && munkOk nuF.tk u d)
def nu_out : Nu → List UInt8
 | ((a, (t, (((k, n), es), (l, f)))), u) => (if a = 0 then [] else (rF 2 a).raw) ++ (if t = 0 then [] else (rF 3 t).raw) ++ (if k = 1 then (rF 4 n).raw else []) ++ louts exSb 5 es ++ (if k = 2 then (rF 6 n).raw else []) ++ kouts 7 l ++ (if f = 0 then [] else (rN 8 f).raw) ++ u
def nu_fit : Nu → Prop
 | ((a, (t, (((_, n), es), (l, f)))), u) => a < 18446744073709551616 ∧ t < 18446744073709551616 ∧ n < 18446744073709551616 ∧ (∀ x ∈ es, ex_fit x) ∧ ksfit l ∧ f < 4294967296 ∧ lwt exSb es + ksw l + u.length ≤ 400000
def nu_arg : Nu → Prop
 | ((a, (t, (((_, n), es), (l, f)))), u) => a < 18446744073709551616 ∧ t < 18446744073709551616 ∧ n < 18446744073709551616 ∧ (∀ x ∈ es, ex_arg x) ∧ es.length ≤ 9223372036854775807 ∧ ksfit l ∧ kslim l ∧ l.length ≤ 9223372036854775807 ∧ f < 4294967296 ∧ u.length ≤ 9223372036854775807
theorem nu_mayF (d : Int) {a : Nat} {t : Nat} {k : Int} {n : Nat} {es : List Ex} {l : List KV} {f : Nat} {u : List UInt8} : nu_may d ((a, (t, (((k, n), es), (l, f)))), u) = (decide (0 ≤ d) && (nuF.may d (a, (t, (((k, n), es), (l, f)))) && munkOk nuF.tk u d)) := by
 have h : nuF.may d (a, (t, (((k, n), es), (l, f)))) = (decide (k = 0 ∧ n = 0 ∨ k = 1 ∨ k = 2) && (lmays exSb es d && kmays l d)) := by
  show (true && (true && ((decide (k = 0 ∧ n = 0 ∨ k = 1 ∨ k = 2) && (listF 5 exSb).may d es) && ((listF 7 kvS).may d l && true)))) = _
  simp only [kvs_may, lst_may (S := exSb), Bool.and_assoc, Bool.and_true, Bool.true_and]
 rw [h]; rfl
theorem nu_twice {a : Nat} {t : Nat} {k : Int} {n : Nat} {es : List Ex} {l : List KV} {f : Nat} {u : List UInt8} {s : List UInt8} {d : Int} (hl : s.length ≤ 6000) (h : nurd s d = .ok ((a, (t, (((k, n), es), (l, f)))), u)) : nu_may d ((a, (t, (((k, n), es), (l, f)))), u) = true ∧ nu_fit ((a, (t, (((k, n), es), (l, f)))), u) := by
 obtain ⟨h0, h1, h2, h3, h4⟩ := fld_twice nuF_ok (s := (a, (t, (((k, n), es), (l, f))))) (by omega) h
 refine ⟨?_, ?_⟩
 ·rw [nu_mayF, h1, h2, decide_eq_true h0]; rfl
 ·have h5 : (0 + (0 + ((0 + (listF 5 exSb).wt es) + ((listF 7 kvS).wt l + 0)))) + u.length ≤ (0 + (0 + ((0 + 0) + (0 + 0)))) + 51 * s.length := h4
  rw [lst_wt, kvs_wt] at h5
  exact ⟨h3.1, h3.2.1, h3.2.2.1.1, exs_fit h3.2.2.1.2 (by omega), kvs_fit h3.2.2.2.1, h3.2.2.2.2, by omega⟩
theorem nu_arg_of {a : Nat} {t : Nat} {k : Int} {n : Nat} {es : List Ex} {l : List KV} {f : Nat} {u : List UInt8} (h : nu_fit ((a, (t, (((k, n), es), (l, f)))), u)) : nu_arg ((a, (t, (((k, n), es), (l, f)))), u) := by
 obtain ⟨hna, hnt, hnn, hfes, hfl, hnf, hw⟩ := h
 have hzl := ksw_len l
 have hzes := exs_len es
 exact ⟨hna, hnt, hnn, (fun x hx => ex_arg_ofx (hfes x hx)), (by omega), hfl, kslim_ofw l (by omega), (by omega), hnf, (by omega)⟩
theorem nu_olen {a : Nat} {t : Nat} {k : Int} {n : Nat} {es : List Ex} {l : List KV} {f : Nat} {u : List UInt8} (h : nu_fit ((a, (t, (((k, n), es), (l, f)))), u)) : (nu_out ((a, (t, (((k, n), es), (l, f)))), u)).length ≤ 500000 := by
 obtain ⟨_, _, _, _, _, _, hw⟩ := h
 have hzl := ksw_len l
 have hzes := exs_len es
 have g0 := num_seg 2 a
 have g1 := num_seg 3 t
 have g2 := kind_seg 4 n 1 k
 have g3 := kind_seg 6 n 2 k
 have g4 := exs_olen (num := 5) (by omega) es
 have g5 := kouts_le 7 (by omega) l
 have g6 := var_seg 8 f
 show ((if a = 0 then [] else (rF 2 a).raw) ++ (if t = 0 then [] else (rF 3 t).raw) ++ (if k = 1 then (rF 4 n).raw else []) ++ louts exSb 5 es ++ (if k = 2 then (rF 6 n).raw else []) ++ kouts 7 l ++ (if f = 0 then [] else (rN 8 f).raw) ++ u).length ≤ _
 simp only [List.length_append]
 omega
theorem nu_codeF : nuF.Code := ((numF_code _).and (((numF_code _).and (((((kindF_code _ _).wrap (exs_code _) _ _)).and (((kvF_code _).and (var32F_code _))))))))
theorem nu_code {l : List UInt8} {d : Int} {c : Nat} (h : nurd l d = .error c) : VCode c := mread_code (σ := Nat × Nat × ((Int × Nat) × List Ex) × List KV × Nat) (fun st r c hs => nu_codeF d st r c hs) h
theorem nu_zarg : nu_arg ((0, (0, (((0, 0), []), ([], 0)))), []) := ⟨(by omega), (by omega), (by omega), (fun x hx => by cases hx), (by simp), (by rw [ksfit]; trivial), (by rw [kslim]; trivial), (by simp), (by omega), (by simp)⟩
theorem nu_zrel (w : World) (P : Nat → Prop) : nuCel.R w P ((0, (0, (((0, 0), []), ([], 0)))), []) [.slice none 0 0, .int .u64 0, .int .u64 0, .int .i64 0, .int .u64 0, .slice none 0 0, .int .u32 0, .string ⟨#[]⟩] := ⟨none, 0, none, 0, rfl, by rw [KRels]; trivial, CRels.nil _ _ _ _⟩
theorem nutakes_any (r : Rec) (w : World) : Calls Tryz.prog 44 #[.int .i64 (r.num : Int), .int .i64 (r.ty : Int)] w fun e w' => e = .returned (.bool (nuF.tk r)) ∧ w = w' := by
 obtain ⟨num, ty, n, s, raw⟩ := r
 have hq := nuF_tk ⟨num, ty, n, s, raw⟩
 dsimp only at hq
 obtain ⟨q, hqe⟩ : ∃ q, nuF.tk ⟨num, ty, n, s, raw⟩ = q := ⟨_, rfl⟩
 rw [hqe] at hq ⊢
 clear hqe
 by_cases h2 : num = 2
 ·subst h2
  have hb : Hid (q = ((ty : Int) == (1 : Int))) := Lib.hid (by rw [show ((1 : Int)) = ((1 : Nat) : Int) from rfl, ibeq, hq]; exact decide_eq_decide.2 (by omega))
  clear hq
  go_enter Tryz.func44, Tryz.ntmps44
  go_wp2_with fail
  go_ret
  exact ⟨by rw [hb.out]; rfl, rfl⟩
 by_cases h3 : num = 3
 ·subst h3
  have hb : Hid (q = ((ty : Int) == (1 : Int))) := Lib.hid (by rw [show ((1 : Int)) = ((1 : Nat) : Int) from rfl, ibeq, hq]; exact decide_eq_decide.2 (by omega))
  clear hq
  go_enter Tryz.func44, Tryz.ntmps44
  go_wp2_with fail
  go_ret
  exact ⟨by rw [hb.out]; rfl, rfl⟩
 by_cases h6 : num = 6
 ·subst h6
  have hb : Hid (q = ((ty : Int) == (1 : Int))) := Lib.hid (by rw [show ((1 : Int)) = ((1 : Nat) : Int) from rfl, ibeq, hq]; exact decide_eq_decide.2 (by omega))
  clear hq
  go_enter Tryz.func44, Tryz.ntmps44
  go_wp2_with fail
  go_ret
  exact ⟨by rw [hb.out]; rfl, rfl⟩
 by_cases h4 : num = 4
 ·subst h4
  have hb : Hid (q = ((ty : Int) == (1 : Int))) := Lib.hid (by rw [show ((1 : Int)) = ((1 : Nat) : Int) from rfl, ibeq, hq]; exact decide_eq_decide.2 (by omega))
  clear hq
  go_enter Tryz.func44, Tryz.ntmps44
  go_wp2_with fail
  go_ret
  exact ⟨by rw [hb.out]; rfl, rfl⟩
 by_cases h5 : num = 5
 ·subst h5
  have hb : Hid (q = ((ty : Int) == (2 : Int))) := Lib.hid (by rw [show ((2 : Int)) = ((2 : Nat) : Int) from rfl, ibeq, hq]; exact decide_eq_decide.2 (by omega))
  clear hq
  go_enter Tryz.func44, Tryz.ntmps44
  go_wp2_with fail
  go_ret
  exact ⟨by rw [hb.out]; rfl, rfl⟩
 by_cases h7 : num = 7
 ·subst h7
  have hb : Hid (q = ((ty : Int) == (2 : Int))) := Lib.hid (by rw [show ((2 : Int)) = ((2 : Nat) : Int) from rfl, ibeq, hq]; exact decide_eq_decide.2 (by omega))
  clear hq
  go_enter Tryz.func44, Tryz.ntmps44
  go_wp2_with fail
  go_ret
  exact ⟨by rw [hb.out]; rfl, rfl⟩
 by_cases h8 : num = 8
 ·subst h8
  have hb : Hid (q = ((ty : Int) == (0 : Int))) := Lib.hid (by rw [show ((0 : Int)) = ((0 : Nat) : Int) from rfl, ibeq, hq]; exact decide_eq_decide.2 (by omega))
  clear hq
  go_enter Tryz.func44, Tryz.ntmps44
  go_wp2_with fail
  go_ret
  exact ⟨by rw [hb.out]; rfl, rfl⟩
 have d2 : ((num : Int) == (2 : Int)) = false := by rw [beq_eq_false_iff_ne]; omega
 have d3 : ((num : Int) == (3 : Int)) = false := by rw [beq_eq_false_iff_ne]; omega
 have d6 : ((num : Int) == (6 : Int)) = false := by rw [beq_eq_false_iff_ne]; omega
 have d4 : ((num : Int) == (4 : Int)) = false := by rw [beq_eq_false_iff_ne]; omega
 have d5 : ((num : Int) == (5 : Int)) = false := by rw [beq_eq_false_iff_ne]; omega
 have d7 : ((num : Int) == (7 : Int)) = false := by rw [beq_eq_false_iff_ne]; omega
 have d8 : ((num : Int) == (8 : Int)) = false := by rw [beq_eq_false_iff_ne]; omega
 have hb : Hid (q = false) := Lib.hid (by rw [hq]; exact decide_eq_false (by omega))
 clear h2 h3 h6 h4 h5 h7 h8 hq
 go_enter Tryz.func44, Tryz.ntmps44
 go_wp2_with fail
 go_ret
 exact ⟨by rw [hb.out]; rfl, rfl⟩
end Go.Proofs.YtjbingoliffjiaaGreatDoor
