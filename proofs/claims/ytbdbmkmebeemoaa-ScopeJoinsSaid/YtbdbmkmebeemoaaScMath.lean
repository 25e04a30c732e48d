/-
  A scope, a resource, by their fields.
-/
import Derived.Test.YtbdbmkmebeemoaaFldB
namespace Go.Proofs.Ytbdbmkmebeemoaa
open Go.RowKit

/-- what a resource has: its attributes, how many were dropped -/
def rsF : Fld := (listF 1 kvS).and (var32F 2)
/-- what a scope has: name, version, attributes, how many were dropped -/
def scF : Fld := (textF 1).and ((textF 2).and ((listF 3 kvS).and (var32F 4)))
theorem apart_of {A B : Fld} (h : ∀ r, A.tk r = true → B.tk r = false) : A.Apart B := fun r hr => by rw [h r hr.1] at hr; cases hr.2
theorem rsF_ok : rsF.Ok := (listF_ok kvS_ok (by omega) (by omega)).and (var32F_ok (by omega) (by omega)) (apart_of fun r h => by
  have h : r.num = 1 ∧ r.ty = 2 := of_decide_eq_true h
  exact decide_eq_false (by omega))
theorem scF_ok : scF.Ok := (textF_ok (by omega) (by omega)).and ((textF_ok (by omega) (by omega)).and ((listF_ok kvS_ok (by omega) (by omega)).and (var32F_ok (by omega) (by omega)) (apart_of fun r h => by
  have h : r.num = 3 ∧ r.ty = 2 := of_decide_eq_true h
  exact decide_eq_false (by omega))) (apart_of fun r h => by
  have h : r.num = 2 ∧ r.ty = 2 := of_decide_eq_true h
  show (decide _ || decide _) = false
  rw [decide_eq_false (by omega), decide_eq_false (by omega)]; rfl)) (apart_of fun r h => by
  have h : r.num = 1 ∧ r.ty = 2 := of_decide_eq_true h
  show (decide _ || (decide _ || decide _)) = false
  rw [decide_eq_false (by omega), decide_eq_false (by omega), decide_eq_false (by omega)]; rfl)
theorem rsF_tk (r : Rec) : rsF.tk r = decide (r.num = 1 ∧ r.ty = 2 ∨ r.num = 2 ∧ r.ty = 0) := by
  show (decide _ || decide _) = _
  rw [Bool.decide_or]
theorem scF_tk (r : Rec) : scF.tk r = decide ((r.num = 1 ∨ r.num = 2 ∨ r.num = 3) ∧ r.ty = 2 ∨ r.num = 4 ∧ r.ty = 0) := by
  show (decide _ || (decide _ || (decide _ || decide _))) = _
  rw [← Bool.decide_or, ← Bool.decide_or, ← Bool.decide_or]
  exact decide_eq_decide.2 (by omega)
theorem kv_ok {num : Nat} {d : Int} {l : List KV} {r : Rec} {x : KV} (e : kread 1000001 r.s (d - 1) = .ok x) : (listF num kvS).step d l r = .ok (l ++ [x]) := by
  show listStep kvS d l r = _
  unfold listStep
  rw [show kvS.rd (d - 1) r.s = .ok x from e]
  rfl
theorem kv_no {num : Nat} {d : Int} {l : List KV} {r : Rec} {c : Nat} (e : kread 1000001 r.s (d - 1) = .error c) : (listF num kvS).step d l r = .error c := by
  show listStep kvS d l r = _
  unfold listStep
  rw [show kvS.rd (d - 1) r.s = .error c from e]
  rfl
theorem text_ok {num : Nat} {d : Int} {a : List UInt8} {r : Rec} (e : uvalid r.s = true) : (textF num).step d a r = .ok r.s := if_pos e
theorem text_no {num : Nat} {d : Int} {a : List UInt8} {r : Rec} (e : uvalid r.s = false) : (textF num).step d a r = .error 5 := if_neg (by rw [e]; simp)
theorem rsF_1 {r : Rec} (h : r.num = 1 ∧ r.ty = 2) (d : Int) (l : List KV) (n : Nat) : rsF.step d (l, n) r = match kread 1000001 r.s (d - 1) with
    | .error c => .error c
    | .ok x => .ok (l ++ [x], n) := by
  cases e : kread 1000001 r.s (d - 1) with
  | error c => exact Fld.and_1no (decide_eq_true h) (kv_no e)
  | ok x => exact Fld.and_1ok (decide_eq_true h) (kv_ok e)
theorem rsF_2 {r : Rec} (h : r.num = 2 ∧ r.ty = 0) (d : Int) (l : List KV) (n : Nat) : rsF.step d (l, n) r = .ok (l, r.n % 4294967296) :=
  Fld.and_2ok (decide_eq_false (by omega)) rfl
theorem scF_1 {r : Rec} (h : r.num = 1 ∧ r.ty = 2) (d : Int) (a b : List UInt8) (l : List KV) (n : Nat) : scF.step d (a, b, l, n) r = if uvalid r.s then .ok (r.s, b, l, n) else .error 5 := by
  cases e : uvalid r.s with
  | true => exact Fld.and_1ok (decide_eq_true h) (text_ok e)
  | false => exact Fld.and_1no (decide_eq_true h) (text_no e)
theorem scF_2 {r : Rec} (h : r.num = 2 ∧ r.ty = 2) (d : Int) (a b : List UInt8) (l : List KV) (n : Nat) : scF.step d (a, b, l, n) r = if uvalid r.s then .ok (a, r.s, l, n) else .error 5 := by
  cases e : uvalid r.s with
  | true => exact Fld.and_2ok (decide_eq_false (by omega)) (Fld.and_1ok (decide_eq_true h) (text_ok e))
  | false => exact Fld.and_2no (decide_eq_false (by omega)) (Fld.and_1no (decide_eq_true h) (text_no e))
theorem scF_3 {r : Rec} (h : r.num = 3 ∧ r.ty = 2) (d : Int) (a b : List UInt8) (l : List KV) (n : Nat) : scF.step d (a, b, l, n) r = match kread 1000001 r.s (d - 1) with
    | .error c => .error c
    | .ok x => .ok (a, b, l ++ [x], n) := by
  cases e : kread 1000001 r.s (d - 1) with
  | error c => exact Fld.and_2no (decide_eq_false (by omega)) (Fld.and_2no (decide_eq_false (by omega)) (Fld.and_1no (decide_eq_true h) (kv_no e)))
  | ok x => exact Fld.and_2ok (decide_eq_false (by omega)) (Fld.and_2ok (decide_eq_false (by omega)) (Fld.and_1ok (decide_eq_true h) (kv_ok e)))
theorem scF_4 {r : Rec} (h : r.num = 4 ∧ r.ty = 0) (d : Int) (a b : List UInt8) (l : List KV) (n : Nat) : scF.step d (a, b, l, n) r = .ok (a, b, l, r.n % 4294967296) :=
  Fld.and_2ok (decide_eq_false (by omega)) (Fld.and_2ok (decide_eq_false (by omega)) (Fld.and_2ok (decide_eq_false (by omega)) rfl))
end Go.Proofs.Ytbdbmkmebeemoaa
