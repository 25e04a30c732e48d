/-
  Messages of which a part may stand in several records, that are read as one when all records are read; zigzag numbers.
-/
import Derived.Test.YtficgfemmijaaaaGreatDoorFldH
namespace Go.Proofs.YtficgfemmijaaaaGreatDoor
open Go.RowKit
structure Fnl (F : Fld) where
 τ : Type
 fin : Int → F.σ → Except Nat τ
 pre : τ → F.σ
 may : Int → τ → Bool
 fit : τ → Prop
 wt : τ → Nat
 w0 : Nat
 c0 : Nat
def Fnl.id (F : Fld) : Fnl F where
 τ := F.σ
 fin _ s := .ok s
 pre x := x
 may := F.may
 fit := F.fit
 wt := F.wt
 w0 := F.w0
 c0 := 0
def Fnl.and {A B : Fld} (N : Fnl A) (M : Fnl B) : Fnl (A.and B) where
 τ := N.τ × M.τ
 fin d s := match N.fin d s.1 with
  | .error c => .error c
  | .ok a => match M.fin d s.2 with
   | .error c => .error c
   | .ok b => .ok (a, b)
 pre x := (N.pre x.1, M.pre x.2)
 may d x := N.may d x.1 && M.may d x.2
 fit x := N.fit x.1 ∧ M.fit x.2
 wt x := N.wt x.1 + M.wt x.2
 w0 := N.w0 + M.w0
 c0 := N.c0 + M.c0
theorem Fnl.and_ok {A B : Fld} {N : Fnl A} {M : Fnl B} {d : Int} {s : A.σ} {t : B.σ} {a : N.τ} {b : M.τ} (h1 : N.fin d s = .ok a) (h2 : M.fin d t = .ok b) : (N.and M).fin d (s, t) = .ok (a, b) := by
 show (match N.fin d s with
  | .error c => .error c
  | .ok a => match M.fin d t with
   | .error c => .error c
   | .ok b => .ok (a, b)) = Except.ok (a, b)
 rw [h1]
 dsimp only
 rw [h2]
def Fnl.rd {F : Fld} (N : Fnl F) (d : Int) (l : List UInt8) : Except Nat (N.τ × List UInt8) := match mread F.tk (F.step d) F.z l d with
 | .error c => .error c
 | .ok p => match N.fin d p.1 with
  | .error c => .error c
  | .ok x => .ok (x, p.2)
theorem Fnl.rd_ok {F : Fld} {N : Fnl F} {d : Int} {l u : List UInt8} {s : F.σ} {x : N.τ} (h1 : mread F.tk (F.step d) F.z l d = .ok (s, u)) (h2 : N.fin d s = .ok x) : N.rd d l = .ok (x, u) := by
 unfold Fnl.rd
 rw [h1]
 dsimp only
 rw [h2]
theorem Fnl.rd_no1 {F : Fld} {N : Fnl F} {d : Int} {l : List UInt8} {c : Nat} (h1 : mread F.tk (F.step d) F.z l d = .error c) : N.rd d l = .error c := by
 unfold Fnl.rd
 rw [h1]
theorem Fnl.rd_no2 {F : Fld} {N : Fnl F} {d : Int} {l u : List UInt8} {s : F.σ} {c : Nat} (h1 : mread F.tk (F.step d) F.z l d = .ok (s, u)) (h2 : N.fin d s = .error c) : N.rd d l = .error c := by
 unfold Fnl.rd
 rw [h1]
 dsimp only
 rw [h2]
theorem Fnl.rd_inv {F : Fld} {N : Fnl F} {d : Int} {l u : List UInt8} {x : N.τ} (h : N.rd d l = .ok (x, u)) : ∃ s, mread F.tk (F.step d) F.z l d = .ok (s, u) ∧ N.fin d s = .ok x := by
 unfold Fnl.rd at h
 split at h
 ·cases h
 ·rename_i p hp
  split at h
  ·cases h
  ·rename_i y hy
   cases h
   exact ⟨p.1, hp, hy⟩
def bstepF (s : List (List UInt8)) (r : Rec) : Except Nat (List (List UInt8)) := .ok (s ++ [r.s])
def partF (num : Nat) : Fld where
 σ := List (List UInt8)
 z := []
 tk r := decide (r.num = num ∧ r.ty = 2)
 step _ s r := bstepF s r
 out s := s.map (rB num)
 may _ _ := true
 fit _ := True
 wt s := s.flatten.length + s.length
 w0 := 0
 inv _ s t := s.flatten.length + s.length ≤ t
theorem part_mem {b : List UInt8} : ∀ {s : List (List UInt8)}, b ∈ s → b.length ≤ s.flatten.length
 | [], h => by cases h
 | a :: s, h => by
  rw [List.flatten_cons, List.length_append]
  rcases List.mem_cons.1 h with rfl | h
  ·omega
  ·have := part_mem h; omega
theorem part_fold {num : Nat} : ∀ (l s : List (List UInt8)), mfold (partF num).tk bstepF s (l.map (rB num)) = .ok (s ++ l)
 | [], s => by rw [List.map_nil, mfold, List.append_nil]
 | b :: l, s => by
  rw [List.map_cons, mfold, if_pos (show (partF num).tk (rB num b) = true from decide_eq_true ⟨rfl, rfl⟩)]
  show mfold (partF num).tk bstepF (s ++ [b]) (l.map (rB num)) = _
  rw [part_fold l (s ++ [b]), List.append_assoc]; rfl
theorem partF_ok {num : Nat} (h1 : 1 ≤ num) (h2 : num ≤ 536870911) : (partF num).Ok where
 recs := fun (s : List (List UInt8)) hf hw r hr => by
  obtain ⟨b, hb, rfl⟩ := List.mem_map.1 hr
  have hw : s.flatten.length + s.length ≤ 1000000 := hw
  have := part_mem hb
  exact ⟨decide_eq_true ⟨rfl, rfl⟩, fun d => rB_is h1 h2 (by omega) d⟩
 back := fun (s : List (List UInt8)) d hf hw hd hm => part_fold s []
 less := fun (s : List (List UInt8)) d d' hf hw hm hle hn => by cases hn
 start := fun d => by show ([] : List (List UInt8)).flatten.length + ([] : List (List UInt8)).length ≤ 0; simp
 go := fun d (s : List (List UInt8)) t r (s' : List (List UInt8)) hi hr hk ht hs => by
  have hs : bstepF s r = Except.ok s' := hs
  obtain rfl := Except.ok.inj hs
  have hk : r.num = num ∧ r.ty = 2 := of_decide_eq_true hk
  have hi : s.flatten.length + s.length ≤ t := hi
  have hb := ((rec_big hr).1 hk.2).2
  have hv := (vput_length r.s.length).1
  show (s ++ [r.s]).flatten.length + (s ++ [r.s]).length ≤ _
  rw [List.flatten_append, List.length_append, List.length_append, List.flatten_cons, List.flatten_nil, List.append_nil, List.length_cons, List.length_nil]
  omega
 ends := fun d (s : List (List UInt8)) t hd hi ht => ⟨rfl, trivial, by have hi : s.flatten.length + s.length ≤ t := hi; show s.flatten.length + s.length ≤ 0 + _; omega⟩
def partN {α : Type} (num : Nat) (S : Sub α) (z0 : α) (isz : α → Bool) : Fnl (partF num) where
 τ := Bool × α
 fin d (s : List (List UInt8)) := if s = [] then .ok (false, z0) else match S.rd (d - 1) s.flatten with
  | .error c => .error c
  | .ok x => .ok (true, x)
 pre x := if x.1 = true then [S.out x.2] else []
 may d x := if x.1 = true then decide (1 ≤ d) && S.may (d - 1) x.2 else isz x.2
 fit x := S.fit x.2
 wt x := S.wt x.2
 w0 := 100 + S.wt z0
 c0 := 1001
def zigF (num : Nat) : Fld where
 σ := Int
 z := 0
 tk r := decide (r.num = num ∧ r.ty = 0)
 step _ _ r := .ok (zag (r.n % 2 ^ 32))
 out s := if s = 0 then [] else [rN num (zig s).toNat]
 may _ _ := true
 fit s := -2147483648 ≤ s ∧ s ≤ 2147483647
 wt _ := 0
 w0 := 0
 inv _ s _ := -2147483648 ≤ s ∧ s ≤ 2147483647
theorem zag_rangeF {n : Nat} (h : n < 4294967296) : -2147483648 ≤ zag n ∧ zag n ≤ 2147483647 := by
 unfold zag
 split <;> omega
theorem zig_backF {n : Int} (h1 : -2147483648 ≤ n) (h2 : n ≤ 2147483647) : (zig n).toNat < 4294967296 ∧ zag ((zig n).toNat % 2 ^ 32) = n := by
 refine ⟨?_, ?_⟩ <;> unfold zig <;> (try unfold zag) <;> split <;> (try split) <;> omega
theorem zigF_ok {num : Nat} (h1 : 1 ≤ num) (h2 : num ≤ 536870911) : (zigF num).Ok where
 recs := fun (s : Int) hf hw r hr => by
  have hr : r ∈ (if s = 0 then [] else [rN num (zig s).toNat]) := hr
  have hf : -2147483648 ≤ s ∧ s ≤ 2147483647 := hf
  have hz := (zig_backF hf.1 hf.2).1
  split at hr
  ·cases hr
  ·rw [List.mem_singleton.1 hr]
   exact ⟨decide_eq_true ⟨rfl, rfl⟩, fun d => rN_is h1 h2 (by omega) d⟩
 back := fun (s : Int) d hf hw hd hm => by
  have hf : -2147483648 ≤ s ∧ s ≤ 2147483647 := hf
  show mfold (σ := Int) (zigF num).tk ((zigF num).step d) (0 : Int) (if s = 0 then [] else [rN num (zig s).toNat]) = .ok s
  split
  ·rename_i h; rw [h]; rfl
  ·refine mfold_one (decide_eq_true ⟨rfl, rfl⟩) ?_
   show Except.ok (zag ((zig s).toNat % 2 ^ 32)) = _
   rw [(zig_backF hf.1 hf.2).2]
 less := fun (s : Int) d d' hf hw hm hle hn => by cases hn
 start := fun d => by show -2147483648 ≤ (0 : Int) ∧ (0 : Int) ≤ 2147483647; omega
 go := fun d (s : Int) t r (s' : Int) hi hr hk ht hs => by
  have hs : Except.ok (zag (r.n % 2 ^ 32)) = Except.ok s' := hs
  obtain rfl := Except.ok.inj hs
  exact zag_rangeF (by omega)
 ends := fun d (s : Int) t hd hi ht => ⟨rfl, hi, by show 0 ≤ _; omega⟩
end Go.Proofs.YtficgfemmijaaaaGreatDoor
