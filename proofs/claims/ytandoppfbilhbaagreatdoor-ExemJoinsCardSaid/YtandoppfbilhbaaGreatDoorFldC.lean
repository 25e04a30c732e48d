/-
  Fields: a number of eight bytes, bytes, a number of one of two kinds; a field whose records stand around another's.
-/
import Derived.Test.YtandoppfbilhbaaGreatDoorFldB
namespace Go.Proofs.YtandoppfbilhbaaGreatDoor
open Go.RowKit

def numF (num : Nat) : Fld where
  σ := Nat
  z := 0
  tk r := decide (r.num = num ∧ r.ty = 1)
  step _ _ r := .ok r.n
  out n := if n = 0 then [] else [rF num n]
  may _ _ := true
  fit n := n < 18446744073709551616
  wt _ := 0
  w0 := 0
  inv _ n _ := n < 18446744073709551616
theorem numF_ok {num : Nat} (h1 : 1 ≤ num) (h2 : num ≤ 536870911) : (numF num).Ok where
  recs := fun (s : Nat) hf hw r hr => by
    have hr : r ∈ (if s = 0 then [] else [rF num s]) := hr
    have hf : s < 18446744073709551616 := hf
    split at hr
    · cases hr
    · rw [List.mem_singleton.1 hr]
      exact ⟨decide_eq_true ⟨rfl, rfl⟩, fun d => rF_is h1 h2 (by omega) d⟩
  back := fun (s : Nat) d hf hw hd hm => by
    show mfold (σ := Nat) (numF num).tk ((numF num).step d) (0 : Nat) (if s = 0 then [] else [rF num s]) = .ok s
    split
    · rename_i h; rw [h]; rfl
    · exact mfold_one (decide_eq_true ⟨rfl, rfl⟩) rfl
  less := fun (s : Nat) d d' hf hw hm hle hn => by cases hn
  start := fun d => by show 0 < 18446744073709551616; omega
  go := fun d (s : Nat) t r (s' : Nat) hi hr hk ht hs => by
    have hs : Except.ok r.n = Except.ok s' := hs
    obtain rfl := Except.ok.inj hs
    have := (isrec_facts hr).1
    show r.n < 18446744073709551616
    omega
  ends := fun d (s : Nat) t hd hi ht => ⟨rfl, hi, by show 0 ≤ _; omega⟩
def bytesF (num : Nat) : Fld where
  σ := List UInt8
  z := []
  tk r := decide (r.num = num ∧ r.ty = 2)
  step _ _ r := .ok r.s
  out s := if s = [] then [] else [rB num s]
  may _ _ := true
  fit s := s.length ≤ 9223372036854775807
  wt s := s.length
  w0 := 0
  inv _ s t := s.length ≤ t
theorem bytesF_ok {num : Nat} (h1 : 1 ≤ num) (h2 : num ≤ 536870911) : (bytesF num).Ok where
  recs := fun (s : List UInt8) hf hw r hr => by
    have hr : r ∈ (if s = [] then [] else [rB num s]) := hr
    split at hr
    · cases hr
    · rw [List.mem_singleton.1 hr]
      have hf : s.length ≤ 9223372036854775807 := hf
      exact ⟨decide_eq_true ⟨rfl, rfl⟩, fun d => rB_is h1 h2 (by omega) d⟩
  back := fun (s : List UInt8) d hf hw hd hm => by
    show mfold (bytesF num).tk ((bytesF num).step d) [] (if s = [] then [] else [rB num s]) = .ok s
    split
    · rename_i h; rw [h]; rfl
    · exact mfold_one (decide_eq_true ⟨rfl, rfl⟩) rfl
  less := fun (s : List UInt8) d d' hf hw hm hle hn => by cases hn
  start := fun d => Nat.le_refl _
  go := fun d (s : List UInt8) t r (s' : List UInt8) hi hr hk ht hs => by
    have hs : Except.ok r.s = Except.ok s' := hs
    obtain rfl := Except.ok.inj hs
    have := isrec_s hr
    show r.s.length ≤ _
    omega
  ends := fun d (s : List UInt8) t hd hi ht => ⟨rfl, by have : s.length ≤ t := hi; show s.length ≤ _; omega, by have : s.length ≤ t := hi; show s.length ≤ 0 + _; omega⟩
/-- one number of two kinds: kind 1 told by number a, kind 2 by number b -/
def kindF (a b : Nat) : Fld where
  σ := Int × Nat
  z := (0, 0)
  tk r := decide ((r.num = a ∨ r.num = b) ∧ r.ty = 1)
  step _ _ r := .ok (if r.num = b then 2 else 1, r.n)
  out s := if s.1 = 1 then [rF a s.2] else if s.1 = 2 then [rF b s.2] else []
  may _ s := decide (s.1 = 0 ∧ s.2 = 0 ∨ s.1 = 1 ∨ s.1 = 2)
  fit s := s.2 < 18446744073709551616
  wt _ := 0
  w0 := 0
  inv _ s _ := (s.1 = 0 ∧ s.2 = 0 ∨ s.1 = 1 ∨ s.1 = 2) ∧ s.2 < 18446744073709551616
theorem kindF_ok {a b : Nat} (h1 : 1 ≤ a) (h2 : a ≤ 536870911) (h3 : 1 ≤ b) (h4 : b ≤ 536870911) (hne : a ≠ b) : (kindF a b).Ok where
  recs := fun (s : Int × Nat) hf hw r hr => by
    have hr : r ∈ (if s.1 = 1 then [rF a s.2] else if s.1 = 2 then [rF b s.2] else []) := hr
    have hf : s.2 < 18446744073709551616 := hf
    split at hr
    · rw [List.mem_singleton.1 hr]
      exact ⟨decide_eq_true ⟨.inl rfl, rfl⟩, fun d => rF_is h1 h2 (by omega) d⟩
    · split at hr
      · rw [List.mem_singleton.1 hr]
        exact ⟨decide_eq_true ⟨.inr rfl, rfl⟩, fun d => rF_is h3 h4 (by omega) d⟩
      · cases hr
  back := fun (s : Int × Nat) d hf hw hd hm => by
    obtain ⟨k, n⟩ := s
    have hm : k = 0 ∧ n = 0 ∨ k = 1 ∨ k = 2 := of_decide_eq_true hm
    show mfold (σ := Int × Nat) (kindF a b).tk ((kindF a b).step d) ((0 : Int), (0 : Nat)) (if k = 1 then [rF a n] else if k = 2 then [rF b n] else []) = .ok (k, n)
    rcases hm with ⟨rfl, rfl⟩ | rfl | rfl
    · rfl
    · rw [if_pos rfl]
      refine mfold_one (decide_eq_true ⟨.inl rfl, rfl⟩) ?_
      show Except.ok (if a = b then (2 : Int) else 1, n) = _
      rw [if_neg hne]
    · rw [if_neg (by decide), if_pos rfl]
      refine mfold_one (decide_eq_true ⟨.inr rfl, rfl⟩) ?_
      show Except.ok (if b = b then (2 : Int) else 1, n) = _
      rw [if_pos rfl]
  less := fun (s : Int × Nat) d d' hf hw hm hle hn => by rw [show (kindF a b).may d' s = (kindF a b).may d s from rfl, hm] at hn; cases hn
  start := fun d => ⟨.inl ⟨rfl, rfl⟩, by show 0 < 18446744073709551616; omega⟩
  go := fun d (s : Int × Nat) t r (s' : Int × Nat) hi hr hk ht hs => by
    have hs : Except.ok ((if r.num = b then (2 : Int) else 1), r.n) = Except.ok s' := hs
    obtain rfl := Except.ok.inj hs
    have := (isrec_facts hr).1
    refine ⟨.inr ?_, by show r.n < 18446744073709551616; omega⟩
    show (if r.num = b then (2 : Int) else 1) = 1 ∨ (if r.num = b then (2 : Int) else 1) = 2
    split
    · exact .inr rfl
    · exact .inl rfl
  ends := fun d (s : Int × Nat) t hd hi ht => ⟨decide_eq_true hi.1, hi.2, by show 0 ≤ _; omega⟩
/-- A's records stand before and behind B's -/
def Fld.wrap (A B : Fld) (pre post : A.σ → List Rec) : Fld := { A.and B with out := fun s => pre s.1 ++ B.out s.2 ++ post s.1 }
theorem Fld.Ok.wrap {A B : Fld} (hA : A.Ok) (hB : B.Ok) (hap : A.Apart B) {pre post : A.σ → List Rec} (hpp : ∀ a, pre a ++ post a = A.out a) : (A.wrap B pre post).Ok where
  recs := fun s hf hw r hr => by
    have hr : r ∈ pre s.1 ++ B.out s.2 ++ post s.1 := hr
    refine (hA.and hB hap).recs s hf hw r ?_
    show r ∈ A.out s.1 ++ B.out s.2
    rw [← hpp]
    simp only [List.mem_append] at hr ⊢
    rcases hr with (h | h) | h
    · exact .inl (.inl h)
    · exact .inr h
    · exact .inl (.inr h)
  back := fun s d hf hw hd hm => by
    have hw : A.wt s.1 + B.wt s.2 ≤ 1000000 := hw
    have hm : (A.may d s.1 && B.may d s.2) = true := hm
    rw [Bool.and_eq_true] at hm
    have ra := hA.recs s.1 hf.1 (by omega)
    have rb := hB.recs s.2 hf.2 (by omega)
    rw [← hpp] at ra
    have fa : (pre s.1 ++ B.out s.2 ++ post s.1).filter A.tk = A.out s.1 := by
      rw [← hpp, List.filter_append, List.filter_append, filter_self fun r hr => (ra r (List.mem_append_left _ hr)).1, filter_self fun r hr => (ra r (List.mem_append_right _ hr)).1, filter_none fun r hr => ?_, List.append_nil]
      cases h : A.tk r
      · rfl
      · exact absurd ⟨h, (rb r hr).1⟩ (hap r)
    have fn : ∀ r ∈ pre s.1 ++ post s.1, B.tk r = false := fun r hr => by
      cases h : B.tk r
      · rfl
      · exact absurd ⟨(ra r hr).1, h⟩ (hap r)
    have fb : (pre s.1 ++ B.out s.2 ++ post s.1).filter B.tk = B.out s.2 := by
      rw [List.filter_append, List.filter_append, filter_none fun r hr => fn r (List.mem_append_left _ hr), filter_none fun r hr => fn r (List.mem_append_right _ hr), filter_self fun r hr => (rb r hr).1, List.nil_append, List.append_nil]
    exact Fld.and_ok hap ((Fld.rd_other fa).trans (hA.back s.1 d hf.1 (by omega) hd hm.1)) ((Fld.rd_other fb).trans (hB.back s.2 d hf.2 (by omega) hd hm.2))
  less := fun s d d' hf hw hm hle hn => by
    have hw : A.wt s.1 + B.wt s.2 ≤ 1000000 := hw
    have hm : (A.may d s.1 && B.may d s.2) = true := hm
    have hn : (A.may d' s.1 && B.may d' s.2) = false := hn
    rw [Bool.and_eq_true] at hm
    have ra := hA.recs s.1 hf.1 (by omega)
    have rb := hB.recs s.2 hf.2 (by omega)
    rw [← hpp] at ra
    have fa : (pre s.1 ++ B.out s.2 ++ post s.1).filter A.tk = A.out s.1 := by
      rw [← hpp, List.filter_append, List.filter_append, filter_self fun r hr => (ra r (List.mem_append_left _ hr)).1, filter_self fun r hr => (ra r (List.mem_append_right _ hr)).1, filter_none fun r hr => ?_, List.append_nil]
      cases h : A.tk r
      · rfl
      · exact absurd ⟨h, (rb r hr).1⟩ (hap r)
    have fn : ∀ r ∈ pre s.1 ++ post s.1, B.tk r = false := fun r hr => by
      cases h : B.tk r
      · rfl
      · exact absurd ⟨(ra r hr).1, h⟩ (hap r)
    have fb : (pre s.1 ++ B.out s.2 ++ post s.1).filter B.tk = B.out s.2 := by
      rw [List.filter_append, List.filter_append, filter_none fun r hr => fn r (List.mem_append_left _ hr), filter_none fun r hr => fn r (List.mem_append_right _ hr), filter_self fun r hr => (rb r hr).1, List.nil_append, List.append_nil]
    cases h1 : A.may d' s.1 with
    | false =>
      obtain ⟨c, hc⟩ := hA.less s.1 d d' hf.1 (by omega) hm.1 hle h1
      exact Fld.and_no1 hap ⟨c, (Fld.rd_other fa).trans hc⟩
    | true =>
      rw [h1, Bool.true_and] at hn
      obtain ⟨c, hc⟩ := hB.less s.2 d d' hf.2 (by omega) hm.2 hle hn
      exact Fld.and_no2 hap ⟨c, (Fld.rd_other fb).trans hc⟩
  start := fun d => (hA.and hB hap).start d
  go := fun d s t r s' hi hr hk ht hs => (hA.and hB hap).go d s t r s' hi hr hk ht hs
  ends := fun d s t hd hi ht => (hA.and hB hap).ends d s t hd hi ht
theorem num_out (num n : Nat) : ((numF num).out n).flatMap Rec.raw = if n = 0 then [] else (rF num n).raw := by
  show (if n = 0 then [] else [rF num n]).flatMap Rec.raw = _
  split
  · rfl
  · simp
theorem bytes_out (num : Nat) (a : List UInt8) : ((bytesF num).out a).flatMap Rec.raw = if a = [] then [] else (rB num a).raw := by
  show (if a = [] then [] else [rB num a]).flatMap Rec.raw = _
  split
  · rfl
  · simp
theorem one_out (c : Prop) [Decidable c] (r : Rec) : (if c then [r] else []).flatMap Rec.raw = if c then r.raw else [] := by
  split
  · simp
  · rfl
theorem out_wrap (A B : Fld) (pre post : A.σ → List Rec) (a : A.σ) (b : B.σ) : ((A.wrap B pre post).out (a, b)).flatMap Rec.raw = (pre a).flatMap Rec.raw ++ (B.out b).flatMap Rec.raw ++ (post a).flatMap Rec.raw := by
  show (pre a ++ B.out b ++ post a).flatMap Rec.raw = _
  rw [List.flatMap_append, List.flatMap_append]
end Go.Proofs.YtandoppfbilhbaaGreatDoor
