/-
  Fields: a number that may lack; packed numbers of eight bytes.
-/
import Derived.Test.YtjbingoliffjiaaFld
namespace Go.Proofs.Ytjbingoliffjiaa
open Go.RowKit
def optF (num : Nat) : Fld where
 σ := Bool × Nat
 z := (false, 0)
 tk r := decide (r.num = num ∧ r.ty = 1)
 step _ _ r := .ok (true, r.n)
 out s := if s.1 = true then [rF num s.2] else []
 may _ s := s.1 || decide (s.2 = 0)
 fit s := s.2 < 18446744073709551616
 wt _ := 0
 w0 := 0
 inv _ s _ := (s.1 = true ∨ s.2 = 0) ∧ s.2 < 18446744073709551616
theorem optF_ok {num : Nat} (h1 : 1 ≤ num) (h2 : num ≤ 536870911) : (optF num).Ok where
 recs := fun (s : Bool × Nat) hf hw r hr => by
  have hr : r ∈ (if s.1 = true then [rF num s.2] else []) := hr
  have hf : s.2 < 18446744073709551616 := hf
  split at hr
  ·rw [List.mem_singleton.1 hr]
   exact ⟨decide_eq_true ⟨rfl, rfl⟩, fun d => rF_is h1 h2 (by omega) d⟩
  ·cases hr
 back := fun (s : Bool × Nat) d hf hw hd hm => by
  obtain ⟨b, n⟩ := s
  have hm : (b || decide (n = 0)) = true := hm
  show mfold (σ := Bool × Nat) (optF num).tk ((optF num).step d) (false, (0 : Nat)) (if b = true then [rF num n] else []) = .ok (b, n)
  cases b with
  | true => exact mfold_one (decide_eq_true ⟨rfl, rfl⟩) rfl
  | false =>
   have h0 : n = 0 := of_decide_eq_true (by simpa using hm)
   subst h0
   rfl
 less := fun (s : Bool × Nat) d d' hf hw hm hle hn => by rw [show (optF num).may d' s = (optF num).may d s from rfl, hm] at hn; cases hn
 start := fun d => ⟨.inr rfl, by show 0 < 18446744073709551616; omega⟩
 go := fun d (s : Bool × Nat) t r (s' : Bool × Nat) hi hr hk ht hs => by
  have hs : Except.ok (true, r.n) = Except.ok s' := hs
  obtain rfl := Except.ok.inj hs
  have := (isrec_facts hr).1
  exact ⟨.inl rfl, by show r.n < 18446744073709551616; omega⟩
 ends := fun d (s : Bool × Nat) t hd hi ht => by
  refine ⟨?_, hi.2, by show 0 ≤ _; omega⟩
  show (s.1 || decide (s.2 = 0)) = true
  rcases hi.1 with h | h
  ·rw [h]; rfl
  ·rw [h, decide_eq_true rfl, Bool.or_true]
theorem optF_free (num : Nat) : (optF num).Free := fun _ _ _ _ _ _ => ⟨_, rfl⟩
def fstep (xs : List Nat) (r : Rec) : Except Nat (List Nat) := if r.ty ≠ 2 then .ok (xs ++ [r.n]) else if r.s.length % 8 = 0 then .ok (xs ++ fixs r.s (r.s.length / 8)) else .error 1
def numsF (num : Nat) : Fld where
 σ := List Nat
 z := []
 tk r := decide (r.num = num ∧ (r.ty = 1 ∨ r.ty = 2))
 step _ s r := fstep s r
 out s := if s = [] then [] else [rB num (eights s)]
 may _ _ := true
 fit s := ∀ n ∈ s, n < 18446744073709551616
 wt s := 8 * s.length
 w0 := 0
 inv _ s t := (∀ n ∈ s, n < 18446744073709551616) ∧ 8 * s.length ≤ t
theorem fixs_lt (l : List UInt8) (k : Nat) : ∀ n ∈ fixs l k, n < 18446744073709551616 := fun n hn => by
 obtain ⟨i, _, rfl⟩ := List.mem_map.1 hn
 have h := wlit_lt ((l.drop (8 * i)).take 8)
 have h2 : ((l.drop (8 * i)).take 8).length ≤ 8 := List.length_take_le ..
 have h3 : 256 ^ ((l.drop (8 * i)).take 8).length ≤ 256 ^ 8 := Nat.pow_le_pow_right (by omega) h2
 omega
theorem fstep_one {xs : List Nat} {r : Rec} (h : r.ty = 1) : fstep xs r = .ok (xs ++ [r.n]) := if_pos (by omega)
theorem fstep_len {xs : List Nat} {r : Rec} (h : r.ty = 2) : fstep xs r = if r.s.length % 8 = 0 then .ok (xs ++ fixs r.s (r.s.length / 8)) else .error 1 := if_neg (by omega)
theorem numsF_ok {num : Nat} (h1 : 1 ≤ num) (h2 : num ≤ 536870911) : (numsF num).Ok where
 recs := fun (s : List Nat) hf hw r hr => by
  have hr : r ∈ (if s = [] then [] else [rB num (eights s)]) := hr
  have hw : 8 * s.length ≤ 1000000 := hw
  split at hr
  ·cases hr
  ·rw [List.mem_singleton.1 hr]
   exact ⟨decide_eq_true ⟨rfl, .inr rfl⟩, fun d => rB_is h1 h2 (by rw [eights_len]; omega) d⟩
 back := fun (s : List Nat) d hf hw hd hm => by
  show mfold (σ := List Nat) (numsF num).tk ((numsF num).step d) ([] : List Nat) (if s = [] then [] else [rB num (eights s)]) = .ok s
  split
  ·rename_i h; rw [h]; rfl
  ·refine mfold_one (decide_eq_true ⟨rfl, .inr rfl⟩) ?_
   show fstep [] (rB num (eights s)) = .ok s
   rw [fstep_len rfl]
   have hl : (rB num (eights s)).s.length = 8 * s.length := eights_len s
   rw [hl, if_pos (by omega), show 8 * s.length / 8 = s.length by omega]
   have hf : ∀ n ∈ s, n < 18446744073709551616 := hf
   show Except.ok ([] ++ fixs (eights s) s.length) = _
   rw [fixs_eights s (fun n hn => by have := hf n hn; omega)]
   rfl
 less := fun (s : List Nat) d d' hf hw hm hle hn => by cases hn
 start := fun d => ⟨(fun n hn => by cases hn), by show 8 * 0 ≤ 0; omega⟩
 go := fun d (s : List Nat) t r (s' : List Nat) hi hr hk ht hs => by
  have hs : fstep s r = .ok s' := hs
  have hk : r.num = num ∧ (r.ty = 1 ∨ r.ty = 2) := of_decide_eq_true hk
  have hb := rec_big hr
  rcases hk.2 with h | h
  ·rw [fstep_one h] at hs
   obtain rfl := Except.ok.inj hs
   have h9 := hb.2.2 h
   have hl : 8 * s.length ≤ t := hi.2
   refine ⟨fun n hn => ?_, by rw [List.length_append, List.length_cons, List.length_nil]; omega⟩
   rcases List.mem_append.1 hn with hn | hn
   ·exact hi.1 n hn
   ·rw [List.mem_singleton.1 hn]; have := h9.1; omega
  ·rw [fstep_len h] at hs
   split at hs
   ·rename_i h8
    obtain rfl := Except.ok.inj hs
    have h9 := (hb.1 h).2
    have hl : 8 * s.length ≤ t := hi.2
    refine ⟨fun n hn => ?_, by rw [List.length_append, fixs_len]; omega⟩
    rcases List.mem_append.1 hn with hn | hn
    ·exact hi.1 n hn
    ·exact fixs_lt _ _ n hn
   ·cases hs
 ends := fun d (s : List Nat) t hd hi ht => ⟨rfl, hi.1, by have : 8 * s.length ≤ t := hi.2; show 8 * s.length ≤ 0 + _; omega⟩
theorem numsF_free (num : Nat) : (numsF num).Free := fun d (s : List Nat) (s' : List Nat) r y hy => by
 have hy : fstep s r = .ok y := hy
 show ∃ y', fstep s' r = .ok y'
 unfold fstep at hy ⊢
 split at hy
 ·rename_i h; rw [if_pos h]; exact ⟨_, rfl⟩
 ·rename_i h
  rw [if_neg h]
  split at hy
  ·rename_i h8; rw [if_pos h8]; exact ⟨_, rfl⟩
  ·cases hy
theorem fstep_app (tk : Rec → Bool) : ∀ (ts : List Rec) (s p q : List Nat), mfold tk fstep p ts = .ok q → mfold tk fstep (s ++ p) ts = .ok (s ++ q)
 | [], s, p, q, h => by rw [mfold] at h ⊢; obtain rfl := Except.ok.inj h; rfl
 | r :: ts, s, p, q, h => by
  rw [mfold] at h ⊢
  split at h
  ·rename_i hk
   rw [if_pos hk]
   cases hp : fstep p r with
   | error c => rw [hp] at h; cases h
   | ok p' =>
    rw [hp] at h
    have e2 : fstep (s ++ p) r = .ok (s ++ p') := by
     unfold fstep at hp ⊢
     split at hp
     ·rename_i h; rw [if_pos h, ← Except.ok.inj hp, List.append_assoc]
     ·rename_i h
      rw [if_neg h]
      split at hp
      ·rename_i h8; rw [if_pos h8, ← Except.ok.inj hp, List.append_assoc]
      ·cases hp
    rw [e2]
    exact fstep_app tk ts s p' q h
  ·rename_i hk
   rw [if_neg hk]
   exact fstep_app tk ts s p q h
theorem nums_join {num : Nat} {d : Int} {rs ts : List Rec} {x y z : List Nat} (h1 : (numsF num).rd d ([] : List Nat) rs = .ok x) (h2 : (numsF num).rd d ([] : List Nat) ts = .ok y) (h3 : (numsF num).rd d ([] : List Nat) (rs ++ ts) = .ok z) : z = x ++ y := by
 have h1 : mfold (numsF num).tk fstep [] rs = .ok x := h1
 have h2 : mfold (numsF num).tk fstep [] ts = .ok y := h2
 have h3 : mfold (numsF num).tk fstep [] (rs ++ ts) = .ok z := h3
 rw [mfold_append, h1] at h3
 have h4 := fstep_app (numsF num).tk ts x [] y h2
 rw [List.append_nil] at h4
 exact (Except.ok.inj (h4.symm.trans h3)).symm
theorem opt_join {num : Nat} {d : Int} {rs ts : List Rec} {x y z : Bool × Nat} (h1 : (optF num).rd d (false, (0 : Nat)) rs = .ok x) (h2 : (optF num).rd d (false, (0 : Nat)) ts = .ok y) (h3 : (optF num).rd d (false, (0 : Nat)) (rs ++ ts) = .ok z) : (y.1 = false ∧ z = x) ∨ (y.1 = true ∧ z = y) := by
 have key : ∀ (ts : List Rec) (s q : Bool × Nat), mfold (optF num).tk (fun _ r => .ok (true, r.n)) s ts = .ok q → (∀ s', mfold (optF num).tk (fun _ r => .ok (true, r.n)) s' ts = .ok q) ∧ q.1 = true ∨ q = s ∧ ∀ s' : Bool × Nat, mfold (optF num).tk (fun _ r => .ok (true, r.n)) s' ts = (.ok s' : Except Nat (Bool × Nat)) := by
  intro ts
  induction ts with
  | nil => intro s q h; rw [mfold] at h; exact .inr ⟨(Except.ok.inj h).symm, fun s' => by rw [mfold]⟩
  | cons r ts ih =>
   intro s q h
   rw [mfold] at h
   split at h
   ·rename_i hk
    dsimp only at h
    refine .inl ?_
    rcases ih _ _ h with ⟨h1, h2⟩ | ⟨h1, h2⟩
    ·exact ⟨fun s' => by rw [mfold, if_pos hk]; exact h1 _, h2⟩
    ·subst h1
     exact ⟨fun s' => by rw [mfold, if_pos hk]; exact h2 _, rfl⟩
   ·rename_i hk
    rcases ih _ _ h with ⟨h1, h2⟩ | ⟨h1, h2⟩
    ·exact .inl ⟨fun s' => by rw [mfold, if_neg hk]; exact h1 _, h2⟩
    ·exact .inr ⟨h1, fun s' => by rw [mfold, if_neg hk]; exact h2 _⟩
 have h1 : mfold (optF num).tk (fun _ r => .ok (true, r.n)) (false, 0) rs = .ok x := h1
 have h2 : mfold (optF num).tk (fun _ r => .ok (true, r.n)) (false, 0) ts = .ok y := h2
 have h3 : mfold (optF num).tk (fun _ r => .ok (true, r.n)) (false, 0) (rs ++ ts) = .ok z := h3
 rw [mfold_append, h1] at h3
 dsimp only at h3
 rcases key ts _ _ h2 with ⟨g1, g2⟩ | ⟨g1, g2⟩
 ·rw [g1] at h3
  exact .inr ⟨g2, (Except.ok.inj h3).symm⟩
 ·rw [g2] at h3
  exact .inl ⟨by rw [g1], (Except.ok.inj h3).symm⟩
end Go.Proofs.Ytjbingoliffjiaa
