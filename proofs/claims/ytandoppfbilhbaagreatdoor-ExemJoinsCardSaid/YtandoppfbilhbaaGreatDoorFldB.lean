/-
  Fields: a text, a number, a list of messages, of attributes.
-/
import Derived.Test.YtandoppfbilhbaaGreatDoorFld
import Derived.Test.YtandoppfbilhbaaGreatDoorValBack
import Derived.Test.YtandoppfbilhbaaGreatDoorValTwice
namespace Go.Proofs.YtandoppfbilhbaaGreatDoor
open Go.RowKit

theorem mfold_one {σ : Type} {tk : Rec → Bool} {step : σ → Rec → Except Nat σ} {s s' : σ} {r : Rec} (hk : tk r = true) (h : step s r = .ok s') : mfold tk step s [r] = .ok s' := by
  rw [mfold, if_pos hk, h]; rfl
def textF (num : Nat) : Fld where
  σ := List UInt8
  z := []
  tk r := decide (r.num = num ∧ r.ty = 2)
  step _ _ r := if uvalid r.s then .ok r.s else .error 5
  out s := if s = [] then [] else [rB num s]
  may _ s := uvalid s
  fit s := s.length ≤ 9223372036854775807
  wt s := s.length
  w0 := 0
  inv _ s t := uvalid s = true ∧ s.length ≤ t
theorem textF_ok {num : Nat} (h1 : 1 ≤ num) (h2 : num ≤ 536870911) : (textF num).Ok where
  recs := fun (s : List UInt8) hf hw r hr => by
    have hr : r ∈ (if s = [] then [] else [rB num s]) := hr
    split at hr
    · cases hr
    · rw [List.mem_singleton.1 hr]
      have hf : s.length ≤ 9223372036854775807 := hf
      exact ⟨decide_eq_true ⟨rfl, rfl⟩, fun d => rB_is h1 h2 (by omega) d⟩
  back := fun (s : List UInt8) d hf hw hd hm => by
    show mfold (textF num).tk ((textF num).step d) [] (if s = [] then [] else [rB num s]) = .ok s
    split
    · rename_i h; rw [h]; rfl
    · exact mfold_one (decide_eq_true ⟨rfl, rfl⟩) (if_pos hm)
  less := fun (s : List UInt8) d d' hf hw hm hle hn => by rw [show (textF num).may d' s = (textF num).may d s from rfl, hm] at hn; cases hn
  start := fun d => ⟨rfl, Nat.le_refl _⟩
  go := fun d (s : List UInt8) t r (s' : List UInt8) hi hr hk ht hs => by
    have hs : (if uvalid r.s then Except.ok r.s else .error 5) = Except.ok s' := hs
    split at hs
    · rename_i hu
      obtain rfl := Except.ok.inj hs
      exact ⟨hu, by have := isrec_s hr; show r.s.length ≤ _; omega⟩
    · cases hs
  ends := fun d (s : List UInt8) t hd hi ht => ⟨hi.1, by have : s.length ≤ t := hi.2; show s.length ≤ _; omega, by have : s.length ≤ t := hi.2; show s.length ≤ 0 + _; omega⟩
def var32F (num : Nat) : Fld where
  σ := Nat
  z := 0
  tk r := decide (r.num = num ∧ r.ty = 0)
  step _ _ r := .ok (r.n % 4294967296)
  out n := if n = 0 then [] else [rN num n]
  may _ _ := true
  fit n := n < 4294967296
  wt _ := 0
  w0 := 0
  inv _ n _ := n < 4294967296
theorem var32F_ok {num : Nat} (h1 : 1 ≤ num) (h2 : num ≤ 536870911) : (var32F num).Ok where
  recs := fun (s : Nat) hf hw r hr => by
    have hr : r ∈ (if s = 0 then [] else [rN num s]) := hr
    have hf : s < 4294967296 := hf
    split at hr
    · cases hr
    · rw [List.mem_singleton.1 hr]
      exact ⟨decide_eq_true ⟨rfl, rfl⟩, fun d => rN_is h1 h2 (by omega) d⟩
  back := fun (s : Nat) d hf hw hd hm => by
    have hf : s < 4294967296 := hf
    show mfold (σ := Nat) (var32F num).tk ((var32F num).step d) (0 : Nat) (if s = 0 then [] else [rN num s]) = .ok s
    split
    · rename_i h; rw [h]; rfl
    · refine mfold_one (decide_eq_true ⟨rfl, rfl⟩) ?_
      show Except.ok (s % 4294967296) = _
      rw [Nat.mod_eq_of_lt hf]
  less := fun (s : Nat) d d' hf hw hm hle hn => by cases hn
  start := fun d => by show 0 < 4294967296; omega
  go := fun d (s : Nat) t r (s' : Nat) hi hr hk ht hs => by
    have hs : Except.ok (r.n % 4294967296) = Except.ok s' := hs
    obtain rfl := Except.ok.inj hs
    show r.n % 4294967296 < 4294967296
    omega
  ends := fun d (s : Nat) t hd hi ht => ⟨rfl, hi, by show 0 ≤ _; omega⟩
/-- a message that stands in lists -/
structure Sub (α : Type) where
  rd : Int → List UInt8 → Except Nat α
  out : α → List UInt8
  may : Int → α → Bool
  fit : α → Prop
  wt : α → Nat
structure Sub.Ok {α : Type} (S : Sub α) : Prop where
  len : ∀ x, (S.out x).length ≤ S.wt x
  back : ∀ x d, S.fit x → S.wt x ≤ 1000000 → 0 ≤ d → S.may d x = true → S.rd d (S.out x) = .ok x
  less : ∀ x d d', S.fit x → S.wt x ≤ 1000000 → 0 ≤ d → S.may d x = true → d' ≤ d → (d' < 0 ∨ S.may d' x = false) → ∃ c, S.rd d' (S.out x) = .error c
  twice : ∀ t x d, t.length ≤ 1000000 → S.rd d t = .ok x → 0 ≤ d ∧ S.may d x = true ∧ S.fit x ∧ S.wt x ≤ 100 + 51 * t.length
def lsum (l : List Nat) : Nat := l.foldr (· + ·) 0
theorem lsum_snoc (l : List Nat) (n : Nat) : lsum (l ++ [n]) = lsum l + n := foldr_snoc l n
theorem lsum_mem {l : List Nat} {n : Nat} (h : n ∈ l) : n ≤ lsum l := by
  induction l with
  | nil => cases h
  | cons a l ih =>
    show n ≤ a + lsum l
    rcases List.mem_cons.1 h with rfl | h
    · omega
    · have := ih h; omega
def listTk (num : Nat) (r : Rec) : Bool := decide (r.num = num ∧ r.ty = 2)
def listStep {α : Type} (S : Sub α) (d : Int) (s : List α) (r : Rec) : Except Nat (List α) := match S.rd (d - 1) r.s with
  | .error c => .error c
  | .ok x => .ok (s ++ [x])
def listF {α : Type} (num : Nat) (S : Sub α) : Fld where
  σ := List α
  z := []
  tk r := listTk num r
  step d s r := listStep S d s r
  out s := s.map fun x => rB num (S.out x)
  may d s := s.all fun x => decide (1 ≤ d) && S.may (d - 1) x
  fit s := ∀ x ∈ s, S.fit x
  wt s := lsum (s.map S.wt)
  w0 := 0
  inv d s t := (∀ x ∈ s, 1 ≤ d ∧ S.may (d - 1) x = true ∧ S.fit x) ∧ lsum (s.map S.wt) ≤ 51 * t
theorem listF_back {α : Type} {num : Nat} {S : Sub α} {d : Int} : ∀ (l s : List α), (∀ x ∈ l, S.rd (d - 1) (S.out x) = .ok x) → mfold (listTk num) (listStep S d) s (l.map fun x => rB num (S.out x)) = .ok (s ++ l)
  | [], s, _ => by simp [mfold]
  | x :: l, s, h => by
    rw [List.map_cons, mfold, if_pos (show listTk num (rB num (S.out x)) = true from decide_eq_true ⟨rfl, rfl⟩)]
    have e : listStep S d s (rB num (S.out x)) = .ok (s ++ [x]) := by
      unfold listStep
      rw [show (rB num (S.out x)).s = S.out x from rfl, h x (List.mem_cons_self ..)]
    rw [e]
    dsimp only
    rw [listF_back l _ fun y hy => h y (List.mem_cons_of_mem _ hy), List.append_assoc]
    rfl
theorem listF_less {α : Type} {num : Nat} {S : Sub α} {d : Int} : ∀ (l s : List α), (∀ x ∈ l, S.rd (d - 1) (S.out x) = .ok x ∨ ∃ c, S.rd (d - 1) (S.out x) = .error c) → (∃ x ∈ l, ∃ c, S.rd (d - 1) (S.out x) = .error c) → ∃ c, mfold (listTk num) (listStep S d) s (l.map fun x => rB num (S.out x)) = .error c
  | [], s, _, h => by obtain ⟨x, hx, _⟩ := h; cases hx
  | x :: l, s, h, he => by
    rw [List.map_cons, mfold, if_pos (show listTk num (rB num (S.out x)) = true from decide_eq_true ⟨rfl, rfl⟩)]
    rcases h x (List.mem_cons_self ..) with h1 | ⟨c, h1⟩
    · have e : listStep S d s (rB num (S.out x)) = .ok (s ++ [x]) := by
        unfold listStep
        rw [show (rB num (S.out x)).s = S.out x from rfl, h1]
      rw [e]
      refine listF_less l _ (fun y hy => h y (List.mem_cons_of_mem _ hy)) ?_
      obtain ⟨y, hy, c, hc⟩ := he
      rcases List.mem_cons.1 hy with rfl | hy
      · rw [h1] at hc; cases hc
      · exact ⟨y, hy, c, hc⟩
    · have e : listStep S d s (rB num (S.out x)) = .error c := by
        unfold listStep
        rw [show (rB num (S.out x)).s = S.out x from rfl, h1]
      rw [e]
      exact ⟨c, rfl⟩
theorem listF_ok {α : Type} {num : Nat} {S : Sub α} (hS : S.Ok) (h1 : 1 ≤ num) (h2 : num ≤ 536870911) : (listF num S).Ok where
  recs := fun (s : List α) hf hw r hr => by
    obtain ⟨x, hx, rfl⟩ := List.mem_map.1 hr
    have hw : lsum (s.map S.wt) ≤ 1000000 := hw
    have := lsum_mem (List.mem_map_of_mem (f := S.wt) hx)
    have := hS.len x
    exact ⟨decide_eq_true ⟨rfl, rfl⟩, fun d => rB_is h1 h2 (by omega) d⟩
  back := fun (s : List α) d hf hw hd hm => by
    have hw : lsum (s.map S.wt) ≤ 1000000 := hw
    have hm : (s.all fun x => decide (1 ≤ d) && S.may (d - 1) x) = true := hm
    rw [List.all_eq_true] at hm
    refine (listF_back s [] fun x hx => ?_).trans (by rw [List.nil_append]; rfl)
    have h3 := hm x hx
    simp only [Bool.and_eq_true, decide_eq_true_eq] at h3
    exact hS.back x _ (hf x hx) (by have := lsum_mem (List.mem_map_of_mem (f := S.wt) hx); omega) (by omega) h3.2
  less := fun (s : List α) d d' hf hw hm hle hn => by
    have hw : lsum (s.map S.wt) ≤ 1000000 := hw
    have hm : (s.all fun x => decide (1 ≤ d) && S.may (d - 1) x) = true := hm
    have hn : (s.all fun x => decide (1 ≤ d') && S.may (d' - 1) x) = false := hn
    rw [List.all_eq_true] at hm
    have key : ∀ x ∈ s, S.rd (d' - 1) (S.out x) = .ok x ∨ ∃ c, S.rd (d' - 1) (S.out x) = .error c := fun x _ => by
      cases h : S.rd (d' - 1) (S.out x) with
      | error c => exact .inr ⟨c, rfl⟩
      | ok y =>
        rename_i hx
        have h3 := hm x hx
        simp only [Bool.and_eq_true, decide_eq_true_eq] at h3
        have hwx : S.wt x ≤ 1000000 := by have := lsum_mem (List.mem_map_of_mem (f := S.wt) hx); omega
        by_cases h4 : d' - 1 < 0 ∨ S.may (d' - 1) x = false
        · obtain ⟨c, hc⟩ := hS.less x (d - 1) (d' - 1) (hf x hx) hwx (by omega) h3.2 (by omega) h4
          rw [hc] at h; cases h
        · have h5 := hS.back x (d' - 1) (hf x hx) hwx (by omega) (by
            cases h6 : S.may (d' - 1) x
            · exact absurd (.inr h6) h4
            · rfl)
          rw [h5] at h
          exact .inl h.symm
    refine listF_less s [] key ?_
    rw [List.all_eq_false] at hn
    obtain ⟨x, hx, h4⟩ := hn
    have h3 := hm x hx
    simp only [Bool.and_eq_true, decide_eq_true_eq] at h3 h4
    refine ⟨x, hx, hS.less x (d - 1) (d' - 1) (hf x hx) (by have := lsum_mem (List.mem_map_of_mem (f := S.wt) hx); omega) (by omega) h3.2 (by omega) ?_⟩
    by_cases h5 : d' - 1 < 0
    · exact .inl h5
    · refine .inr ?_
      cases h6 : S.may (d' - 1) x
      · rfl
      · exact absurd ⟨by omega, h6⟩ h4
  start := fun d => ⟨(fun x hx => by cases hx), by show lsum [] ≤ _; simp [lsum]⟩
  go := fun d (s : List α) t r (s' : List α) hi hr hk ht hs => by
    have hs : (match S.rd (d - 1) r.s with
      | .error c => .error c
      | .ok x => .ok (s ++ [x])) = Except.ok s' := hs
    have hk : r.num = num ∧ r.ty = 2 := of_decide_eq_true hk
    cases hx : S.rd (d - 1) r.s with
    | error c => rw [hx] at hs; cases hs
    | ok x =>
      rw [hx] at hs
      obtain rfl := Except.ok.inj hs
      have hb := ((rec_big hr).1 hk.2).2
      have hv := (vput_length r.s.length).1
      obtain ⟨g1, g2, g3, g4⟩ := hS.twice r.s x (d - 1) (by omega) hx
      refine ⟨fun y hy => ?_, ?_⟩
      · rcases List.mem_append.1 hy with hy | hy
        · exact hi.1 y hy
        · rw [List.mem_singleton.1 hy]; exact ⟨by omega, g2, g3⟩
      · have : lsum (s.map S.wt) ≤ 51 * t := hi.2
        show lsum ((s ++ [x]).map S.wt) ≤ _
        rw [List.map_append, List.map_cons, List.map_nil, lsum_snoc]
        omega
  ends := fun d (s : List α) t hd hi ht => by
    refine ⟨?_, fun x hx => (hi.1 x hx).2.2, by have : lsum (s.map S.wt) ≤ 51 * t := hi.2; show lsum (s.map S.wt) ≤ 0 + _; omega⟩
    show (s.all fun x => decide (1 ≤ d) && S.may (d - 1) x) = true
    rw [List.all_eq_true]
    intro x hx
    have := hi.1 x hx
    rw [this.2.1, decide_eq_true this.1]; rfl
/-- attributes -/
def kvS : Sub KV where
  rd d t := kread 1000001 t d
  out := kout
  may d x := kmay x d
  fit := kfit
  wt := kw
theorem kvS_ok : kvS.Ok where
  len := fun x => by have := kout_le x; have := kw_kb x; show (kout x).length ≤ kw x; omega
  back := fun x d hf hw hd hm => kback x d 1000001 hf hw hm hd (by have := kout_le x; have := kw_kb x; have hw : kw x ≤ 1000000 := hw; omega)
  less := fun x d d' hf hw hd hm hle hn => kback_no x d d' 1000001 hf hw hm hle (by
    rw [kmayD]
    rcases hn with hn | hn
    · rw [decide_eq_false (by omega : ¬ 0 ≤ d')]; rfl
    · rw [show kmay x d' = false from hn, Bool.and_false]) (by have := kout_le x; have := kw_kb x; have hw : kw x ≤ 1000000 := hw; omega)
  twice := fun t x d ht h => by
    obtain ⟨a1, a2, a3, _, a5⟩ := (vread_twice 1000001).2 t d x ht h
    exact ⟨a1, a2, a3, a5⟩
theorem kvs_may (num : Nat) (d : Int) : ∀ l : List KV, (listF num kvS).may d l = kmays l d
  | [] => by rw [kmays]; rfl
  | x :: l => by
    rw [kmays, ← kvs_may num d l]
    rfl
theorem kvs_out (num : Nat) : ∀ l : List KV, ((listF num kvS).out l).flatMap Rec.raw = kouts num l
  | [] => by rw [kouts]; rfl
  | x :: l => by rw [kouts, ← kvs_out num l]; rfl
theorem kvs_fit {num : Nat} {l : List KV} (h : (listF num kvS).fit l) : ksfit l := by
  induction l with
  | nil => rw [ksfit]; trivial
  | cons x l ih => rw [ksfit]; exact ⟨h x (List.mem_cons_self ..), ih fun y hy => h y (List.mem_cons_of_mem _ hy)⟩
theorem kvs_fit2 {num : Nat} {l : List KV} (h : ksfit l) : (listF num kvS).fit l := fun x hx => ksfit_at h x hx
theorem kvs_wt (num : Nat) : ∀ l : List KV, (listF num kvS).wt l = ksw l
  | [] => by rw [ksw]; rfl
  | x :: l => by rw [ksw, ← kvs_wt num l]; rfl
end Go.Proofs.YtandoppfbilhbaaGreatDoor
