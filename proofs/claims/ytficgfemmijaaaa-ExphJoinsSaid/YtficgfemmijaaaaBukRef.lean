/-
  hyglaw14.BucketsJoins.
-/
import Derived.Test.YtficgfemmijaaaaFirst14
import Derived.Test.YtficgfemmijaaaaMsgMath
import Derived.Test.YtficgfemmijaaaaMsgWrite
import Derived.Deep.Strs
import Derived.IntWalk
import Derived.Test.YtficgfemmijaaaaOrd
namespace Go.Proofs.Ytficgfemmijaaaa
open Go.RowKit
theorem pstep_front (c : List Nat) {xs ys : List Nat} {r : Rec} (h : pstep xs r = .ok ys) : pstep (c ++ xs) r = .ok (c ++ ys) := by
 unfold pstep at h ⊢
 split at h
 ·rename_i h1
  rw [if_pos h1]
  simp only [Except.ok.injEq] at h ⊢
  rw [← h, List.append_assoc]
 ·rename_i h1
  rw [if_neg h1]
  cases hw : wvars r.s with
  | error c => rw [hw] at h; cases h
  | ok ns =>
   rw [hw] at h
   simp only [Except.ok.injEq] at h ⊢
   rw [← h, List.append_assoc]
theorem bfold_from : ∀ (rs : List Rec) (c : List Nat) (o : Int) {a y : Bk}, mfold btk bstep a rs = .ok y → ∃ z, mfold btk bstep ⟨o, c ++ a.cs⟩ rs = .ok z ∧ z.cs = c ++ y.cs ∧ (z.off = y.off ∨ (y.off = a.off ∧ z.off = o))
 | [], c, o, a, y, h => by
  simp only [mfold, Except.ok.injEq] at h
  subst h
  exact ⟨_, rfl, rfl, .inr ⟨rfl, rfl⟩⟩
 | r :: rs, c, o, a, y, h => by
  rw [mfold] at h ⊢
  split at h
  ·rename_i h1
   rw [if_pos h1]
   cases hs : bstep a r with
   | error e => rw [hs] at h; cases h
   | ok b =>
    rw [hs] at h
    unfold bstep at hs ⊢
    split at hs
    ·rename_i h2
     rw [if_pos h2]
     simp only [Except.ok.injEq] at hs
     subst hs
     obtain ⟨z, g1, g2, g3⟩ := bfold_from rs c (zag (r.n % 2 ^ 32)) h
     refine ⟨z, g1, g2, ?_⟩
     rcases g3 with g3 | ⟨g3, g4⟩
     ·exact .inl g3
     ·exact .inl (by rw [g4, g3])
    ·rename_i h2
     rw [if_neg h2]
     cases hp : pstep a.cs r with
     | error e => rw [hp] at hs; cases hs
     | ok ys =>
      rw [hp] at hs
      simp only [Except.ok.injEq] at hs
      subst hs
      dsimp only
      rw [pstep_front c hp]
      dsimp only
      obtain ⟨z, g1, g2, g3⟩ := bfold_from rs c o h
      exact ⟨z, g1, g2, g3⟩
  ·rename_i h1
   rw [if_neg h1]
   exact bfold_from rs c o h
theorem bread_unk {l : List UInt8} {d : Int} {x : Bk} {u : List UInt8} (h : bread l d = .ok (x, u)) : u.length ≤ l.length := by
 unfold bread mread at h
 split at h
 ·cases h
 ·cases hw : wall l d with
  | error c => rw [hw] at h; cases h
  | ok rs =>
   rw [hw] at h
   dsimp only at h
   cases hf : mfold btk bstep ⟨0, []⟩ rs with
   | error c => rw [hf] at h; cases h
   | ok x' =>
    rw [hf] at h
    simp only [Except.ok.injEq, Prod.mk.injEq] at h
    rw [← h.2]
    have := munk_le btk rs
    rw [(wall_raws _ (Nat.le_refl _) hw).1] at this
    exact this
theorem bread_cs {l : List UInt8} {d : Int} {x : Bk} {u : List UInt8} (h : bread l d = .ok (x, u)) : x.cs.length ≤ l.length ∧ BkOk x := by
 unfold bread mread at h
 split at h
 ·cases h
 ·cases hw : wall l d with
  | error c => rw [hw] at h; cases h
  | ok rs =>
   rw [hw] at h
   dsimp only at h
   cases hf : mfold btk bstep ⟨0, []⟩ rs with
   | error c => rw [hf] at h; cases h
   | ok x' =>
    rw [hf] at h
    simp only [Except.ok.injEq, Prod.mk.injEq] at h
    rw [← h.1]
    have h1 := bfold_len rs (wall_recs _ (Nat.le_refl _) hw) hf
    rw [(wall_raws _ (Nat.le_refl _) hw).1] at h1
    exact ⟨by have := h1.1; simpa using this, h1.2 ⟨by decide, by decide, by simp⟩⟩
theorem bread_join {s t : List UInt8} {d : Int} {x y : Bk} {u v : List UInt8} (h1 : bread s d = .ok (x, u)) (h2 : bread t d = .ok (y, v)) : ∃ z, bread (s ++ t) d = .ok (z, u ++ v) ∧ z.cs = x.cs ++ y.cs ∧ (z.off = y.off ∨ (y.off = 0 ∧ z.off = x.off)) := by
 unfold bread mread at h1 h2 ⊢
 split at h1
 ·cases h1
 ·rename_i hd
  rw [if_neg hd] at h2 ⊢
  cases hs : wall s d with
  | error c => rw [hs] at h1; cases h1
  | ok rs =>
   cases ht : wall t d with
   | error c => rw [ht] at h2; cases h2
   | ok ts =>
    rw [hs] at h1
    rw [ht] at h2
    rw [wall_append _ t (Nat.le_refl _) hs, ht]
    dsimp only at h1 h2 ⊢
    cases hf : mfold btk bstep ⟨0, []⟩ rs with
    | error c => rw [hf] at h1; cases h1
    | ok x' =>
     cases hg : mfold btk bstep ⟨0, []⟩ ts with
     | error c => rw [hg] at h2; cases h2
     | ok y' =>
      rw [hf] at h1
      rw [hg] at h2
      simp only [Except.ok.injEq, Prod.mk.injEq] at h1 h2
      obtain ⟨rfl, rfl⟩ := h1
      obtain ⟨rfl, rfl⟩ := h2
      obtain ⟨z, g1, g2, g3⟩ := bfold_from ts x'.cs x'.off hg
      rw [List.append_nil] at g1
      rw [mfold_append, hf]
      dsimp only
      rw [g1]
      dsimp only
      exact ⟨z, by rw [munk_append], g2, g3⟩
open Go.RowKit
theorem zag_back32 (n : Int) (h1 : -2147483648 ≤ n) (h2 : n ≤ 2147483647) : ∃ z : Nat, zig n = z ∧ z < 2^64 ∧ zag (z % 2^32) = n := by
 refine ⟨(zig n).toNat, ?_, ?_, ?_⟩ <;> unfold zig <;> (try unfold zag) <;> split <;> (try split) <;> omega
def bkRecs (x : Bk) : List Rec :=
 (if (zig x.off).toNat = 0 then [] else [⟨1, 0, (zig x.off).toNat, [], vput (8 * 1 + 0) ++ vput (zig x.off).toNat⟩]) ++
 (if vputs x.cs = [] then [] else [⟨2, 2, 0, vputs x.cs, vput (8 * 2 + 2) ++ (vput (vputs x.cs).length ++ vputs x.cs)⟩])
theorem wrec_ok {num kind : Nat} (h1 : 1 ≤ num) (h2 : num ≤ 536870911) (h3 : kind ≤ 5) (t : List UInt8) : wrec num kind t = vput (8 * num + kind) ++ t := by
 unfold wrec
 rw [wtag_ok h1 h2 h3, if_neg (vput_ne _)]
theorem bkRecs_raw (x : Bk) : (bkRecs x).flatMap Rec.raw = (bparts x).flatten := by
 have e1 := wrec_ok (num := 1) (kind := 0) (by omega) (by omega) (by omega)
 have e2 := wrec_ok (num := 2) (kind := 2) (by omega) (by omega) (by omega)
 unfold bkRecs bparts wvarP wbytesP
 rw [List.flatMap_append, List.flatten_append]
 congr 1
 ·split
  ·rfl
  ·rw [show wrec ((1 : Nat) : Int) 0 (vput (zig x.off).toNat) = _ from e1 _]
   simp
 ·rw [show x.cs.flatMap vput = vputs x.cs from rfl]
  split
  ·rfl
  ·rw [show wrec ((2 : Nat) : Int) 2 (vput (vputs x.cs).length ++ vputs x.cs) = _ from e2 _]
   simp
theorem bkRecs_rec {x : Bk} (hx : BkOk x) (hl : (vputs x.cs).length < 2 ^ 64) : ∀ r ∈ bkRecs x, ∀ d, IsRec d r := by
 have hz := (zig_nat hx.lo hx.hi).2
 intro r hr d
 unfold bkRecs at hr
 rcases List.mem_append.1 hr with h | h
 ·split at h
  ·cases h
  ·rw [List.mem_singleton] at h
   subst h
   exact txt_isrec (txt_num (by omega) (by omega) (by omega)) d
 ·split at h
  ·cases h
  ·rw [List.mem_singleton] at h
   subst h
   exact txt_isrec (txt_bytes (by omega) (by omega) hl) d
theorem bkRecs_tk (x : Bk) : ((bkRecs x).all fun r => btk r) = true := by
 unfold bkRecs
 rw [List.all_append]
 split <;> split <;> simp [btk]
theorem vputs_none {l : List Nat} (h : vputs l = []) : l = [] := by
 cases l with
 | nil => rfl
 | cons n l =>
  have e : vputs (n :: l) = vput n ++ vputs l := rfl
  rw [e] at h
  exact absurd (List.append_eq_nil_iff.1 h).1 (vput_ne n)
theorem bkRecs_fold {x : Bk} (hx : BkOk x) : mfold btk bstep ⟨0, []⟩ (bkRecs x) = .ok x := by
 obtain ⟨z, hz, hz1, hz2⟩ := zag_back32 x.off hx.lo hx.hi
 have hzn : (zig x.off).toNat = z := by omega
 have hw := wvars_vputs x.cs hx.each
 unfold bkRecs
 rw [hzn, mfold_append]
 have e1 : mfold btk bstep ⟨0, []⟩ (if z = 0 then [] else [⟨1, 0, z, [], vput (8 * 1 + 0) ++ vput z⟩]) = .ok ⟨x.off, []⟩ := by
  split
  ·rename_i h
   subst h
   have : x.off = 0 := by rw [← hz2]; rfl
   rw [this]; rfl
  ·simp [mfold, btk, bstep, hz2]
 rw [e1]
 dsimp only
 split
 ·rename_i h
  have := vputs_none h
  rw [mfold, ← this]
 ·simp [mfold, btk, bstep, pstep, hw]
theorem bread_put {x : Bk} {u : List UInt8} {d : Int} (hx : BkOk x) (hl : (vputs x.cs).length < 2 ^ 64) (hm : bmay u d = true) : bread (bput x u) d = .ok (x, u) := by
 unfold bmay at hm
 rw [Bool.and_eq_true, decide_eq_true_iff] at hm
 have := mread_put_ok hm.1 (bkRecs_rec hx hl) (bkRecs_fold hx) (bkRecs_tk x) hm.2
 rw [bkRecs_raw] at this
 unfold bread bput
 rw [List.flatten_append]
 simpa using this
theorem bread_may {l : List UInt8} {d : Int} {x : Bk} {u : List UInt8} (h : bread l d = .ok (x, u)) : bmay u d = true := by
 unfold bread mread at h
 split at h
 ·cases h
 ·rename_i hd
  unfold bmay
  rw [Bool.and_eq_true, decide_eq_true_iff]
  refine ⟨by omega, ?_⟩
  cases hw : wall l d with
  | error c => rw [hw] at h; cases h
  | ok rs =>
   rw [hw] at h
   dsimp only at h
   cases hf : mfold btk bstep ⟨0, []⟩ rs with
   | error c => rw [hf] at h; cases h
   | ok y =>
    rw [hf] at h
    simp only [Except.ok.injEq, Prod.mk.injEq] at h
    rw [← h.2]
    exact munk_ok hw
theorem vputs_len10 : ∀ (l : List Nat), (vputs l).length ≤ 10 * l.length
 | [] => by simp [vputs]
 | n :: l => by
  have e : vputs (n :: l) = vput n ++ vputs l := rfl
  have h1 := vputs_len10 l
  have h2 := (vput_length n).2
  rw [e, List.length_append, List.length_cons]
  omega
theorem bput_len (x : Bk) (u : List UInt8) : (bput x u).length ≤ 10 * x.cs.length + 60 + u.length := by
 have h1 := vputs_len10 x.cs
 have h2 := (vput_length (zig x.off).toNat).2
 have h3 := (vput_length (vputs x.cs).length).2
 have h4 : (vput 8).length ≤ 10 := (vput_length _).2
 have h5 : (vput 18).length ≤ 10 := (vput_length _).2
 unfold bput
 rw [List.flatten_append, ← bkRecs_raw]
 unfold bkRecs
 rw [List.flatMap_append]
 split <;> split <;> simp <;> omega
open Go.RowKit
open Go.RowKit
open Go.ChangeShapes Go.WideShapes Go.ChangeAt Go.RowKit Go.Deep
open Go.RowKit
theorem bread_put_less {x : Bk} {u : List UInt8} {d d' : Int} (hx : BkOk x) (hl : (vputs x.cs).length < 2 ^ 64) (hm : bmay u d = true) (hle : d' ≤ d) (hn : bmay u d' = false) : ∃ c, bread (bput x u) d' = .error c := by
 unfold bmay at hm hn
 rw [Bool.and_eq_true, decide_eq_true_iff] at hm
 have hn2 : d' < 0 ∨ munkOk btk u d' = false := by
  by_cases h : 0 ≤ d'
  ·rw [decide_eq_true h, Bool.true_and] at hn
   exact .inr hn
  ·exact .inl (by omega)
 have := mread_put_no (bkRecs_rec hx hl) (bkRecs_fold hx) (bkRecs_tk x) hm.2 hle hn2
 rw [bkRecs_raw] at this
 unfold bread bput
 rw [List.flatten_append]
 simpa using this
open Go.RowKit
end Go.Proofs.Ytficgfemmijaaaa
