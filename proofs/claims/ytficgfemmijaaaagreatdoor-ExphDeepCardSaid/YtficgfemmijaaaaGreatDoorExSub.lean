/-
  Exemplars as a part of lists.
-/
import Derived.Test.YtficgfemmijaaaaGreatDoorRowL
import Derived.Test.YtficgfemmijaaaaGreatDoorExBack
namespace Go.Proofs.YtficgfemmijaaaaGreatDoor
open Go.RowKit
theorem rF_len9 {num : Nat} (hn : num ≤ 15) (n : Nat) : (rF num n).raw.length ≤ 9 := by
 show (vput (8 * num + 1) ++ eight 8 n).length ≤ 9
 rw [List.length_append, vput_one (by omega)]; have := eight_len 8 n; omega
theorem num_seg9 {num : Nat} (hn : num ≤ 15) (n : Nat) : (if n = 0 then [] else (rF num n).raw).length ≤ 9 := by
 split
 ·simp
 ·exact rF_len9 hn n
theorem kind_seg9 {num : Nat} (hn : num ≤ 15) (n : Nat) (c k : Int) : (if k = c then (rF num n).raw else []).length ≤ 9 := by
 split
 ·exact rF_len9 hn n
 ·simp
theorem bytes_seg11 {num : Nat} (hn : num ≤ 15) (a : List UInt8) : (if a = [] then [] else (rB num a).raw).length ≤ 11 + a.length := by
 split
 ·simp
 ·show (vput (8 * num + 2) ++ (vput a.length ++ a)).length ≤ _
  rw [List.length_append, List.length_append, vput_one (by omega)]; have := vput_le10 a.length; omega
def exSb : Sub Ex where
 rd d t := exrd t d
 out := ex_out
 may d x := ex_may d x
 fit x := exF.fit x.1
 wt := ex_wt
theorem ex_mayx (x : Ex) (d : Int) : ex_may d x = (decide (0 ≤ d) && (exF.may d x.1 && munkOk exF.tk x.2 d)) := by
 obtain ⟨⟨t, ⟨⟨⟨k, n⟩, ⟨a, b⟩⟩, l⟩⟩, u⟩ := x
 exact ex_mayF d
theorem ex_outx (x : Ex) : (exF.out x.1).flatMap Rec.raw ++ x.2 = ex_out x := by
 obtain ⟨⟨t, ⟨⟨⟨k, n⟩, ⟨a, b⟩⟩, l⟩⟩, u⟩ := x
 exact ex_outF
theorem ex_wtx (x : Ex) : ex_wt x = 60 + (exF.wt x.1 + x.2.length) := by
 obtain ⟨⟨t, ⟨⟨⟨k, n⟩, ⟨a, b⟩⟩, l⟩⟩, u⟩ := x
 show 60 + (a.length + b.length + ksw l + u.length) = 60 + ((0 + ((0 + (a.length + b.length)) + (listF 7 kvS).wt l)) + u.length)
 rw [kvs_wt]; omega
theorem ex_wlen (x : Ex) : (ex_out x).length + 11 ≤ ex_wt x := by
 obtain ⟨⟨t, ⟨⟨⟨k, n⟩, ⟨a, b⟩⟩, l⟩⟩, u⟩ := x
 have g0 := num_seg9 (num := 2) (by omega) t
 have g1 := kind_seg9 (num := 3) (by omega) n 1 k
 have g2 := kind_seg9 (num := 6) (by omega) n 2 k
 have g3 := bytes_seg11 (num := 4) (by omega) a
 have g4 := bytes_seg11 (num := 5) (by omega) b
 have g5 := kouts_le 7 (by omega) l
 show ((if t = 0 then [] else (rF 2 t).raw) ++ (if k = 1 then (rF 3 n).raw else []) ++ (if a = [] then [] else (rB 4 a).raw) ++ (if b = [] then [] else (rB 5 b).raw) ++ (if k = 2 then (rF 6 n).raw else []) ++ kouts 7 l ++ u).length + 11 ≤ 60 + (a.length + b.length + ksw l + u.length)
 simp only [List.length_append]
 omega
theorem exSb_ok : exSb.Ok where
 len := fun x => by have := ex_wlen x; show (ex_out x).length ≤ ex_wt x + 1000; omega
 back := fun (x : Ex) d hf hw hd hm => by
  have hm : ex_may d x = true := hm
  have hw : ex_wt x ≤ 1000000 := hw
  rw [ex_mayx] at hm
  simp only [Bool.and_eq_true, decide_eq_true_eq] at hm
  rw [ex_wtx] at hw
  have h := fld_back exF_ok (s := x.1) (u := x.2) hf (by omega) hd hm.2.1 hm.2.2
  rw [ex_outx] at h
  exact h
 less := fun (x : Ex) d d' hf hw hd hm hle hn => by
  have hm : ex_may d x = true := hm
  have hw : ex_wt x ≤ 1000000 := hw
  rw [ex_mayx] at hm
  simp only [Bool.and_eq_true, decide_eq_true_eq] at hm
  rw [ex_wtx] at hw
  obtain ⟨c, h⟩ := fld_less exF_ok (s := x.1) (u := x.2) (d := d) (d' := d') hf (by omega) hm.2.1 hm.2.2 hle (by
   rcases hn with h0 | h0
   ·exact .inl h0
   ·have h0 : ex_may d' x = false := h0
    by_cases h1 : d' < 0
    ·exact .inl h1
    ·rw [ex_mayx, decide_eq_true (by omega : 0 ≤ d'), Bool.true_and, Bool.and_eq_false_iff] at h0
     exact .inr h0)
  rw [ex_outx] at h
  exact ⟨c, h⟩
 twice := fun t (x : Ex) d ht h => by
  obtain ⟨h0, h1, h2, h3, h4⟩ := fld_twice exF_ok (s := x.1) (u := x.2) ht h
  have h4 : exF.wt x.1 + x.2.length ≤ (0 + ((0 + (0 + 0)) + 0)) + 51 * t.length := h4
  refine ⟨h0, ?_, h3, ?_⟩
  ·show ex_may d x = true
   rw [ex_mayx, h1, h2, decide_eq_true h0]; rfl
  ·show ex_wt x ≤ _
   rw [ex_wtx]; omega
theorem exs_len : ∀ l : List Ex, l.length * 60 ≤ lwt exSb l := lwt_len (S := exSb) (k := 60) fun x => by
 obtain ⟨⟨t, ⟨⟨⟨k, n⟩, ⟨a, b⟩⟩, l⟩⟩, u⟩ := x
 show 60 ≤ 60 + _
 omega
theorem ExRel.form {w : World} {P : Nat → Prop} : ∀ {x : Ex} {c : List Value}, ExRel w P x c → ∃ (lo : Option Addr) (llo lc : Nat) (jt : Int) (jk : Int) (jn : Int) (Xa : ByteArray) (Xb : ByteArray) (Xu : ByteArray), c = [.slice lo llo lc, .int .u64 jt, .int .i64 jk, .int .u64 jn, .string Xa, .string Xb, .string Xu]
 | ((t, (((k, n), (a, b)), l)), u), c, h => by
  obtain ⟨lo, lc, rfl, _⟩ := h
  exact ⟨_, _, _, _, _, _, _, _, _, rfl⟩
end Go.Proofs.YtficgfemmijaaaaGreatDoor
