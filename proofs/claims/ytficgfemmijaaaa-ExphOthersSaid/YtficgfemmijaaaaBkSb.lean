/-
  A side of an exponential histogram as a message within a message.
-/
import Derived.Test.YtficgfemmijaaaaBukRef
import Derived.Test.YtficgfemmijaaaaFnl
namespace Go.Proofs.Ytficgfemmijaaaa
open Go.RowKit
def bkSb : Sub (Bk × List UInt8) where
 rd d t := bread t d
 out x := bput x.1 x.2
 may d x := bmay x.2 d
 fit x := BkOk x.1
 wt x := 10 * x.1.cs.length + x.2.length
theorem bkSb_ok : bkSb.Ok where
 len := fun x => by have := bput_len x.1 x.2; show (bput x.1 x.2).length ≤ 10 * x.1.cs.length + x.2.length + 1000; omega
 back := fun x d hf hw hd hm => by
  obtain ⟨x, u⟩ := x
  have hw : 10 * x.cs.length + u.length ≤ 1000000 := hw
  have := vputs_len10 x.cs
  exact bread_put (x := x) (u := u) hf (by omega) hm
 less := fun x d d' hf hw hd hm hle hn => by
  obtain ⟨x, u⟩ := x
  have hw : 10 * x.cs.length + u.length ≤ 1000000 := hw
  have := vputs_len10 x.cs
  refine bread_put_less (x := x) (u := u) hf (by omega) hm hle ?_
  rcases hn with h | h
  ·unfold bmay; rw [decide_eq_false (by omega)]; rfl
  ·exact h
 twice := fun t x d ht h => by
  obtain ⟨x, u⟩ := x
  have h : bread t d = .ok (x, u) := h
  have h1 := bread_may h
  have h2 := bread_cs h
  have h3 := bread_unk h
  have h0 : 0 ≤ d := by
   have h4 := h1
   unfold bmay at h4
   rw [Bool.and_eq_true, decide_eq_true_eq] at h4
   exact h4.1
  exact ⟨h0, h1, h2.2, by show 10 * x.cs.length + u.length ≤ _; omega⟩
def bkz (x : Bk × List UInt8) : Bool := decide (x.1.off = 0) && (x.1.cs.isEmpty && x.2.isEmpty)
theorem bkz_iff (x : Bk × List UInt8) : bkz x = true ↔ x = (⟨0, []⟩, []) := by
 obtain ⟨⟨o, cs⟩, u⟩ := x
 unfold bkz
 simp only [Bool.and_eq_true, decide_eq_true_eq, List.isEmpty_iff, Prod.mk.injEq, Bk.mk.injEq, and_assoc]
theorem bk_zero : bkSb.fit ((⟨0, []⟩, []) : Bk × List UInt8) := ⟨by show (-2147483648 : Int) ≤ 0; omega, by show (0 : Int) ≤ 2147483647; omega, fun n hn => by cases hn⟩
end Go.Proofs.Ytficgfemmijaaaa
