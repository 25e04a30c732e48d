/-
  dict.Put.
-/
import Derived.Test.YtihoemimiplhfaaDoorDict
import Derived.Test.YtihoemimiplhfaaDoorBuilder
import Derived.Test.YtihoemimiplhfaaDoorSeqMath
import Derived.Test.YtihoemimiplhfaaDoorStrict
namespace Go.Proofs.YtihoemimiplhfaaDoor
open Go.RowKit Go.Maps

/-- a text behind its length; texts so; a Dict's bytes -/
def encT (t : List UInt8) : List UInt8 := vput t.length ++ t
def encs (D : List (List UInt8)) : List UInt8 := D.flatMap encT
def encD (D : List (List UInt8)) : List UInt8 := vput D.length ++ encs D
theorem encs_snoc (D : List (List UInt8)) (t : List UInt8) : encs (D ++ [t]) = encs D ++ vput t.length ++ t := by simp [encs, encT]
theorem encs_append (D E : List (List UInt8)) : encs (D ++ E) = encs D ++ encs E := by simp [encs]
theorem encs_take {D : List (List UInt8)} {j : Nat} (h : j < D.length) : encs (D.take (j + 1)) = encs (D.take j) ++ vput D[j].length ++ D[j] := by rw [List.take_succ_eq_append_getElem h, encs_snoc]
theorem encs_take_le (D : List (List UInt8)) (j : Nat) : (encs (D.take j)).length ≤ (encs D).length := by
  conv => rhs; rw [← List.take_append_drop j D]
  rw [encs_append, List.length_append]; omega
theorem encs_mem {D : List (List UInt8)} {t : List UInt8} (h : t ∈ D) : t.length + 1 ≤ (encs D).length := by
  obtain ⟨a, b, rfl⟩ := List.append_of_mem h
  have h1 := (vput_length t.length).1
  have e : encs (a ++ t :: b) = encs a ++ (vput t.length ++ (t ++ encs b)) := by simp [encs, encT]
  rw [e]
  simp only [List.length_append]
  omega
theorem encs_length (D : List (List UInt8)) : D.length ≤ (encs D).length := by
  induction D with
  | nil => simp [encs]
  | cons t D ih =>
    have h1 := (vput_length t.length).1
    have e : encs (t :: D) = vput t.length ++ (t ++ encs D) := by simp [encs, encT]
    rw [e]
    simp only [List.length_append, List.length_cons]
    omega
theorem put_d (n : Nat) (w : World) (hn : n < 2^64) : Calls Tryd.prog 53 #[.int .u64 n] w fun e w' => e = .returned (.string ⟨(vput n).toArray⟩) ∧ Below w.heap.size w w' := put_any n w (put_start hn)
theorem build_new_d (w : World) : BuildIn w.heap.size w.heap.size [] (w.alloc (.cells #[.pointer none, .slice none 0 0] 98)) :=
  .inl ⟨Nat.le_refl _, _, heap_alloc_new w _, ⟨rfl, .inl ⟨rfl, rfl⟩⟩, by simp [Value.ownBlock]⟩
theorem BuildIn.belowd {B b : Nat} {l : List UInt8} {w w' : World} (h : BuildIn B b l w) (hb : Below w.heap.size w w') : BuildIn B b l w' := by
  have key : ∀ p, Lib.BuilderAt 98 5 B b p (Lib.byteCells l) w → Lib.BuilderAt 98 5 B b p (Lib.byteCells l) w' := fun p ⟨h1, v, h2, h3, h4⟩ =>
    ⟨h1, v, (hb.block b (row_lt h2)).trans h2, (Upd.of_new (S := fun _ => False) hb).own h3 (fun _ _ h => h), h4⟩
  rcases h with h | h
  · exact .inl (key _ h)
  · exact .inr (key _ h)
set_option maxRecDepth 1000000 in
set_option maxHeartbeats 4000000 in
theorem dput_any (b : Nat) (D : List (List UInt8)) (w : World) (h : Hid (DAt w b D)) (hl : D.length ≤ 20000) (hb : (encs D).length ≤ 10000000) {T : List UInt8} (hT : Hid (encD D = T)) :
    Calls Tryd.prog 25 #[.pointer (some ⟨b + 1, 0, none⟩)] w fun e w' => e = .returned (.tuple #[.string ⟨T.toArray⟩, .nilIface]) ∧ Below w.heap.size w w' := by
  have hvl := (vput_length D.length).2
  obtain ⟨v, M, h1, h2, _⟩ := h.out
  have hc0 : w.cell? ⟨b + 1, 0, none⟩ = some v := row_cell h1 (j := 0) rfl
  obtain ⟨ao, cap, rfl⟩ := own_slice h2
  have HS : Hid (Strs w ao D) := Lib.hid (by
    refine strs_of_own (cap := cap) (base := b + 2) (e := 9) ?_
    exact h2)
  have hlt1 := row_lt h1
  clear h1 h2
  go_enter Tryd.func25, Tryd.ntmps25
  go_wp2_with fail
  refine (dlen_any b D _ h).mono ?_; rintro e w' ⟨rfl, rfl⟩
  go_wp2_with fail
  have HB0 := Lib.hid (below_new0 w (.cells #[.pointer none, .slice none 0 0] 98))
  have HD0 := Lib.hid (build_new_d w)
  have HH := Lib.hid (dat_below h.out HB0.out)
  refine (dlen_any b D _ HH).mono ?_; rintro e w' ⟨rfl, rfl⟩
  go_wp2_with fail
  refine (put_d D.length _ (by omega)).mono ?_; rintro e w1 ⟨rfl, hb1⟩
  have HB1 := Lib.hid (HB0.out.trans (hb1.mono HB0.out.size))
  have HD1 := Lib.hid (HD0.out.belowd hb1)
  have hws1 := HB1.out.size
  clear hb1
  go_wp2_with fail
  refine (write_any w.heap.size w.heap.size [] ⟨(vput D.length).toArray⟩ _ HD1.out (by rw [ba_size]; simp; omega) (by omega)).mono ?_; rintro e w2 ⟨rfl, hbd, hb2⟩
  have HB2 := Lib.hid (HB1.out.trans hb2)
  have HD2 : Hid (BuildIn w.heap.size w.heap.size (vput D.length) w2) := Lib.hid (by simpa using hbd)
  have hws2 := HB2.out.size
  have hc2 : w2.cell? ⟨b + 1, 0, none⟩ = some (.slice ao D.length cap) := (HB2.out.cell (p := ⟨b + 1, 0, none⟩) hlt1).trans hc0
  clear hb2 hbd hc0
  go_wp2_with fail
  go_loopg [22] D.length (fun k i wr => ∃ (j : Nat), j + k = D.length ∧ i = .int .i64 j ∧ Hid (BuildIn w.heap.size w.heap.size (vput D.length ++ encs (D.take j)) wr) ∧ Below w.heap.size w wr)
  case atStart => exact ⟨0, by omega, rfl, by simpa [encs] using HD2, HB2.out⟩
  case round =>
    obtain ⟨j, hj, rfl, HD, hbr⟩ := hrel
    have HB := Lib.hid hbr
    have HJ := Lib.hid hj
    have hws := hbr.size
    clear hbr hj
    by_cases hlt : j < D.length
    · obtain ⟨g, off, rfl, hg1, hcell⟩ := (HS.out.below HB.out).at hlt
      obtain ⟨t, ht⟩ : ∃ t, D[j] = t := ⟨_, rfl⟩
      rw [ht] at hcell
      have htl : t.length + 1 ≤ (encs D).length := encs_mem (ht ▸ List.getElem_mem hlt)
      have hel := encs_take_le D j
      have hi1 : (j : Int) < (D.length : Int) := by omega
      have HE := Lib.hid (encs_take hlt)
      rw [ht] at HE
      unfold strV at hcell
      have hsz : ((⟨t.toArray⟩ : ByteArray).size : Int) = (t.length : Int) := by rw [str_size]
      have hsz2 := str_size t
      obtain ⟨P0, hP0⟩ : ∃ P0, vput D.length ++ encs (D.take j) = P0 := ⟨_, rfl⟩
      have hp0 : P0.length ≤ 10000010 := by rw [← hP0, List.length_append]; omega
      have HP0 := Lib.hid hP0
      rw [hP0] at HD
      clear ht hel hP0
      go_wp2_with fail
      refine (put_d t.length _ (by omega)).mono ?_; rintro e w3 ⟨rfl, hb3⟩
      have HB3 := Lib.hid (HB.out.trans (hb3.mono HB.out.size))
      have HD3 := Lib.hid (HD.out.belowd hb3)
      have hws3 := HB3.out.size
      have hvt := (vput_length t.length).2
      clear hb3
      go_wp2_with fail
      refine (write_any w.heap.size w.heap.size P0 ⟨(vput t.length).toArray⟩ _ HD3.out (by rw [ba_size]; omega) (by omega)).mono ?_; rintro e w4 ⟨rfl, hbd, hb4⟩
      have HB4 := Lib.hid (HB3.out.trans hb4)
      have HD4 : Hid (BuildIn w.heap.size w.heap.size (P0 ++ vput t.length) w4) := Lib.hid (by simpa using hbd)
      have hws4 := HB4.out.size
      clear hb4 hbd
      go_wp2_with fail
      refine (write_any w.heap.size w.heap.size (P0 ++ vput t.length) ⟨t.toArray⟩ _ HD4.out (by rw [hsz2, List.length_append]; omega) (by omega)).mono ?_; rintro e w5 ⟨rfl, hbd, hb5⟩
      have HB5 := Lib.hid (HB4.out.trans hb5)
      have HD5 : Hid (BuildIn w.heap.size w.heap.size (vput D.length ++ encs (D.take (j + 1))) w5) := Lib.hid (by
        rw [HE.out, ← List.append_assoc, ← List.append_assoc, HP0.out]; simpa using hbd)
      clear hb5 hbd
      go_wp2_with fail
      have hj := HJ.out
      go_roundg (gk - 1)
      case measure => omega
      case rel => exact ⟨j + 1, by omega, by simp, HD5, HB5.out⟩
    · obtain rfl : j = D.length := by have := HJ.out; omega
      have HD5 : Hid (BuildIn w.heap.size w.heap.size T wr) := Lib.hid (by
        have := HD.out
        rw [List.take_length] at this
        rw [← hT.out]; exact this)
      go_wp2_with fail
      refine (text_any w.heap.size w.heap.size T _ HD5.out (by omega)).mono ?_; rintro e w6 ⟨rfl, hb6⟩
      have HB6 := Lib.hid (HB.out.trans hb6)
      clear hb6
      go_wp2_with fail
      go_ret2
      exact ⟨rfl, HB6.out⟩
end Go.Proofs.YtihoemimiplhfaaDoor
