/-
  message.Writer: New, Bytes, Vars, Rest, End; message.unknown.
-/
import Derived.Test.YtdokbooggbiciaaMsgWrite
namespace Go.Proofs.Ytdokbooggbiciaa
open Go.RowKit

set_option maxRecDepth 1000000 in
set_option maxHeartbeats 4000000 in
theorem wmnew_any (d : Int) (w : World) :
    Calls Try.prog 21 #[.int .i64 d] w fun e w' => e = .returned (.pointer (some ⟨w.heap.size, 0, none⟩)) ∧ Below w.heap.size w w' ∧ ∃ P, WrAt w.heap.size d (.slice none 0 0) [] (decide (d < 0)) P w' ∧ ∀ k, P k → w.heap.size ≤ k := by
  have HW : Hid (WrAt w.heap.size d (.slice none 0 0) [] false (fun k => k = w.heap.size ∨ (Value.slice none 0 0).ownBlock = some k) (w.alloc (.cells #[.int .i64 d, .slice none 0 0, .int .i64 0, .slice none 0 0, .nilIface] 84))) := Lib.hid ⟨.slice none 0 0, .nilIface, heap_alloc_new w _, World.ownsRow_nil _ _ _ _, rfl, rfl⟩
  obtain ⟨g, hg⟩ : ∃ g, decide (0 ≤ d) = g := ⟨_, rfl⟩
  have HG : Hid (decide (d < 0) = !g) := Lib.hid (by rw [← hg]; by_cases h : d < 0 <;> simp [h] <;> omega)
  have hg2 : decide (d ≥ 0) = g := hg
  go_enter Try.func21, Try.ntmps21
  go_wp2_with fail
  refine (wask_any w.heap.size d (.slice none 0 0) [] false _ g _ HW).mono ?_; intro e w1 hpost
  obtain ⟨rfl, hu, P', hw, hp⟩ := hpost
  have HB : Hid (Below w.heap.size w w1) := Lib.hid ((below_new w _).trans (hu.below (by simp) (fun k _ h => by
    rcases h with h | h
    · omega
    · simp [Value.ownBlock] at h)))
  have HW1 := Lib.hid hw
  have HP := Lib.hid hp
  clear hu hw hp hg hg2
  go_wp2_with fail
  go_ret
  refine ⟨rfl, HB.out, P', ?_, fun k hk => ?_⟩
  · rw [HG.out]; simpa using HW1.out
  · rcases HP.out k hk with (h | h) | h
    · omega
    · simp [Value.ownBlock] at h
    · simp at h; omega
def wbytesP (num : Nat) (t : List UInt8) : List (List UInt8) := if t = [] then [] else [wrec num 2 (vput t.length ++ t)]
set_option maxRecDepth 1000000 in
set_option maxHeartbeats 4000000 in
theorem wmbytes_any (p : Nat) (d : Int) (vo : Value) (ps : List (List UInt8)) (b : Bool) (P : Nat → Prop) (num : Nat) (X : ByteArray) (t : List UInt8) (w : World) (h : Hid (WrAt p d vo ps b P w)) (hX : Hid (X.data.toList = t)) (h2 : num ≤ 536870911) (ht : t.length ≤ 1000000) (hl : ps.length ≤ 1000000) (hf : ps.flatten.length ≤ 10000000) :
    Calls Try.prog 43 #[.pointer (some ⟨p, 0, none⟩), .int .i64 (num : Int), .string X] w (WrPost p d vo (wps b ps (wbytesP num t)) b P w) := by
  have hXs : X.size = t.length := by rw [← hX.out]; simp
  by_cases h0 : t = []
  · have HE : Hid (wbytesP num t = []) := Lib.hid (if_pos h0)
    have hX0 : X = ⟨#[]⟩ := by
      apply ByteArray.ext
      apply Array.ext'
      rw [hX.out, h0]
    subst hX0
    clear h0 hXs
    go_enter Try.func43, Try.ntmps43
    go_wp2_with fail
    go_end0
    rw [HE.out, wps_nil]
    exact wr_same h.out
  · have HE : Hid (wbytesP num t = [wrec num 2 (vput X.size ++ X.data.toList)]) := Lib.hid (by rw [hXs, hX.out]; exact if_neg h0)
    have d1 : (X.toList == []) = false := by
      rw [beq_eq_false_iff_ne, ByteArray.toList_eq, hX.out]; exact h0
    have d2 : (X.toList != []) = true := by rw [bne, d1]; rfl
    have d3 : (X.toList == (⟨#[]⟩ : ByteArray).toList) = false := by
      rw [beq_eq_false_iff_ne, ByteArray.toList_eq, ByteArray.toList_eq, hX.out]; exact h0
    have d4 : (X.toList != (⟨#[]⟩ : ByteArray).toList) = true := by rw [bne, d3]; rfl
    have hvl := (vput_length X.size).2
    have htl := wtag_len (num : Int) 2
    have hwl : (wrec (num : Int) 2 (vput X.size ++ X.data.toList)).length ≤ 1000020 := by unfold wrec; split <;> simp <;> omega
    obtain ⟨R, hR⟩ : ∃ R, wrec (num : Int) 2 (vput X.size ++ X.data.toList) = R := ⟨_, rfl⟩
    rw [hR] at hwl HE
    have HRR := Lib.hid hR
    clear h0 hR hvl htl
    go_enter Try.func43, Try.ntmps43
    go_wp2_with fail
    clear d1 d2 d3 d4
    refine (wbytes_any (num : Int) X _ (by omega) (by omega) (by omega)).mono ?_; rintro e w1 ⟨rfl, hb1⟩
    rw [HRR.out]
    have HB1 := Lib.hid hb1
    have HW1 := Lib.hid (wr_below h.out hb1)
    clear hb1
    go_wp2_with fail
    refine (wput_any p d vo ps b P R _ HW1 hl (by omega)).mono ?_; intro e w2 hpost
    obtain ⟨rfl, hu, P', hw, hp⟩ := hpost
    have HU := Lib.hid hu
    have HW := Lib.hid hw
    have HP := Lib.hid hp
    clear hu hw hp
    go_wp2_with fail
    go_end0
    refine ⟨rfl, (Upd.of_new HB1.out).trans HU.out, P', ?_, fun k hk => ?_⟩
    · rw [HE.out]; exact HW.out
    · rcases HP.out k hk with h | h
      · exact .inl h
      · exact .inr (Nat.le_trans HB1.out.size h)
end Go.Proofs.Ytdokbooggbiciaa
