/-
  ident.Join.
-/
import Derived.Test.YtdokbooggbiciaaDoorEnc
namespace Go.Proofs.YtdokbooggbiciaaDoor
open Go.RowKit

set_option maxRecDepth 1000000 in
set_option maxHeartbeats 4000000 in
theorem ijoin_any (ao : Option Addr) (cap : Nat) (D : List (List UInt8)) (w : World) (HS : Hid (Strs w ao D)) (hl : D.length ≤ 20000) (hb : (encs D).length ≤ 10000000) {T : List UInt8} (hT : Hid (encs D = T)) :
    Calls Tryd.prog 9 #[.slice ao D.length cap] w fun e w' => e = .returned (.string ⟨T.toArray⟩) ∧ Below w.heap.size w w' := by
  have HB0 := Lib.hid (below_new0 w (.cells #[.pointer none, .slice none 0 0] 51))
  have HD0 := Lib.hid (build_new_d w)
  go_enter Tryd.func9, Tryd.ntmps9
  go_wp2_with fail
  go_loopg [8] D.length (fun k i wr => ∃ (j : Nat), j + k = D.length ∧ i = .int .i64 j ∧ Hid (BuildIn w.heap.size w.heap.size (encs (D.take j)) wr) ∧ Below w.heap.size w wr)
  case atStart => exact ⟨0, by omega, rfl, by simpa [encs] using HD0, HB0.out⟩
  case round =>
    obtain ⟨j, hj, rfl, HD, hbr⟩ := hrel
    have HB := Lib.hid hbr
    have HJ := Lib.hid hj
    have hws := hbr.size
    clear hbr hj
    by_cases hlt : j < D.length
    · obtain ⟨g, off, rfl, hg1, hcell⟩ := (HS.out.below HB.out).at hlt
      obtain ⟨t, ht⟩ : ∃ t, D[j] = t := ⟨_, rfl⟩
      rw [ht] at hcell
      have htl : t.length + 1 ≤ (encs D).length := encs_mem (ht ▸ List.getElem_mem hlt)
      have hel := encs_take_le D j
      have hi1 : (j : Int) < (D.length : Int) := by omega
      have HE := Lib.hid (encs_take hlt)
      rw [ht] at HE
      unfold strV at hcell
      have hsz : ((⟨t.toArray⟩ : ByteArray).size : Int) = (t.length : Int) := by rw [str_size]
      have hsz2 := str_size t
      obtain ⟨P0, hP0⟩ : ∃ P0, encs (D.take j) = P0 := ⟨_, rfl⟩
      have hp0 : P0.length ≤ 10000010 := by rw [← hP0]; omega
      have HP0 := Lib.hid hP0
      rw [hP0] at HD
      clear ht hel hP0
      go_wp2_with fail
      refine (put_d t.length _ (by omega)).mono ?_; rintro e w3 ⟨rfl, hb3⟩
      have HB3 := Lib.hid (HB.out.trans (hb3.mono HB.out.size))
      have HD3 := Lib.hid (HD.out.belowd hb3)
      have hws3 := HB3.out.size
      have hvt := (vput_length t.length).2
      clear hb3
      go_wp2_with fail
      refine (write_any w.heap.size w.heap.size P0 ⟨(vput t.length).toArray⟩ _ HD3.out (by rw [ba_size]; omega) (by omega)).mono ?_; rintro e w4 ⟨rfl, hbd, hb4⟩
      have HB4 := Lib.hid (HB3.out.trans hb4)
      have HD4 : Hid (BuildIn w.heap.size w.heap.size (P0 ++ vput t.length) w4) := Lib.hid (by simpa using hbd)
      have hws4 := HB4.out.size
      clear hb4 hbd
      go_wp2_with fail
      refine (write_any w.heap.size w.heap.size (P0 ++ vput t.length) ⟨t.toArray⟩ _ HD4.out (by rw [hsz2, List.length_append]; omega) (by omega)).mono ?_; rintro e w5 ⟨rfl, hbd, hb5⟩
      have HB5 := Lib.hid (HB4.out.trans hb5)
      have HD5 : Hid (BuildIn w.heap.size w.heap.size (encs (D.take (j + 1))) w5) := Lib.hid (by
        rw [HE.out, HP0.out]; simpa using hbd)
      clear hb5 hbd
      go_wp2_with fail
      have hj := HJ.out
      go_roundg (gk - 1)
      case measure => omega
      case rel => exact ⟨j + 1, by omega, by simp, HD5, HB5.out⟩
    · obtain rfl : j = D.length := by have := HJ.out; omega
      have HD5 : Hid (BuildIn w.heap.size w.heap.size (encs D) wr) := Lib.hid (by
        have := HD.out
        rw [List.take_length] at this
        exact this)
      rw [hT.out] at HD5 hb
      go_wp2_with fail
      refine (text_any w.heap.size w.heap.size T _ HD5.out (by omega)).mono ?_; rintro e w6 ⟨rfl, hb6⟩
      have HB6 := Lib.hid (HB.out.trans hb6)
      clear hb6
      go_wp2_with fail
      go_ret
      exact ⟨rfl, HB6.out⟩
end Go.Proofs.YtdokbooggbiciaaDoor
