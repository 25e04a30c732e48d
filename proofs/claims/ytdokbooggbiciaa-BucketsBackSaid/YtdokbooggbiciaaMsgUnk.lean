/-
  message.unknown.
-/
import Derived.Test.YtdokbooggbiciaaMsgWrite
namespace Go.Proofs.Ytdokbooggbiciaa
open Go.RowKit

set_option maxRecDepth 1000000 in
set_option maxHeartbeats 4000000 in
theorem munknown_any (s : ByteArray) (d : Int) (tk : Rec → Bool) (FT : Nat) (w : World) (hs : s.size ≤ 1000000)
    (hET : ∀ args w, (callFunc FT args).run Try.prog w = .ok (.enter FT args) w)
    (hT : ∀ (r : Rec) (w : World), Calls Try.prog FT #[.int .i64 (r.num : Int), .int .i64 (r.ty : Int)] w fun e w' => e = .returned (.bool (tk r)) ∧ w = w') :
    Calls Try.prog 45 #[.string s, .int .i64 d, .func (.func FT) #[] #[]] w fun e w' => e = .returned (.bool (munkOk tk s.data.toList d)) ∧ Below w.heap.size w w' := by
  have HT := Lib.hid hT
  clear hT
  cases hw : wall s.data.toList d with
  | error c =>
    have HM : Hid (munkOk tk s.data.toList d = false) := Lib.hid (by unfold munkOk; rw [hw])
    have HW := Lib.hid hw
    clear hw
    go_enter Try.func45, Try.ntmps45
    go_wp2_with fail
    refine (all_any s d _ (by omega)).mono ?_; intro e w1 hpost
    unfold AllPost at hpost
    rw [HW.out] at hpost
    obtain ⟨v, rfl, q, hq, hE⟩ := hpost
    obtain ⟨T, y, rfl⟩ := hE.iface
    have HB := Lib.hid hE.2
    clear hE
    go_wp2_with fail
    go_ret
    exact ⟨by rw [HM.out]; rfl, HB.out⟩
  | ok rs =>
    have HM : Hid (munkOk tk s.data.toList d = rs.all fun r => !tk r) := Lib.hid (by unfold munkOk; rw [hw])
    have HW := Lib.hid hw
    clear hw
    go_enter Try.func45, Try.ntmps45
    go_wp2_with fail
    refine (all_any s d _ (by omega)).mono ?_; intro e w1 hpost
    unfold AllPost at hpost
    rw [HW.out] at hpost
    obtain ⟨u, rfl, hown, hlen, hb1⟩ := hpost
    obtain ⟨lo, lcap, rfl⟩ := own_slice hown
    have HB1 := Lib.hid hb1
    have HO1 := Lib.hid hown
    clear hb1 hown
    go_wp2_with fail
    go_loopg [21] rs.length (fun g i wr => ∃ j : Nat, j + g = rs.length ∧ i = .int .i64 (j : Int) ∧ Hid (((rs.take j).all fun r => !tk r) = true) ∧ Below w1.heap.size w1 wr)
    case atStart => exact ⟨0, by omega, rfl, Lib.hid rfl, Below.refl _ _⟩
    case round =>
      obtain ⟨j, hj, rfl, HA, hbr⟩ := hrel
      have HBR := Lib.hid hbr
      have HB := Lib.hid (HB1.out.trans (hbr.mono HB1.out.size))
      have HJ := Lib.hid hj
      have HO := Lib.hid (own_below HO1.out hbr)
      clear hj hbr
      by_cases hlt : j < rs.length
      · obtain ⟨g, cg, hv, hg1, hg2, _, _⟩ := own_some HO.out (by omega)
        simp only [Value.slice.injEq] at hv
        obtain ⟨rfl, _, rfl⟩ := hv
        obtain ⟨r, HRJ⟩ : ∃ r, Hid (rs[j] = r) := ⟨_, Lib.hid rfl⟩
        have hc0 : wr.cell? ⟨g, j * 5, none⟩ = some (.int .i64 (r.num : Int)) := by rw [HO.out.cellAt (j * 5) (by omega), show j * 5 = 5 * j + 0 by omega, mrecs_cell hlt (by omega), HRJ.out]; rfl
        have hc1 : wr.cell? ⟨g, j * 5 + 1, none⟩ = some (.int .i64 (r.ty : Int)) := by rw [HO.out.cellAt (j * 5 + 1) (by omega), show j * 5 + 1 = 5 * j + 1 by omega, mrecs_cell hlt (by omega), HRJ.out]; rfl
        have hc2 : wr.cell? ⟨g, j * 5 + 2, none⟩ = some (.int .u64 (r.n : Int)) := by rw [HO.out.cellAt (j * 5 + 2) (by omega), show j * 5 + 2 = 5 * j + 2 by omega, mrecs_cell hlt (by omega), HRJ.out]; rfl
        have hc3 : wr.cell? ⟨g, j * 5 + 3, none⟩ = some (.string ⟨r.s.toArray⟩) := by rw [HO.out.cellAt (j * 5 + 3) (by omega), show j * 5 + 3 = 5 * j + 3 by omega, mrecs_cell hlt (by omega), HRJ.out]; rfl
        have hc4 : wr.cell? ⟨g, j * 5 + 4, none⟩ = some (.string ⟨r.raw.toArray⟩) := by rw [HO.out.cellAt (j * 5 + 4) (by omega), show j * 5 + 4 = 5 * j + 4 by omega, mrecs_cell hlt (by omega), HRJ.out]; rfl
        have HTK : Hid (rs.take (j + 1) = rs.take j ++ [r]) := Lib.hid (by rw [List.take_succ_eq_append_getElem hlt, HRJ.out])
        have HMEM : Hid (r ∈ rs) := Lib.hid (HRJ.out ▸ List.getElem_mem hlt)
        have HBN : Hid (Below w1.heap.size w1 (wr.alloc (.cells #[.int .i64 (r.num : Int), .int .i64 (r.ty : Int), .int .u64 (r.n : Int), .string ⟨r.s.toArray⟩, .string ⟨r.raw.toArray⟩] 63))) := Lib.hid (HBR.out.alloc HBR.out.size _)
        cases htk : tk r with
        | false =>
          have HTKR := Lib.hid htk
          clear htk
          go_wp2_with fail
          refine (HT.out r _).mono ?_; rintro e w' ⟨rfl, rfl⟩
          rw [HTKR.out]
          go_wp2_with fail
          have hj := HJ.out
          go_roundg (gk - 1)
          case measure => omega
          case rel => exact ⟨j + 1, by omega, by simp, Lib.hid (by rw [HTK.out, List.all_append, HA.out]; simp [HTKR.out]), HBN.out⟩
        | true =>
          have HTKR := Lib.hid htk
          have HM2 : Hid (munkOk tk s.data.toList d = false) := Lib.hid (by
            rw [HM.out]
            cases hall : rs.all fun r => !tk r with
            | false => rfl
            | true => have := List.all_eq_true.1 hall r HMEM.out; simp [htk] at this)
          clear htk
          go_wp2_with fail
          refine (HT.out r _).mono ?_; rintro e w' ⟨rfl, rfl⟩
          rw [HTKR.out]
          go_wp2_with fail
          go_ret
          exact ⟨by rw [HM2.out]; rfl, HB1.out.trans (HBN.out.mono HB1.out.size)⟩
      · have hjn : j = rs.length := by have := HJ.out; omega
        have HM2 : Hid (munkOk tk s.data.toList d = true) := Lib.hid (by rw [HM.out, ← HA.out, hjn, List.take_length])
        clear hjn
        go_wp2_with fail
        go_ret
        exact ⟨by rw [HM2.out]; rfl, HB.out⟩
end Go.Proofs.Ytdokbooggbiciaa
