/-
  hygref18.Join, (*hygref18.Dict).Put.
-/
import Derived.Test.YtihoemimiplhfaaDoorDictRefA
import Derived.Test.YtihoemimiplhfaaDoorRVint
import Derived.Test.YtihoemimiplhfaaDoorOrdT
namespace Go.Proofs.YtihoemimiplhfaaDoor
open Go.RowKit Go.Maps

theorem bstr_app (a b : List UInt8) : (⟨a.toArray⟩ : ByteArray) ++ (⟨b.toArray⟩ : ByteArray) = ⟨(a ++ b).toArray⟩ := ba_append a b
set_option maxRecDepth 1000000 in
set_option maxHeartbeats 400000 in
theorem rjoin_any (ao : Option Addr) (cap : Nat) (D : List (List UInt8)) (w : World) (hN : Strs w ao D) (hD : D.length ≤ 20000) (hb : (encs D).length ≤ 1000000) :
    Calls Tryd.prog 56 #[.slice ao D.length cap] w fun e w' => e = .returned (.string ⟨(encs D).toArray⟩) ∧ Below w.heap.size w w' := by
  have HN := Lib.hid hN
  clear hN
  go_enter Tryd.func56, Tryd.ntmps56
  go_wp2_with fail
  go_loopg [3, 4] D.length (fun k vs i wr => ∃ (j : Nat) (z : ByteArray), j + k = D.length ∧ i = .int .i64 j ∧ vs = .string z ∧ Hid (z = ⟨(encs (D.take j)).toArray⟩) ∧ Below w.heap.size w wr)
  case atStart => exact ⟨0, ⟨#[]⟩, by omega, rfl, rfl, Lib.hid (by simp [encs]), Below.refl _ _⟩
  case round =>
    obtain ⟨j, z, hj, rfl, rfl, HZ, hbr⟩ := hrel
    have HB := Lib.hid hbr
    have HJ := Lib.hid hj
    have hbs0 : w.heap.size ≤ wr.heap.size := hbr.size
    clear hbr hj
    by_cases hlt : j < D.length
    · obtain ⟨g, off, rfl, hg1, hcell⟩ := (HN.out.below HB.out).at hlt
      obtain ⟨t, ht⟩ : ∃ t, D[j] = t := ⟨_, rfl⟩
      rw [ht] at hcell
      have htl : t.length + 1 ≤ (encs D).length := encs_mem (ht ▸ List.getElem_mem hlt)
      have hi1 : (j : Int) < (D.length : Int) := by omega
      have hel := encs_take_le D j
      have HE := Lib.hid (encs_take hlt)
      rw [ht] at HE
      obtain ⟨X, hX⟩ : ∃ X : ByteArray, (⟨t.toArray⟩ : ByteArray) = X := ⟨_, rfl⟩
      have hXV : strV t = .string X := by unfold strV; rw [hX]
      have hXs : X.size = t.length := by rw [← hX, str_size]
      rw [hXV] at hcell
      have hzs : z.size ≤ 1000000 := by rw [HZ.out, str_size]; omega
      have hvt := (vput_length t.length).2
      have HX := Lib.hid hX
      have hS0 : wr.drew.cell? ⟨g, off + j, none⟩ = some (.string X) := hcell
      have HBd := Lib.hid (HB.out.trans ((below_drew0 wr).mono hbs0))
      have hbs : w.heap.size ≤ wr.drew.heap.size := hbs0
      have hneS : Nonempty { w' : World // w'.cell? ⟨g, off + j, none⟩ = some (.string X) } := ⟨⟨_, hS0⟩⟩
      have hxS : ∀ t : { w' : World // w'.cell? ⟨g, off + j, none⟩ = some (.string X) }, t.1.cell? ⟨g, off + j, none⟩ = some (.string X) := fun t => t.2
      obtain ⟨V, hV⟩ : ∃ V : ByteArray, (⟨(vput t.length).toArray⟩ : ByteArray) = V := ⟨_, rfl⟩
      have hVs : V.size ≤ 10 := by rw [← hV, str_size]; exact hvt
      have HV := Lib.hid hV
      obtain ⟨z1, hz1⟩ : ∃ z1, V ++ X = z1 := ⟨_, rfl⟩
      have hz1s : z1.size ≤ 1000020 := by rw [← hz1, ByteArray.size_append]; omega
      obtain ⟨z2, hz2⟩ : ∃ z2, z ++ z1 = z2 := ⟨_, rfl⟩
      have HZ2 : Hid (z2 = ⟨(encs (D.take (j + 1))).toArray⟩) := Lib.hid (by
        rw [← hz2, ← hz1, HE.out, HZ.out, ← HV.out, ← HX.out, bstr_app, bstr_app, List.append_assoc])
      have hwt : IntKind.u64.wrap (t.length : Int) = (t.length : Int) := by rw [IntKind.wrap_u64]; omega
      have hwx : IntKind.u64.wrap (X.size : Int) = (t.length : Int) := by rw [hXs]; exact hwt
      have hcat1 : ¬ 9223372036854775807 < V.size + X.size := by omega
      have hcat2 : ¬ 9223372036854775807 < z.size + z1.size := by omega
      clear ht hX hXV hel hV hXs hVs hz1s hzs
      go_wp2_with fail
      refine wp_region_seq (S := fun w' => w'.cell? ⟨g, off + j, none⟩ = some (.string X)) [(0, true), (1, true), (2, true), (3, true), (4, true), (5, true), (6, true), (8, true), (9, true), (10, true), (11, true), (7, false), (12, true), (13, true), (14, true)] (by kernel_rfl) (by kernel_rfl) (by kernel_rfl) (by kernel_rfl) hS0 ?_
      iterate 11 (refine seq_take _ rfl (fun K hK => ?_); go_simp; (first | refine hK _ ?_ | (refine ⟨undef, by rw [if_neg (by simp [undef])], ?_⟩; refine hK _ ?_)); clear hK K)
      refine seq_come _ rfl (fun K hK => ?_); go_simp
      refine (rvint_at t.length _ (by omega)).mono ?_; rintro e w1 ⟨rfl, hb1⟩
      rw [HV.out]
      have HB1 := Lib.hid (HBd.out.trans (hb1.mono hbs))
      have hS1 : w1.cell? ⟨g, off + j, none⟩ = some (.string X) := (hb1.cell (p := ⟨g, off + j, none⟩) hg1).trans hS0
      clear hb1
      go_simp; refine hK.out _ _ hS1 ?_; clear hK K
      iterate 3 (refine seq_take _ rfl (fun K hK => ?_); go_simp; (first | refine hK _ ?_ | (refine ⟨undef, by rw [if_neg (by simp [undef])], ?_⟩; refine hK _ ?_)); clear hK K)
      refine seq_done ?_
      clear hxS hneS
      go_wp2_with fail
      have hj := HJ.out
      go_roundg (gk - 1)
      case measure => omega
      case rel => exact ⟨j + 1, z2, by omega, by simp, rfl, HZ2, HB1.out⟩
    · have hjl : j = D.length := by have := HJ.out; omega
      have HZ2 : Hid (z = ⟨(encs D).toArray⟩) := Lib.hid (by rw [HZ.out, hjl, List.take_length])
      clear hjl
      go_wp2_with fail
      go_ret
      exact ⟨by rw [← HZ2.out]; rfl, HB.out⟩
set_option maxRecDepth 1000000 in
set_option maxHeartbeats 400000 in
theorem rdput_any (p : Nat) (D : List (List UInt8)) (w : World) (h : Hid (DRefAt w p D)) (hD : D.length ≤ 20000) (hb : (encs D).length ≤ 1000000) :
    Calls Tryd.prog 26 #[.pointer (some ⟨p, 0, none⟩)] w fun e w' => e = .returned (.tuple #[.string ⟨(encD D).toArray⟩, .int .i64 0]) ∧ Below w.heap.size w w' := by
  obtain ⟨v, h1, h2⟩ := h.out
  obtain ⟨ao, cap, rfl⟩ := own_slice h2
  have hc0 : w.cell? ⟨p, 0, none⟩ = some (.slice ao D.length cap) := row_cell h1 (j := 0) rfl
  have hpw : p < w.heap.size := row_lt h1
  have HSt : Hid (Strs w ao D) := Lib.hid (strs_of_own (cap := cap) (base := p + 1) (e := 9) h2)
  have hS0 : w.drew.cell? ⟨p, 0, none⟩ = some (.slice ao D.length cap) := hc0
  have hneS : Nonempty { w' : World // w'.cell? ⟨p, 0, none⟩ = some (.slice ao D.length cap) } := ⟨⟨_, hS0⟩⟩
  have hxS : ∀ t : { w' : World // w'.cell? ⟨p, 0, none⟩ = some (.slice ao D.length cap) }, t.1.cell? ⟨p, 0, none⟩ = some (.slice ao D.length cap) := fun t => t.2
  have hvl := (vput_length D.length).2
  have hes : (⟨(encs D).toArray⟩ : ByteArray).size = (encs D).length := str_size _
  have hvs : (⟨(vput D.length).toArray⟩ : ByteArray).size = (vput D.length).length := str_size _
  obtain ⟨A, hA⟩ : ∃ A : ByteArray, (⟨(vput D.length).toArray⟩ : ByteArray) = A := ⟨_, rfl⟩
  obtain ⟨B, hB⟩ : ∃ B : ByteArray, (⟨(encs D).toArray⟩ : ByteArray) = B := ⟨_, rfl⟩
  obtain ⟨C, hC⟩ : ∃ C : ByteArray, A ++ B = C := ⟨_, rfl⟩
  have HC : Hid (C = ⟨(encD D).toArray⟩) := Lib.hid (by rw [← hC, ← hA, ← hB, bstr_app]; rfl)
  have HA := Lib.hid hA
  have HBB := Lib.hid hB
  rw [hA] at hvs
  rw [hB] at hes
  have hAs : A.size ≤ 10 := by omega
  have hBs : B.size ≤ 1000000 := by omega
  have hcat1 : ¬ 9223372036854775807 < A.size + B.size := by omega
  have hwl : IntKind.u64.wrap (D.length : Int) = (D.length : Int) := by rw [IntKind.wrap_u64]; omega
  clear h1 h2 hA hB hAs hBs hvs hes
  go_enter Tryd.func26, Tryd.ntmps26
  go_wp2_with fail
  refine wp_region_seq (S := fun w' => w'.cell? ⟨p, 0, none⟩ = some (.slice ao D.length cap)) [(0, true), (1, true), (2, true), (3, true), (4, true), (5, true), (7, true), (8, true), (9, true), (10, true), (6, false), (11, false), (12, true), (13, true), (14, true)] (by kernel_rfl) (by kernel_rfl) (by kernel_rfl) (by kernel_rfl) hS0 ?_
  iterate 10 (refine seq_take _ rfl (fun K hK => ?_); go_simp; (first | refine hK _ ?_ | (refine ⟨undef, by rw [if_neg (by simp [undef])], ?_⟩; refine hK _ ?_)); clear hK K)
  refine seq_come _ rfl (fun K hK => ?_); go_simp
  refine (rvint_at D.length _ (by omega)).mono ?_; rintro e w1 ⟨rfl, hb1⟩
  rw [HA.out]
  have HB1 := Lib.hid (dstepd (below_drew0 w) hb1)
  have hS1 : w1.cell? ⟨p, 0, none⟩ = some (.slice ao D.length cap) := (hb1.cell (p := ⟨p, 0, none⟩) hpw).trans hS0
  have HSt1 : Hid (Strs w1 ao D) := Lib.hid (HSt.out.below HB1.out)
  have hpw1 : p < w1.heap.size := Nat.lt_of_lt_of_le hpw hb1.size
  clear hb1
  go_simp; refine hK.out _ _ hS1 ?_; clear hK K
  refine seq_come _ rfl (fun K hK => ?_); go_simp
  refine (rjoin_any ao cap D _ HSt1.out hD hb).mono ?_; rintro e w2 ⟨rfl, hb2⟩
  rw [HBB.out]
  have HB2 := Lib.hid (dstepd HB1.out hb2)
  have hS2 : w2.cell? ⟨p, 0, none⟩ = some (.slice ao D.length cap) := (hb2.cell (p := ⟨p, 0, none⟩) hpw1).trans hS1
  clear hb2
  go_simp; refine hK.out _ _ hS2 ?_; clear hK K
  iterate 3 (refine seq_take _ rfl (fun K hK => ?_); go_simp; (first | refine hK _ ?_ | (refine ⟨undef, by rw [if_neg (by simp [undef])], ?_⟩; refine hK _ ?_)); clear hK K)
  refine seq_done ?_
  clear hxS hneS
  go_wp2_with fail
  go_ret2
  exact ⟨by rw [← HC.out]; rfl, HB2.out⟩
end Go.Proofs.YtihoemimiplhfaaDoor
