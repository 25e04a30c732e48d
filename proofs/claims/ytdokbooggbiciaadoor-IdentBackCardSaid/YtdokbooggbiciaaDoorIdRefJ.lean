/-
  hygref18.Join.
-/
import Derived.Test.YtdokbooggbiciaaDoorEnc
import Derived.Test.YtdokbooggbiciaaDoorRVint
import Derived.Test.YtdokbooggbiciaaDoorOrdT
namespace Go.Proofs.YtdokbooggbiciaaDoor
open Go.RowKit

theorem bstr_app (a b : List UInt8) : (⟨a.toArray⟩ : ByteArray) ++ (⟨b.toArray⟩ : ByteArray) = ⟨(a ++ b).toArray⟩ := ba_append a b
set_option maxRecDepth 1000000 in
set_option maxHeartbeats 400000 in
theorem rjoin_any (ao : Option Addr) (cap : Nat) (D : List (List UInt8)) (w : World) (hN : Strs w ao D) (hD : D.length ≤ 20000) (hb : (encs D).length ≤ 1000000) :
    Calls Tryd.prog 10 #[.slice ao D.length cap] w fun e w' => e = .returned (.string ⟨(encs D).toArray⟩) ∧ Below w.heap.size w w' := by
  have HN := Lib.hid hN
  clear hN
  go_enter Tryd.func10, Tryd.ntmps10
  go_wp2_with fail
  go_loopg [3, 4] D.length (fun k vs i wr => ∃ (j : Nat) (z : ByteArray), j + k = D.length ∧ i = .int .i64 j ∧ vs = .string z ∧ Hid (z = ⟨(encs (D.take j)).toArray⟩) ∧ Below w.heap.size w wr)
  case atStart => exact ⟨0, ⟨#[]⟩, by omega, rfl, rfl, Lib.hid (by simp [encs]), Below.refl _ _⟩
  case round =>
    obtain ⟨j, z, hj, rfl, rfl, HZ, hbr⟩ := hrel
    have HB := Lib.hid hbr
    have HJ := Lib.hid hj
    have hbs0 : w.heap.size ≤ wr.heap.size := hbr.size
    clear hbr hj
    by_cases hlt : j < D.length
    · obtain ⟨g, off, rfl, hg1, hcell⟩ := (HN.out.below HB.out).at hlt
      obtain ⟨t, ht⟩ : ∃ t, D[j] = t := ⟨_, rfl⟩
      rw [ht] at hcell
      have htl : t.length + 1 ≤ (encs D).length := encs_mem (ht ▸ List.getElem_mem hlt)
      have hi1 : (j : Int) < (D.length : Int) := by omega
      have hel := encs_take_le D j
      have HE := Lib.hid (encs_take hlt)
      rw [ht] at HE
      obtain ⟨X, hX⟩ : ∃ X : ByteArray, (⟨t.toArray⟩ : ByteArray) = X := ⟨_, rfl⟩
      have hXV : strV t = .string X := by unfold strV; rw [hX]
      have hXs : X.size = t.length := by rw [← hX, str_size]
      rw [hXV] at hcell
      have hzs : z.size ≤ 1000000 := by rw [HZ.out, str_size]; omega
      have hvt := (vput_length t.length).2
      have HX := Lib.hid hX
      have hS0 : wr.drew.cell? ⟨g, off + j, none⟩ = some (.string X) := hcell
      have HBd := Lib.hid (HB.out.trans ((below_drew0 wr).mono hbs0))
      have hbs : w.heap.size ≤ wr.drew.heap.size := hbs0
      have hneS : Nonempty { w' : World // w'.cell? ⟨g, off + j, none⟩ = some (.string X) } := ⟨⟨_, hS0⟩⟩
      have hxS : ∀ t : { w' : World // w'.cell? ⟨g, off + j, none⟩ = some (.string X) }, t.1.cell? ⟨g, off + j, none⟩ = some (.string X) := fun t => t.2
      obtain ⟨V, hV⟩ : ∃ V : ByteArray, (⟨(vput t.length).toArray⟩ : ByteArray) = V := ⟨_, rfl⟩
      have hVs : V.size ≤ 10 := by rw [← hV, str_size]; exact hvt
      have HV := Lib.hid hV
      obtain ⟨z1, hz1⟩ : ∃ z1, V ++ X = z1 := ⟨_, rfl⟩
      have hz1s : z1.size ≤ 1000020 := by rw [← hz1, ByteArray.size_append]; omega
      obtain ⟨z2, hz2⟩ : ∃ z2, z ++ z1 = z2 := ⟨_, rfl⟩
      have HZ2 : Hid (z2 = ⟨(encs (D.take (j + 1))).toArray⟩) := Lib.hid (by
        rw [← hz2, ← hz1, HE.out, HZ.out, ← HV.out, ← HX.out, bstr_app, bstr_app, List.append_assoc])
      have hwt : IntKind.u64.wrap (t.length : Int) = (t.length : Int) := by rw [IntKind.wrap_u64]; omega
      have hwx : IntKind.u64.wrap (X.size : Int) = (t.length : Int) := by rw [hXs]; exact hwt
      have hcat1 : ¬ 9223372036854775807 < V.size + X.size := by omega
      have hcat2 : ¬ 9223372036854775807 < z.size + z1.size := by omega
      clear ht hX hXV hel hV hXs hVs hz1s hzs
      go_wp2_with fail
      refine wp_region_seq (S := fun w' => w'.cell? ⟨g, off + j, none⟩ = some (.string X)) [(0, true), (1, true), (2, true), (3, true), (4, true), (5, true), (6, true), (8, true), (9, true), (10, true), (11, true), (7, false), (12, true), (13, true), (14, true)] (by kernel_rfl) (by kernel_rfl) (by kernel_rfl) (by kernel_rfl) hS0 ?_
      iterate 11 (refine seq_take _ rfl (fun K hK => ?_); go_simp; (first | refine hK _ ?_ | (refine ⟨undef, by rw [if_neg (by simp [undef])], ?_⟩; refine hK _ ?_)); clear hK K)
      refine seq_come _ rfl (fun K hK => ?_); go_simp
      refine (rvint_at t.length _ (by omega)).mono ?_; rintro e w1 ⟨rfl, hb1⟩
      rw [HV.out]
      have HB1 := Lib.hid (HBd.out.trans (hb1.mono hbs))
      have hS1 : w1.cell? ⟨g, off + j, none⟩ = some (.string X) := (hb1.cell (p := ⟨g, off + j, none⟩) hg1).trans hS0
      clear hb1
      go_simp; refine hK.out _ _ hS1 ?_; clear hK K
      iterate 3 (refine seq_take _ rfl (fun K hK => ?_); go_simp; (first | refine hK _ ?_ | (refine ⟨undef, by rw [if_neg (by simp [undef])], ?_⟩; refine hK _ ?_)); clear hK K)
      refine seq_done ?_
      clear hxS hneS
      go_wp2_with fail
      have hj := HJ.out
      go_roundg (gk - 1)
      case measure => omega
      case rel => exact ⟨j + 1, z2, by omega, by simp, rfl, HZ2, HB1.out⟩
    · have hjl : j = D.length := by have := HJ.out; omega
      have HZ2 : Hid (z = ⟨(encs D).toArray⟩) := Lib.hid (by rw [HZ.out, hjl, List.take_length])
      clear hjl
      go_wp2_with fail
      go_ret
      exact ⟨by rw [← HZ2.out]; rfl, HB.out⟩
end Go.Proofs.YtdokbooggbiciaaDoor
