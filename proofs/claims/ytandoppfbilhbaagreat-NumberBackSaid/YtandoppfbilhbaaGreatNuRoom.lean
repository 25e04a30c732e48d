/-
  hygref.RoomNumber: any point.
-/
import Derived.Test.YtandoppfbilhbaaGreatNuBack
import Derived.Test.YtandoppfbilhbaaGreatExRoom
namespace Go.Proofs.YtandoppfbilhbaaGreat
open Go.RowKit

theorem exsw_lwt : ∀ l : List Ex, exsw l = lwt exSb l
  | [] => by rw [exsw]; rfl
  | x :: l => by rw [exsw, lwt_cons, exsw_lwt l]; rfl
def RowN (w' : World) (g : Nat) (c : List Value) : Prop := w'.heap[g]? = some (.cells c.toArray 27 (0, 0))
set_option maxRecDepth 1000000 in
set_option maxHeartbeats 8000000 in
theorem nu_room (x : Nu) (cs : List Value) (P : Nat → Prop) (w : World) (room : Int) (harg : nu_arg x) (hr : nuCel.R w P x cs) (hro : -1 ≤ room ∧ room ≤ 1000000) :
 Calls Tryz.prog 8 #[.agg cs.toArray, .int .i64 room] w (RmPost room (nu_wt x) w) := by
 have HRO := Lib.hid hro
 obtain ⟨⟨a, ⟨t, ⟨⟨⟨k, n⟩, es⟩, ⟨l, f⟩⟩⟩⟩, u⟩ := x
 obtain ⟨lo, lc, eo, ec, rfl, hk, he⟩ := hr
 obtain ⟨_, _, _, hfe, hze, hfl, hll, hzl, _, hzu⟩ := harg
 have HK := Lib.hid hk
 have HE := Lib.hid he
 have HFE := Lib.hid hfe
 have HZE := Lib.hid hze
 have HFL := Lib.hid hfl
 have HLL := Lib.hid hll
 have HZL := Lib.hid hzl
 have HWX : Hid (nu_wt ((a, (t, (((k, n), es), (l, f)))), u) = 20 + (lwt exSb es + ksw l + u.length)) := Lib.hid rfl
 dsimp only [strV]
 obtain ⟨Xu, hXu⟩ : ∃ X : ByteArray, (⟨u.toArray⟩ : ByteArray) = X := ⟨_, rfl⟩
 have HZU : Hid (Xu.size = u.length) := Lib.hid (by rw [← hXu]; simp [ByteArray.size])
 have HBU : Hid (Xu.size ≤ 9223372036854775807) := Lib.hid (by rw [HZU.out]; exact hzu)
 rw [hXu]
 clear hro hk he hfe hze hfl hll hzl hzu hXu
 obtain ⟨W, hW⟩ : ∃ W, w.alloc (.cells #[.slice lo l.length lc, .int .u64 (a : Int), .int .u64 (t : Int), .int .i64 k, .int .u64 (n : Int), .slice eo es.length ec, .int .u32 (f : Int), .string Xu] 27) = W := ⟨_, rfl⟩
 obtain ⟨bx, hbx⟩ : ∃ bx, w.heap.size = bx := ⟨_, rfl⟩
 have HB0 : Hid (Below w.heap.size w W) := Lib.hid (by rw [← hW]; exact below_new _ _)
 have hrow : RowN W bx [.slice lo l.length lc, .int .u64 (a : Int), .int .u64 (t : Int), .int .i64 k, .int .u64 (n : Int), .slice eo es.length ec, .int .u32 (f : Int), .string Xu] := by rw [← hW, ← hbx]; exact heap_alloc_new _ _
 have HROW := Lib.hid hrow
 have HW := Lib.hid hW
 have HBX := Lib.hid hbx
 clear hW hbx hrow
 go_enter Tryz.func8, Tryz.ntmps8
 go_wp2_with fail
 rw [HW.out, HBX.out]
 obtain ⟨D, hD⟩ : ∃ D, W.drew = D := ⟨_, rfl⟩
 have HBD : Hid (Below W.heap.size W D) := Lib.hid (by rw [← hD]; exact (Below.refl _ _).drew)
 have hS : RowN D bx [.slice lo l.length lc, .int .u64 (a : Int), .int .u64 (t : Int), .int .i64 k, .int .u64 (n : Int), .slice eo es.length ec, .int .u32 (f : Int), .string Xu] := (HBD.out.block _ (row_lt HROW.out)).trans HROW.out
 have hne : Nonempty {w' : World // RowN w' bx [.slice lo l.length lc, .int .u64 (a : Int), .int .u64 (t : Int), .int .i64 k, .int .u64 (n : Int), .slice eo es.length ec, .int .u32 (f : Int), .string Xu]} := ⟨⟨_, hS⟩⟩
 have HBW := Lib.hid (below_step HB0.out HBD.out)
 refine wp_region_seq (S := fun w' => RowN w' bx [.slice lo l.length lc, .int .u64 (a : Int), .int .u64 (t : Int), .int .i64 k, .int .u64 (n : Int), .slice eo es.length ec, .int .u32 (f : Int), .string Xu]) [(0, true), (1, true), (2, true), (3, true), (4, true), (5, true), (6, true), (7, true), (8, false), (9, false), (10, false), (11, true)] (by kernel_rfl) (by kernel_rfl) (by kernel_rfl) (by kernel_rfl) (by rw [hD]; exact hS) ?_
 rw [hD]
 clear hD
 (refine seq_take _ rfl (fun K2 hK => ?_); go_simp; (first | refine hK _ ?_ | refine ⟨_, fun _ _ => rfl, hK _ ?_⟩); clear hK K2)
 refine seq_take _ rfl (fun K2 hK => ?_); go_simp
 refine ⟨.slice eo es.length ec, fun a ha => by (have e : a.cell? ⟨bx, 5, none⟩ = some (.slice eo es.length ec) := row_cell ha (j := 5) rfl); rw [e]; rfl, hK _ ?_⟩; clear hK K2
 (refine seq_take _ rfl (fun K2 hK => ?_); go_simp; (first | refine hK _ ?_ | refine ⟨_, fun _ _ => rfl, hK _ ?_⟩); clear hK K2)
 refine seq_take _ rfl (fun K2 hK => ?_); go_simp
 refine ⟨.slice lo l.length lc, fun a ha => by (have e : a.cell? ⟨bx, 0, none⟩ = some (.slice lo l.length lc) := row_cell ha (j := 0) rfl); rw [e]; rfl, hK _ ?_⟩; clear hK K2
 iterate 2 (refine seq_take _ rfl (fun K2 hK => ?_); go_simp; (first | refine hK _ ?_ | refine ⟨_, fun _ _ => rfl, hK _ ?_⟩); clear hK K2)
 refine seq_take _ rfl (fun K2 hK => ?_); go_simp
 refine ⟨.string Xu, fun a ha => by (have e : a.cell? ⟨bx, 7, none⟩ = some (.string Xu) := row_cell ha (j := 7) rfl); rw [e]; rfl, hK _ ?_⟩; clear hK K2
 (refine seq_take _ rfl (fun K2 hK => ?_); go_simp; (first | refine hK _ ?_ | refine ⟨_, fun _ _ => rfl, hK _ ?_⟩); clear hK K2)
 refine seq_come _ rfl (fun K2 hK => ?_); go_simp
 refine (roomtake_any room Xu.size D HRO.out HBU.out).mono ?_; rintro e w4 ⟨rfl, r1, rfl, HR1⟩
 have HB1 := Lib.hid (HR1.out.le HRO.out)
 go_simp; refine hK.out _ _ hS ?_; clear hK K2
 refine seq_come _ rfl (fun K2 hK => ?_); go_simp
 refine (roomks_any l lo lc P D 40 r1 HZL.out HLL.out HFL.out (HK.out.below HBW.out) (by omega) HB1.out).mono ?_; rintro e w5 ⟨hb5, r2, rfl, HR2⟩
 have HB2 := Lib.hid (HR2.out.le HB1.out)
 have hS5 : RowN w5 bx [.slice lo l.length lc, .int .u64 (a : Int), .int .u64 (t : Int), .int .i64 k, .int .u64 (n : Int), .slice eo es.length ec, .int .u32 (f : Int), .string Xu] := (hb5.block _ (row_lt hS)).trans hS
 have HBV := Lib.hid (below_step HBW.out hb5)
 go_simp; refine hK.out _ _ hS5 ?_; clear hK K2 hb5
 refine seq_come _ rfl (fun K2 hK => ?_); go_simp
 refine (exrooms_any es eo ec P w5 r2 HZE.out HFE.out (HE.out.below HBV.out) HB2.out).mono ?_; rintro e w6 ⟨hb6, r3, rfl, HR3⟩
 have hS6 : RowN w6 bx [.slice lo l.length lc, .int .u64 (a : Int), .int .u64 (t : Int), .int .i64 k, .int .u64 (n : Int), .slice eo es.length ec, .int .u32 (f : Int), .string Xu] := (hb6.block _ (row_lt hS5)).trans hS5
 have HBZ := Lib.hid (below_step HBV.out hb6)
 go_simp; refine hK.out _ _ hS6 ?_; clear hK K2 hb6
 (refine seq_take _ rfl (fun K2 hK => ?_); go_simp; (first | refine hK _ ?_ | refine ⟨_, fun _ _ => rfl, hK _ ?_⟩); clear hK K2)
 refine seq_done ?_
 clear hS hS5 hS6 hne
 go_wp2_with fail
 go_ret
 exact ⟨HBZ.out, r3, rfl, Lib.hid (by
  have h1 := (HR1.out.then HR2.out).then HR3.out
  rw [exsw_lwt] at h1
  have h2 := HWX.out
  have h3 := HZU.out
  unfold RoomOk at h1 ⊢
  omega)⟩
end Go.Proofs.YtandoppfbilhbaaGreat
