/-
  wire.Next: a body that is none.
-/
import Derived.Test.YtdokbooggbiciaaWireR4A
namespace Go.Proofs.Ytdokbooggbiciaa
open Go.RowKit

theorem upd_seven (w : World) (b b9 : Nat) (x2 x3 v0 v1 v2 v3 v4 : Value) : Upd (fun k => k = b ∨ k = b9) w
    (((((((w.setCell ⟨b9, 2, none⟩ x2).setCell ⟨b9, 3, none⟩ x3).setCell ⟨b, 0, none⟩ v0).setCell ⟨b, 1, none⟩ v1).setCell ⟨b, 2, none⟩ v2).setCell ⟨b, 3, none⟩ v3).setCell ⟨b, 4, none⟩ v4) :=
  (((Upd.set w ⟨b9, 2, none⟩ x2).mono (fun _ _ hk => .inr hk)).trans ((Upd.set _ ⟨b9, 3, none⟩ x3).mono (fun _ _ hk => .inr hk))).trans ((upd_sets _ b v0 v1 v2 v3 v4).mono (fun _ _ hk => .inl hk))
set_option maxRecDepth 100000 in
set_option maxHeartbeats 8000000 in
theorem next_bodyno (s : ByteArray) (p num ty j c : Nat) (d : Int) (w : World) (hp : p ≤ s.size) (hs : s.size ≤ 1000000000) (hh : whd (s.data.toList.drop p) = .ok (num, ty, j)) (h3 : ty ≠ 3) (h4 : ty ≠ 4) (hpj : p + j ≤ s.size)
    (hg : wbd (s.data.toList.drop (p + j)) ty = .error c) : Calls Try.prog 63 #[.string s, .int .i64 (p : Int), .int .i64 d] w (NextPost s p d w) := by
  have HF : Hid (wnx (s.data.toList.drop p) d = .error c) := Lib.hid (by rw [wnx_body hh h3 h4, List.drop_drop, hg])
  have hbdc := wbd_cases hh h3 h4
  have hT3 : ((ty : Int) == 3) = false := by simp; omega
  have hT4 : ((ty : Int) == 4) = false := by simp; omega
  have HH := Lib.hid hh
  have HG := Lib.hid hg
  clear hh hg h3 h4
  go_enter Try.func63, Try.ntmps63
  go_wp2_with fail
  refine (head_any s p _ hp hs).mono ?_; intro e w1 hpost
  unfold HeadPost at hpost
  rw [HH.out] at hpost
  obtain ⟨rfl, hb1⟩ := hpost
  have HR1 := Lib.hid ((RecRow.new w #[.int .i64 0, .int .i64 0, .int .u64 0, .string ⟨#[]⟩, .string ⟨#[]⟩]).below hb1)
  have HB1 := Lib.hid hb1
  clear hb1
  go_wp2_with fail
  refine (body_any s (p + j) ty _ hpj hs hbdc).mono ?_; intro e w6 hpost
  clear hbdc hT3 hT4
  unfold BodyPost at hpost
  rw [HG.out] at hpost
  obtain ⟨v, rfl, q, hq, hE⟩ := hpost
  obtain ⟨T, y, rfl⟩ := hE.iface
  have HR := Lib.hid ((HR1.out.below (below_new _ _)).below hE.2)
  have HR9 := Lib.hid ((RecRow.new w1 #[.int .i64 (num : Int), .int .i64 (ty : Int), .int .u64 0, .string ⟨#[]⟩, .string ⟨#[]⟩]).below hE.2)
  have HE := Lib.hid hE
  clear hE
  have hw1 : w.heap.size < w1.heap.size := row_lt HR1.out.row
  have hne1 : w.heap.size ≠ w1.heap.size := by omega
  have hne2 : w1.heap.size ≠ w.heap.size := by omega
  have rq0 : w6.cell? ⟨w.heap.size, 0, none⟩ = some (.int .i64 0) := row_cell HR.out.row (j := 0) rfl
  have rz0 : w6.frozen? ⟨w.heap.size, 0, none⟩ = false := row_thaw HR.out.row 0
  have rq1 : w6.cell? ⟨w.heap.size, 1, none⟩ = some (.int .i64 0) := row_cell HR.out.row (j := 1) rfl
  have rz1 : w6.frozen? ⟨w.heap.size, 1, none⟩ = false := row_thaw HR.out.row 1
  have rq2 : w6.cell? ⟨w.heap.size, 2, none⟩ = some (.int .u64 0) := row_cell HR.out.row (j := 2) rfl
  have rz2 : w6.frozen? ⟨w.heap.size, 2, none⟩ = false := row_thaw HR.out.row 2
  have rq3 : w6.cell? ⟨w.heap.size, 3, none⟩ = some (.string ⟨#[]⟩) := row_cell HR.out.row (j := 3) rfl
  have rz3 : w6.frozen? ⟨w.heap.size, 3, none⟩ = false := row_thaw HR.out.row 3
  have rq4 : w6.cell? ⟨w.heap.size, 4, none⟩ = some (.string ⟨#[]⟩) := row_cell HR.out.row (j := 4) rfl
  have rz4 : w6.frozen? ⟨w.heap.size, 4, none⟩ = false := row_thaw HR.out.row 4
  have rlt : w.heap.size < w6.heap.size := row_lt HR.out.row
  have sq0 : w6.cell? ⟨w1.heap.size, 0, none⟩ = some (.int .i64 (num : Int)) := row_cell HR9.out.row (j := 0) rfl
  have sz0 : w6.frozen? ⟨w1.heap.size, 0, none⟩ = false := row_thaw HR9.out.row 0
  have sq1 : w6.cell? ⟨w1.heap.size, 1, none⟩ = some (.int .i64 (ty : Int)) := row_cell HR9.out.row (j := 1) rfl
  have sz1 : w6.frozen? ⟨w1.heap.size, 1, none⟩ = false := row_thaw HR9.out.row 1
  have sq2 : w6.cell? ⟨w1.heap.size, 2, none⟩ = some (.int .u64 0) := row_cell HR9.out.row (j := 2) rfl
  have sz2 : w6.frozen? ⟨w1.heap.size, 2, none⟩ = false := row_thaw HR9.out.row 2
  have sq3 : w6.cell? ⟨w1.heap.size, 3, none⟩ = some (.string ⟨#[]⟩) := row_cell HR9.out.row (j := 3) rfl
  have sz3 : w6.frozen? ⟨w1.heap.size, 3, none⟩ = false := row_thaw HR9.out.row 3
  have sq4 : w6.cell? ⟨w1.heap.size, 4, none⟩ = some (.string ⟨#[]⟩) := row_cell HR9.out.row (j := 4) rfl
  have sz4 : w6.frozen? ⟨w1.heap.size, 4, none⟩ = false := row_thaw HR9.out.row 4
  have slt : w1.heap.size < w6.heap.size := row_lt HR9.out.row
  go_wp2_with fail
  refine body_cell3 rfl rfl (load_rec (((HR.out.other hne1 _ _).other hne1 _ _).sets _ _ _ _ _).row rfl) rfl ?_
  exact next_no HF.out q hq (HE.out.upd (S := fun k => k = w.heap.size ∨ k = w1.heap.size) (upd_seven w6 w.heap.size w1.heap.size _ _ _ _ _ _ _) (below_step (below_step (below_new _ _) HB1.out) (below_new _ _)) (fun k hk => by rcases hk with rfl | rfl <;> simp <;> omega))
end Go.Proofs.Ytdokbooggbiciaa
