/-
  The reference's Next: texts, groups.
-/
import Derived.Test.YtbhppchdoalahaaDoorWireRN
namespace Go.Proofs.YtbhppchdoalahaaDoor
open Go.RowKit

set_option maxRecDepth 100000 in
set_option maxHeartbeats 8000000 in
theorem rnext_2no (s : ByteArray) (p t j num ty q : Nat) (d : Int) (w : World) (hp : p ≤ s.size) (hs : s.size ≤ 1000000000) (hT : TagIs s p t j num ty q) (h1 : 1 ≤ num) (h2 : num ≤ 536870911) (h3 : ty = 2) (c : Nat) (hv : wv (s.data.toList.drop q) = .error c) :
    Calls Tryd.prog 21 #[.string s, .int .i64 (p : Int), .int .i64 d] w (RNextPost s p d w) := by
  have hb : wbd (s.data.toList.drop q) ty = .error c := by rw [h3]; exact wbd_lenno hv
  have HF : Hid (wnx (s.data.toList.drop p) d = .error c) := Lib.hid (by rw [wnx_body (hT.whd h1 h2 (by omega)) (by omega) (by omega), List.drop_drop, ← hT.2.2.2.1, hb])
  have HG0 := Lib.hid (hT.get hp)
  have ht : t < 18446744073709551616 := hT.2.2.2.2.2
  have ha := u64_and7 t ht
  rw [← hT.2.2.1] at ha
  have hsh : (t : Int) / 8 = (num : Int) := by have := hT.2.1; omega
  have hqs : q ≤ s.size := hT.2.2.2.2.1
  have hpq : p ≤ q := by have := hT.2.2.2.1; omega
  have HQ := Lib.hid hT.2.2.2.1
  have HTT := Lib.hid hT
  have HG1 := Lib.hid (vget_no (p := q) (by simpa using hqs) hv)
  have hc0 : ((c : Int) != 0) = true := by have := wv_err hv; simp; omega
  clear hT HTT hb hv
  subst h3
  go_enter Tryd.func21, Tryd.ntmps21
  go_wp2_with fail
  refine (rget_ok s p _ (by omega) HG0.out).mono ?_; rintro e w' ⟨rfl, rfl⟩
  go_wp2_with fail
  refine (rget_err s q _ (by omega) HG1.out).mono ?_; rintro e w' ⟨rfl, rfl⟩
  go_wp2_with fail
  refine body_cell3 rfl rfl (load_rrec (old_two _ _ _) rfl) rfl ?_
  exact rnext_no HF.out rfl (below_step (below_new _ _) (below_new _ _))
set_option maxRecDepth 100000 in
set_option maxHeartbeats 8000000 in
theorem rnext_2long (s : ByteArray) (p t j num ty q : Nat) (d : Int) (w : World) (hp : p ≤ s.size) (hs : s.size ≤ 1000000000) (hT : TagIs s p t j num ty q) (h1 : 1 ≤ num) (h2 : num ≤ 536870911) (h3 : ty = 2) (n m : Nat) (hv : wv (s.data.toList.drop q) = .ok (n, m)) (hl : s.size - q - m < n) :
    Calls Tryd.prog 21 #[.string s, .int .i64 (p : Int), .int .i64 d] w (RNextPost s p d w) := by
  have hb : wbd (s.data.toList.drop q) ty = .error 1 := by rw [h3]; exact wbd_lenlong hv (by simp; omega)
  have HF : Hid (wnx (s.data.toList.drop p) d = .error 1) := Lib.hid (by rw [wnx_body (hT.whd h1 h2 (by omega)) (by omega) (by omega), List.drop_drop, ← hT.2.2.2.1, hb])
  have HG0 := Lib.hid (hT.get hp)
  have ht : t < 18446744073709551616 := hT.2.2.2.2.2
  have ha := u64_and7 t ht
  rw [← hT.2.2.1] at ha
  have hsh : (t : Int) / 8 = (num : Int) := by have := hT.2.1; omega
  have hqs : q ≤ s.size := hT.2.2.2.2.1
  have hpq : p ≤ q := by have := hT.2.2.2.1; omega
  have HQ := Lib.hid hT.2.2.2.1
  have HTT := Lib.hid hT
  have HG1 := Lib.hid (vget_ok (p := q) (by simpa using hqs) hv)
  have hn64 : n < 18446744073709551616 := (wv_bounds hv).2.2.2
  obtain ⟨x, hx⟩ : ∃ x, x = q + m := ⟨_, rfl⟩
  have hxs : x ≤ s.size := by have := (wv_bounds hv).2.1; simp at this; omega
  have hu : IntKind.u64.wrap ((s.size : Int) - (x : Int)) = (s.size : Int) - x := u64_wrap_id (by omega) (by omega)
  have hqx : q ≤ x := by omega
  rw [← hx] at HG1
  have HXX := Lib.hid hx
  have hl2 : s.size - x < n := by omega
  clear hT HTT hb hv hx hl
  subst h3
  go_enter Tryd.func21, Tryd.ntmps21
  go_wp2_with fail
  refine (rget_ok s p _ (by omega) HG0.out).mono ?_; rintro e w' ⟨rfl, rfl⟩
  go_wp2_with fail
  refine (rget_ok s q _ (by omega) HG1.out).mono ?_; rintro e w' ⟨rfl, rfl⟩
  go_wp2_with fail
  refine body_cell3 rfl rfl (load_rrec (old_two _ _ _) rfl) rfl ?_
  exact rnext_no HF.out rfl (below_step (below_new _ _) (below_new _ _))
set_option maxRecDepth 100000 in
set_option maxHeartbeats 8000000 in
theorem rnext_2 (s : ByteArray) (p t j num ty q : Nat) (d : Int) (w : World) (hp : p ≤ s.size) (hs : s.size ≤ 1000000000) (hT : TagIs s p t j num ty q) (h1 : 1 ≤ num) (h2 : num ≤ 536870911) (h3 : ty = 2) (n m : Nat) (hv : wv (s.data.toList.drop q) = .ok (n, m)) (hl : q + m + n ≤ s.size) :
    Calls Tryd.prog 21 #[.string s, .int .i64 (p : Int), .int .i64 d] w (RNextPost s p d w) := by
  have hb : wbd (s.data.toList.drop q) ty = .ok (0, ((s.data.toList.drop q).drop m).take n, m + n) := by rw [h3]; exact wbd_len hv (by simp; omega)
  have HF : Hid (wnx (s.data.toList.drop p) d = .ok (⟨num, ty, 0, ((s.data.toList.drop q).drop m).take n, (s.data.toList.drop p).take (j + (m + n))⟩, j + (m + n))) := Lib.hid (by rw [wnx_body (hT.whd h1 h2 (by omega)) (by omega) (by omega), List.drop_drop, ← hT.2.2.2.1, hb])
  have HG0 := Lib.hid (hT.get hp)
  have ht : t < 18446744073709551616 := hT.2.2.2.2.2
  have ha := u64_and7 t ht
  rw [← hT.2.2.1] at ha
  have hsh : (t : Int) / 8 = (num : Int) := by have := hT.2.1; omega
  have hqs : q ≤ s.size := hT.2.2.2.2.1
  have hpq : p ≤ q := by have := hT.2.2.2.1; omega
  have HQ := Lib.hid hT.2.2.2.1
  have HTT := Lib.hid hT
  have HG1 := Lib.hid (vget_ok (p := q) (by simpa using hqs) hv)
  have hn64 : n < 18446744073709551616 := (wv_bounds hv).2.2.2
  obtain ⟨x, hx⟩ : ∃ x, x = q + m := ⟨_, rfl⟩
  have hxs : x ≤ s.size := by have := (wv_bounds hv).2.1; simp at this; omega
  have hu : IntKind.u64.wrap ((s.size : Int) - (x : Int)) = (s.size : Int) - x := u64_wrap_id (by omega) (by omega)
  have hqx : q ≤ x := by omega
  rw [← hx] at HG1
  have HXX := Lib.hid hx
  have hl2 : x + n ≤ s.size := by omega
  have hw1 : IntKind.i64.wrap (n : Int) = n := i64_wrap_id (by omega) (by omega)
  have HS := Lib.hid (show s.extract x (x + n) = ByteArray.mk (((s.data.toList.drop q).drop m).take n).toArray by rw [ext_str, Nat.add_sub_cancel_left, hx, List.drop_drop])
  clear hT HTT hb hv hx hl
  subst h3
  go_enter Tryd.func21, Tryd.ntmps21
  go_wp2_with fail
  refine (rget_ok s p _ (by omega) HG0.out).mono ?_; rintro e w' ⟨rfl, rfl⟩
  go_wp2_with fail
  refine (rget_ok s q _ (by omega) HG1.out).mono ?_; rintro e w' ⟨rfl, rfl⟩
  go_wp2_with fail
  refine body_cell3 rfl rfl (load_rrec (old_two _ _ _) rfl) rfl ?_
  exact rnext_ok HF.out (by rw [HS.out, ext_str, show x + n - p = j + (m + n) by have := HQ.out; have := HXX.out; omega]; rfl) (by have := HQ.out; have := HXX.out; simp; omega) (below_step (below_new _ _) (below_new _ _))
set_option maxRecDepth 100000 in
set_option maxHeartbeats 8000000 in
theorem rnext_3no (s : ByteArray) (p t j num ty q : Nat) (d : Int) (w : World) (hp : p ≤ s.size) (hs : s.size ≤ 1000000000) (hT : TagIs s p t j num ty q) (h1 : 1 ≤ num) (h2 : num ≤ 536870911) (h3 : ty = 3) (hg : ∀ w, Calls Tryd.prog 65 #[.string s, .int .i64 (q : Int), .int .i64 (num : Int), .int .i64 d] w (RGroupPost s q num d w)) (c : Nat) (hw : wgroup (s.data.toList.drop q) [num] d = .error c) :
    Calls Tryd.prog 21 #[.string s, .int .i64 (p : Int), .int .i64 d] w (RNextPost s p d w) := by
  have HF : Hid (wnx (s.data.toList.drop p) d = .error c) := Lib.hid (by rw [wnx_group (h3 ▸ hT.whd h1 h2 (by omega)), List.drop_drop, ← hT.2.2.2.1, hw])
  have HGR := Lib.hid hg
  have HW := Lib.hid hw
  have HG0 := Lib.hid (hT.get hp)
  have ht : t < 18446744073709551616 := hT.2.2.2.2.2
  have ha := u64_and7 t ht
  rw [← hT.2.2.1] at ha
  have hsh : (t : Int) / 8 = (num : Int) := by have := hT.2.1; omega
  have hqs : q ≤ s.size := hT.2.2.2.2.1
  have hpq : p ≤ q := by have := hT.2.2.2.1; omega
  have HQ := Lib.hid hT.2.2.2.1
  have HTT := Lib.hid hT
  clear hT HTT hg hw
  subst h3
  go_enter Tryd.func21, Tryd.ntmps21
  go_wp2_with fail
  refine (rget_ok s p _ (by omega) HG0.out).mono ?_; rintro e w' ⟨rfl, rfl⟩
  go_wp2_with fail
  refine (HGR.out _).mono ?_; intro e w6 hpost
  unfold RGroupPost at hpost
  rw [HW.out] at hpost
  obtain ⟨⟨x, rfl⟩, hb6⟩ := hpost
  have HR := Lib.hid (RRow.below (w := (w.alloc (.cells #[.int .i64 0, .int .i64 0, .int .u64 0, .string ⟨#[]⟩, .string ⟨#[]⟩] 39)).alloc (.cells #[.int .i64 (num : Int), .int .i64 3, .int .u64 0, .string ⟨#[]⟩, .string ⟨#[]⟩] 39)) (b := w.heap.size) (cs := #[.int .i64 0, .int .i64 0, .int .u64 0, .string ⟨#[]⟩, .string ⟨#[]⟩]) ⟨old_two _ _ _⟩ hb6)
  have HB6 := Lib.hid (below_step (below_step (below_new _ _) (below_new _ _)) hb6)
  clear hb6
  have rq0 : w6.cell? ⟨w.heap.size, 0, none⟩ = some (.int .i64 0) := row_cell HR.out.row (j := 0) rfl
  have rz0 : w6.frozen? ⟨w.heap.size, 0, none⟩ = false := row_thaw HR.out.row 0
  have rq1 : w6.cell? ⟨w.heap.size, 1, none⟩ = some (.int .i64 0) := row_cell HR.out.row (j := 1) rfl
  have rz1 : w6.frozen? ⟨w.heap.size, 1, none⟩ = false := row_thaw HR.out.row 1
  have rq2 : w6.cell? ⟨w.heap.size, 2, none⟩ = some (.int .u64 0) := row_cell HR.out.row (j := 2) rfl
  have rz2 : w6.frozen? ⟨w.heap.size, 2, none⟩ = false := row_thaw HR.out.row 2
  have rq3 : w6.cell? ⟨w.heap.size, 3, none⟩ = some (.string ⟨#[]⟩) := row_cell HR.out.row (j := 3) rfl
  have rz3 : w6.frozen? ⟨w.heap.size, 3, none⟩ = false := row_thaw HR.out.row 3
  have rq4 : w6.cell? ⟨w.heap.size, 4, none⟩ = some (.string ⟨#[]⟩) := row_cell HR.out.row (j := 4) rfl
  have rz4 : w6.frozen? ⟨w.heap.size, 4, none⟩ = false := row_thaw HR.out.row 4
  have rlt : w.heap.size < w6.heap.size := row_lt HR.out.row
  go_wp2_with fail
  refine body_cell3 rfl rfl (load_rrec (HR.out.sets _ _ _ _ _).row rfl) rfl ?_
  exact rnext_no HF.out rfl (below_sets HB6.out _ _ _ _ _)
set_option maxRecDepth 100000 in
set_option maxHeartbeats 8000000 in
theorem rnext_3 (s : ByteArray) (p t j num ty q : Nat) (d : Int) (w : World) (hp : p ≤ s.size) (hs : s.size ≤ 1000000000) (hT : TagIs s p t j num ty q) (h1 : 1 ≤ num) (h2 : num ≤ 536870911) (h3 : ty = 3) (hg : ∀ w, Calls Tryd.prog 65 #[.string s, .int .i64 (q : Int), .int .i64 (num : Int), .int .i64 d] w (RGroupPost s q num d w)) (k : Nat) (hw : wgroup (s.data.toList.drop q) [num] d = .ok k) :
    Calls Tryd.prog 21 #[.string s, .int .i64 (p : Int), .int .i64 d] w (RNextPost s p d w) := by
  have HF : Hid (wnx (s.data.toList.drop p) d = .ok (⟨num, 3, 0, [], (s.data.toList.drop p).take (j + k)⟩, j + k)) := Lib.hid (by rw [wnx_group (h3 ▸ hT.whd h1 h2 (by omega)), List.drop_drop, ← hT.2.2.2.1, hw])
  have HGR := Lib.hid hg
  have HW := Lib.hid hw
  have HG0 := Lib.hid (hT.get hp)
  have ht : t < 18446744073709551616 := hT.2.2.2.2.2
  have ha := u64_and7 t ht
  rw [← hT.2.2.1] at ha
  have hsh : (t : Int) / 8 = (num : Int) := by have := hT.2.1; omega
  have hqs : q ≤ s.size := hT.2.2.2.2.1
  have hpq : p ≤ q := by have := hT.2.2.2.1; omega
  have HQ := Lib.hid hT.2.2.2.1
  have HTT := Lib.hid hT
  have hqk : q + k ≤ s.size := by have := (wgroup_bounds _ (Nat.lt_succ_self _) hw).1; simp at this; omega
  clear hT HTT hg hw
  subst h3
  go_enter Tryd.func21, Tryd.ntmps21
  go_wp2_with fail
  refine (rget_ok s p _ (by omega) HG0.out).mono ?_; rintro e w' ⟨rfl, rfl⟩
  go_wp2_with fail
  refine (HGR.out _).mono ?_; intro e w6 hpost
  unfold RGroupPost at hpost
  rw [HW.out] at hpost
  obtain ⟨rfl, hb6⟩ := hpost
  have HR := Lib.hid (RRow.below (w := (w.alloc (.cells #[.int .i64 0, .int .i64 0, .int .u64 0, .string ⟨#[]⟩, .string ⟨#[]⟩] 39)).alloc (.cells #[.int .i64 (num : Int), .int .i64 3, .int .u64 0, .string ⟨#[]⟩, .string ⟨#[]⟩] 39)) (b := w.heap.size) (cs := #[.int .i64 0, .int .i64 0, .int .u64 0, .string ⟨#[]⟩, .string ⟨#[]⟩]) ⟨old_two _ _ _⟩ hb6)
  have HB6 := Lib.hid (below_step (below_step (below_new _ _) (below_new _ _)) hb6)
  have HR9 := Lib.hid (RRow.below (w := (w.alloc (.cells #[.int .i64 0, .int .i64 0, .int .u64 0, .string ⟨#[]⟩, .string ⟨#[]⟩] 39)).alloc (.cells #[.int .i64 (num : Int), .int .i64 3, .int .u64 0, .string ⟨#[]⟩, .string ⟨#[]⟩] 39)) (b := w.heap.size + 1) (cs := #[.int .i64 (num : Int), .int .i64 3, .int .u64 0, .string ⟨#[]⟩, .string ⟨#[]⟩]) ⟨by have := heap_alloc_new (w.alloc (.cells #[.int .i64 0, .int .i64 0, .int .u64 0, .string ⟨#[]⟩, .string ⟨#[]⟩] 39)) (.cells #[.int .i64 (num : Int), .int .i64 3, .int .u64 0, .string ⟨#[]⟩, .string ⟨#[]⟩] 39); rw [show (w.alloc (.cells #[.int .i64 0, .int .i64 0, .int .u64 0, .string ⟨#[]⟩, .string ⟨#[]⟩] 39)).heap.size = w.heap.size + 1 by simp] at this; exact this⟩ hb6)
  have hne1 : w.heap.size ≠ w.heap.size + 1 := by omega
  clear hb6
  have rq0 : w6.cell? ⟨w.heap.size, 0, none⟩ = some (.int .i64 0) := row_cell HR.out.row (j := 0) rfl
  have rz0 : w6.frozen? ⟨w.heap.size, 0, none⟩ = false := row_thaw HR.out.row 0
  have rq1 : w6.cell? ⟨w.heap.size, 1, none⟩ = some (.int .i64 0) := row_cell HR.out.row (j := 1) rfl
  have rz1 : w6.frozen? ⟨w.heap.size, 1, none⟩ = false := row_thaw HR.out.row 1
  have rq2 : w6.cell? ⟨w.heap.size, 2, none⟩ = some (.int .u64 0) := row_cell HR.out.row (j := 2) rfl
  have rz2 : w6.frozen? ⟨w.heap.size, 2, none⟩ = false := row_thaw HR.out.row 2
  have rq3 : w6.cell? ⟨w.heap.size, 3, none⟩ = some (.string ⟨#[]⟩) := row_cell HR.out.row (j := 3) rfl
  have rz3 : w6.frozen? ⟨w.heap.size, 3, none⟩ = false := row_thaw HR.out.row 3
  have rq4 : w6.cell? ⟨w.heap.size, 4, none⟩ = some (.string ⟨#[]⟩) := row_cell HR.out.row (j := 4) rfl
  have rz4 : w6.frozen? ⟨w.heap.size, 4, none⟩ = false := row_thaw HR.out.row 4
  have rlt : w.heap.size < w6.heap.size := row_lt HR.out.row
  have sq0 : w6.cell? ⟨w.heap.size + 1, 0, none⟩ = some (.int .i64 (num : Int)) := row_cell HR9.out.row (j := 0) rfl
  have sz0 : w6.frozen? ⟨w.heap.size + 1, 0, none⟩ = false := row_thaw HR9.out.row 0
  have sq1 : w6.cell? ⟨w.heap.size + 1, 1, none⟩ = some (.int .i64 3) := row_cell HR9.out.row (j := 1) rfl
  have sz1 : w6.frozen? ⟨w.heap.size + 1, 1, none⟩ = false := row_thaw HR9.out.row 1
  have sq2 : w6.cell? ⟨w.heap.size + 1, 2, none⟩ = some (.int .u64 0) := row_cell HR9.out.row (j := 2) rfl
  have sz2 : w6.frozen? ⟨w.heap.size + 1, 2, none⟩ = false := row_thaw HR9.out.row 2
  have sq3 : w6.cell? ⟨w.heap.size + 1, 3, none⟩ = some (.string ⟨#[]⟩) := row_cell HR9.out.row (j := 3) rfl
  have sz3 : w6.frozen? ⟨w.heap.size + 1, 3, none⟩ = false := row_thaw HR9.out.row 3
  have sq4 : w6.cell? ⟨w.heap.size + 1, 4, none⟩ = some (.string ⟨#[]⟩) := row_cell HR9.out.row (j := 4) rfl
  have sz4 : w6.frozen? ⟨w.heap.size + 1, 4, none⟩ = false := row_thaw HR9.out.row 4
  have slt : w.heap.size + 1 < w6.heap.size := row_lt HR9.out.row
  go_wp2_with fail
  refine body_cell3 rfl rfl (load_rrec ((HR.out.other hne1 _ _).sets _ _ _ _ _).row rfl) rfl ?_
  exact rnext_ok HF.out (by rw [ext_str, show q + k - p = j + k by have := HQ.out; omega]; rfl) (by have := HQ.out; simp; omega) (below_sets (below_set HB6.out (by omega) _ _) _ _ _ _ _)
end Go.Proofs.YtbhppchdoalahaaDoor
