/-
  The reference's Next, over what its group answers.
-/
import Derived.Test.YtbhppchdoalahaaDoorWireRP
import Derived.Test.YtbhppchdoalahaaDoorWireRefMath
namespace Go.Proofs.YtbhppchdoalahaaDoor
open Go.RowKit

def RNextPost (s : ByteArray) (p : Nat) (d : Int) (w : World) (e : Ending) (w' : World) : Prop := match wnx (s.data.toList.drop p) d with
  | .error _ => e = .returned (.tuple #[rec0, .int .i64 0, .bool false]) ∧ Below w.heap.size w w'
  | .ok (r, j) => e = .returned (.tuple #[recV r, .int .i64 ((p + j : Nat) : Int), .bool true]) ∧ Below w.heap.size w w'
theorem rnext_no {s : ByteArray} {p c : Nat} {d : Int} {w w' : World} {V : Value} (h : wnx (s.data.toList.drop p) d = .error c) (hV : V = rec0) (hB : Below w.heap.size w w') : RNextPost s p d w (.returned (.tuple #[V, .int .i64 0, .bool false])) w' := by
  subst hV; unfold RNextPost; rw [h]; exact ⟨rfl, hB⟩
theorem rnext_ok {s : ByteArray} {p j : Nat} {d : Int} {r : Rec} {w w' : World} (h : wnx (s.data.toList.drop p) d = .ok (r, j)) {V : Value} {Q : Int} (hV : V = recV r) (hQ : Q = ((p + j : Nat) : Int)) (hB : Below w.heap.size w w') :
    RNextPost s p d w (.returned (.tuple #[V, .int .i64 Q, .bool true])) w' := by
  subst hV; subst hQ; unfold RNextPost; rw [h]; exact ⟨rfl, hB⟩
def RGroupPost (s : ByteArray) (p num : Nat) (d : Int) (w : World) (e : Ending) (w' : World) : Prop := match wgroup (s.data.toList.drop p) [num] d with
  | .error _ => (∃ x : Int, e = .returned (.tuple #[.int .i64 x, .bool false])) ∧ Below w.heap.size w w'
  | .ok k => e = .returned (.tuple #[.int .i64 ((p + k : Nat) : Int), .bool true]) ∧ Below w.heap.size w w'
theorem load_rrec {w : World} {g : Nat} {cs : Array Value} (hg : w.heap[g]? = some (.cells cs 39 (0, 0))) (hc : cs.size = 5) : (loadVar 39 ⟨g, 0, none⟩).run Tryd.prog w = .ok (.agg cs) w :=
  run_loadVar_row w g 39 39 cs (0, 0) _ hg Tryd.underlying39 rfl (by rw [hc]; kernel_rfl)
structure RRow (w : World) (b : Nat) (cs : Array Value) : Prop where
  row : w.heap[b]? = some (.cells cs 39 (0, 0))
theorem RRow.below {w w' : World} {b : Nat} {cs : Array Value} (h : RRow w b cs) (hb : Below w.heap.size w w') : RRow w' b cs := ⟨(hb.block b (row_lt h.row)).trans h.row⟩
theorem RRow.set {w : World} {b : Nat} {cs : Array Value} (h : RRow w b cs) (j : Nat) (u : Value) : RRow (w.setCell ⟨b, j, none⟩ u) b (cs.setIfInBounds j u) := ⟨row_set h.row j u⟩
theorem RRow.other {w : World} {b b' : Nat} {cs : Array Value} (h : RRow w b cs) (hne : b ≠ b') (j : Nat) (u : Value) : RRow (w.setCell ⟨b', j, none⟩ u) b cs := ⟨(Below.heap_setCell w _ _ _ hne).trans h.row⟩
theorem RRow.new (w : World) (cs : Array Value) : RRow (w.alloc (.cells cs 39)) w.heap.size cs := ⟨heap_alloc_new w _⟩
theorem RRow.sets {w : World} {b : Nat} {c0 c1 c2 c3 c4 : Value} (h : RRow w b #[c0, c1, c2, c3, c4]) (v0 v1 v2 v3 v4 : Value) :
    RRow (((((w.setCell ⟨b, 0, none⟩ v0).setCell ⟨b, 1, none⟩ v1).setCell ⟨b, 2, none⟩ v2).setCell ⟨b, 3, none⟩ v3).setCell ⟨b, 4, none⟩ v4) b #[v0, v1, v2, v3, v4] :=
  ((((h.set 0 v0).set 1 v1).set 2 v2).set 3 v3).set 4 v4
theorem wnx_form {l : List UInt8} {d : Int} {t j : Nat} (h : wv l = .ok (t, j)) (hb : t / 8 < 1 ∨ 536870911 < t / 8 ∨ 5 < t % 8) : wnx l d = .error 3 := wnx_no (whd_form h hb)
/-- how Next stands when a tag was read -/
def TagIs (s : ByteArray) (p t j num ty q : Nat) : Prop := wv (s.data.toList.drop p) = .ok (t, j) ∧ num = t / 8 ∧ ty = t % 8 ∧ q = p + j ∧ q ≤ s.size ∧ t < 2 ^ 64
theorem TagIs.whd {s : ByteArray} {p t j num ty q : Nat} (h : TagIs s p t j num ty q) (h1 : 1 ≤ num) (h2 : num ≤ 536870911) (h3 : ty ≤ 5) : whd (s.data.toList.drop p) = .ok (num, ty, j) := by
  obtain ⟨hv, rfl, rfl, _⟩ := h
  exact whd_ok hv h1 h2 h3
theorem TagIs.get {s : ByteArray} {p t j num ty q : Nat} (h : TagIs s p t j num ty q) (hp : p ≤ s.size) : vget s.data.toList p = .ok (t, q) := by
  obtain ⟨hv, _, _, rfl, _⟩ := h
  exact vget_ok (by simpa using hp) hv
set_option maxRecDepth 100000 in
set_option maxHeartbeats 8000000 in
theorem rnext_wv (s : ByteArray) (p c : Nat) (d : Int) (w : World) (hp : p ≤ s.size) (hs : s.size ≤ 1000000000) (hv : wv (s.data.toList.drop p) = .error c) :
    Calls Tryd.prog 21 #[.string s, .int .i64 (p : Int), .int .i64 d] w (RNextPost s p d w) := by
  have HF : Hid (wnx (s.data.toList.drop p) d = .error c) := Lib.hid (wnx_no (whd_no hv))
  have HG0 := Lib.hid (vget_no (p := p) (by simpa using hp) hv)
  have hc0 : ((c : Int) != 0) = true := by have := wv_err hv; simp; omega
  clear hv
  go_enter Tryd.func21, Tryd.ntmps21
  go_wp2_with fail
  refine (rget_err s p _ (by omega) HG0.out).mono ?_; rintro e w' ⟨rfl, rfl⟩
  go_wp2_with fail
  refine body_cell3 rfl rfl (load_rrec (heap_alloc_new _ _) rfl) rfl ?_
  exact rnext_no HF.out rfl (below_new _ _)
set_option maxRecDepth 100000 in
set_option maxHeartbeats 8000000 in
theorem rnext_num (s : ByteArray) (p t j num ty q : Nat) (d : Int) (w : World) (hp : p ≤ s.size) (hs : s.size ≤ 1000000000) (hT : TagIs s p t j num ty q) (h1 : num < 1 ∨ 536870911 < num) :
    Calls Tryd.prog 21 #[.string s, .int .i64 (p : Int), .int .i64 d] w (RNextPost s p d w) := by
  have HF : Hid (wnx (s.data.toList.drop p) d = .error 3) := Lib.hid (wnx_form hT.1 (by have := hT.2.1; omega))
  have HG0 := Lib.hid (hT.get hp)
  have ht : t < 18446744073709551616 := hT.2.2.2.2.2
  have ha := u64_and7 t ht
  rw [← hT.2.2.1] at ha
  have hsh : (t : Int) / 8 = (num : Int) := by have := hT.2.1; omega
  have hqs : q ≤ s.size := hT.2.2.2.2.1
  have hpq : p ≤ q := by have := hT.2.2.2.1; omega
  have HQ := Lib.hid hT.2.2.2.1
  have HTT := Lib.hid hT
  have hnb : num < 2305843009213693952 := by have := hT.2.1; omega
  clear hT HTT
  rcases h1 with h1 | h1
  · go_enter Tryd.func21, Tryd.ntmps21
    go_wp2_with fail
    refine (rget_ok s p _ (by omega) HG0.out).mono ?_; rintro e w' ⟨rfl, rfl⟩
    go_wp2_with fail
    refine body_cell3 rfl rfl (load_rrec (heap_alloc_new _ _) rfl) rfl ?_
    exact rnext_no HF.out rfl (below_new _ _)
  · have h1' : 1 ≤ num := by omega
    go_enter Tryd.func21, Tryd.ntmps21
    go_wp2_with fail
    refine (rget_ok s p _ (by omega) HG0.out).mono ?_; rintro e w' ⟨rfl, rfl⟩
    go_wp2_with fail
    refine body_cell3 rfl rfl (load_rrec (heap_alloc_new _ _) rfl) rfl ?_
    exact rnext_no HF.out rfl (below_new _ _)
set_option maxRecDepth 100000 in
set_option maxHeartbeats 8000000 in
theorem rnext_kind (s : ByteArray) (p t j num ty q : Nat) (d : Int) (w : World) (hp : p ≤ s.size) (hs : s.size ≤ 1000000000) (hT : TagIs s p t j num ty q) (h1 : 1 ≤ num) (h2 : num ≤ 536870911) (h3 : ty = 4 ∨ ty = 6 ∨ ty = 7) :
    Calls Tryd.prog 21 #[.string s, .int .i64 (p : Int), .int .i64 d] w (RNextPost s p d w) := by
  have HF : Hid (wnx (s.data.toList.drop p) d = .error 3) := Lib.hid (by
    rcases h3 with h3 | h3
    · exact wnx_end (num := num) (j := j) (h3 ▸ hT.whd h1 h2 (by omega))
    · exact wnx_form hT.1 (by have := hT.2.2.1; omega))
  have HG0 := Lib.hid (hT.get hp)
  have ht : t < 18446744073709551616 := hT.2.2.2.2.2
  have ha := u64_and7 t ht
  rw [← hT.2.2.1] at ha
  have hsh : (t : Int) / 8 = (num : Int) := by have := hT.2.1; omega
  have hqs : q ≤ s.size := hT.2.2.2.2.1
  have hpq : p ≤ q := by have := hT.2.2.2.1; omega
  have HQ := Lib.hid hT.2.2.2.1
  have HTT := Lib.hid hT
  clear hT HTT
  rcases h3 with rfl | rfl | rfl
  · go_enter Tryd.func21, Tryd.ntmps21
    go_wp2_with fail
    refine (rget_ok s p _ (by omega) HG0.out).mono ?_; rintro e w' ⟨rfl, rfl⟩
    go_wp2_with fail
    refine body_cell3 rfl rfl (load_rrec (old_two _ _ _) rfl) rfl ?_
    exact rnext_no HF.out rfl (below_step (below_new _ _) (below_new _ _))
  · go_enter Tryd.func21, Tryd.ntmps21
    go_wp2_with fail
    refine (rget_ok s p _ (by omega) HG0.out).mono ?_; rintro e w' ⟨rfl, rfl⟩
    go_wp2_with fail
    refine body_cell3 rfl rfl (load_rrec (old_two _ _ _) rfl) rfl ?_
    exact rnext_no HF.out rfl (below_step (below_new _ _) (below_new _ _))
  · go_enter Tryd.func21, Tryd.ntmps21
    go_wp2_with fail
    refine (rget_ok s p _ (by omega) HG0.out).mono ?_; rintro e w' ⟨rfl, rfl⟩
    go_wp2_with fail
    refine body_cell3 rfl rfl (load_rrec (old_two _ _ _) rfl) rfl ?_
    exact rnext_no HF.out rfl (below_step (below_new _ _) (below_new _ _))
set_option maxRecDepth 100000 in
set_option maxHeartbeats 8000000 in
theorem rnext_0no (s : ByteArray) (p t j num ty q : Nat) (d : Int) (w : World) (hp : p ≤ s.size) (hs : s.size ≤ 1000000000) (hT : TagIs s p t j num ty q) (h1 : 1 ≤ num) (h2 : num ≤ 536870911) (h3 : ty = 0) (c : Nat) (hv : wv (s.data.toList.drop q) = .error c) :
    Calls Tryd.prog 21 #[.string s, .int .i64 (p : Int), .int .i64 d] w (RNextPost s p d w) := by
  have hb : wbd (s.data.toList.drop q) ty = .error c := by rw [h3]; exact wbd_numno hv
  have HF : Hid (wnx (s.data.toList.drop p) d = .error c) := Lib.hid (by rw [wnx_body (hT.whd h1 h2 (by omega)) (by omega) (by omega), List.drop_drop, ← hT.2.2.2.1, hb])
  have HG0 := Lib.hid (hT.get hp)
  have ht : t < 18446744073709551616 := hT.2.2.2.2.2
  have ha := u64_and7 t ht
  rw [← hT.2.2.1] at ha
  have hsh : (t : Int) / 8 = (num : Int) := by have := hT.2.1; omega
  have hqs : q ≤ s.size := hT.2.2.2.2.1
  have hpq : p ≤ q := by have := hT.2.2.2.1; omega
  have HQ := Lib.hid hT.2.2.2.1
  have HTT := Lib.hid hT
  have HG1 := Lib.hid (vget_no (p := q) (by simpa using hqs) hv)
  have hc0 : ((c : Int) != 0) = true := by have := wv_err hv; simp; omega
  clear hT HTT hb hv
  subst h3
  go_enter Tryd.func21, Tryd.ntmps21
  go_wp2_with fail
  refine (rget_ok s p _ (by omega) HG0.out).mono ?_; rintro e w' ⟨rfl, rfl⟩
  go_wp2_with fail
  refine (rget_err s q _ (by omega) HG1.out).mono ?_; rintro e w' ⟨rfl, rfl⟩
  go_wp2_with fail
  refine body_cell3 rfl rfl (load_rrec (old_two _ _ _) rfl) rfl ?_
  exact rnext_no HF.out rfl (below_step (below_new _ _) (below_new _ _))
set_option maxRecDepth 100000 in
set_option maxHeartbeats 8000000 in
theorem rnext_0 (s : ByteArray) (p t j num ty q : Nat) (d : Int) (w : World) (hp : p ≤ s.size) (hs : s.size ≤ 1000000000) (hT : TagIs s p t j num ty q) (h1 : 1 ≤ num) (h2 : num ≤ 536870911) (h3 : ty = 0) (n k : Nat) (hv : wv (s.data.toList.drop q) = .ok (n, k)) :
    Calls Tryd.prog 21 #[.string s, .int .i64 (p : Int), .int .i64 d] w (RNextPost s p d w) := by
  have hb : wbd (s.data.toList.drop q) ty = .ok (n, [], k) := by rw [h3]; exact wbd_num hv
  have HF : Hid (wnx (s.data.toList.drop p) d = .ok (⟨num, ty, n, [], (s.data.toList.drop p).take (j + k)⟩, j + k)) := Lib.hid (by rw [wnx_body (hT.whd h1 h2 (by omega)) (by omega) (by omega), List.drop_drop, ← hT.2.2.2.1, hb])
  have HG0 := Lib.hid (hT.get hp)
  have ht : t < 18446744073709551616 := hT.2.2.2.2.2
  have ha := u64_and7 t ht
  rw [← hT.2.2.1] at ha
  have hsh : (t : Int) / 8 = (num : Int) := by have := hT.2.1; omega
  have hqs : q ≤ s.size := hT.2.2.2.2.1
  have hpq : p ≤ q := by have := hT.2.2.2.1; omega
  have HQ := Lib.hid hT.2.2.2.1
  have HTT := Lib.hid hT
  have HG1 := Lib.hid (vget_ok (p := q) (by simpa using hqs) hv)
  have hqk : q + k ≤ s.size := by have := (wv_bounds hv).2.1; simp at this; omega
  clear hT HTT hb hv
  subst h3
  go_enter Tryd.func21, Tryd.ntmps21
  go_wp2_with fail
  refine (rget_ok s p _ (by omega) HG0.out).mono ?_; rintro e w' ⟨rfl, rfl⟩
  go_wp2_with fail
  refine (rget_ok s q _ (by omega) HG1.out).mono ?_; rintro e w' ⟨rfl, rfl⟩
  go_wp2_with fail
  refine body_cell3 rfl rfl (load_rrec (old_two _ _ _) rfl) rfl ?_
  exact rnext_ok HF.out (by rw [ext_str, show q + k - p = j + k by have := HQ.out; omega]; rfl) (by have := HQ.out; simp; omega) (below_step (below_new _ _) (below_new _ _))
set_option maxRecDepth 100000 in
set_option maxHeartbeats 8000000 in
theorem rnext_1no (s : ByteArray) (p t j num ty q : Nat) (d : Int) (w : World) (hp : p ≤ s.size) (hs : s.size ≤ 1000000000) (hT : TagIs s p t j num ty q) (h1 : 1 ≤ num) (h2 : num ≤ 536870911) (h3 : ty = 1) (hl : s.size - q < 8) :
    Calls Tryd.prog 21 #[.string s, .int .i64 (p : Int), .int .i64 d] w (RNextPost s p d w) := by
  have hb : wbd (s.data.toList.drop q) ty = .error 1 := by rw [h3]; exact wbd_fix8no (by simpa using hl)
  have HF : Hid (wnx (s.data.toList.drop p) d = .error 1) := Lib.hid (by rw [wnx_body (hT.whd h1 h2 (by omega)) (by omega) (by omega), List.drop_drop, ← hT.2.2.2.1, hb])
  have HG0 := Lib.hid (hT.get hp)
  have ht : t < 18446744073709551616 := hT.2.2.2.2.2
  have ha := u64_and7 t ht
  rw [← hT.2.2.1] at ha
  have hsh : (t : Int) / 8 = (num : Int) := by have := hT.2.1; omega
  have hqs : q ≤ s.size := hT.2.2.2.2.1
  have hpq : p ≤ q := by have := hT.2.2.2.1; omega
  have HQ := Lib.hid hT.2.2.2.1
  have HTT := Lib.hid hT
  clear hT HTT hb
  subst h3
  go_enter Tryd.func21, Tryd.ntmps21
  go_wp2_with fail
  refine (rget_ok s p _ (by omega) HG0.out).mono ?_; rintro e w' ⟨rfl, rfl⟩
  go_wp2_with fail
  refine body_cell3 rfl rfl (load_rrec (old_two _ _ _) rfl) rfl ?_
  exact rnext_no HF.out rfl (below_step (below_new _ _) (below_new _ _))
set_option maxRecDepth 100000 in
set_option maxHeartbeats 8000000 in
theorem rnext_1 (s : ByteArray) (p t j num ty q : Nat) (d : Int) (w : World) (hp : p ≤ s.size) (hs : s.size ≤ 1000000000) (hT : TagIs s p t j num ty q) (h1 : 1 ≤ num) (h2 : num ≤ 536870911) (h3 : ty = 1) (hl : q + 8 ≤ s.size) :
    Calls Tryd.prog 21 #[.string s, .int .i64 (p : Int), .int .i64 d] w (RNextPost s p d w) := by
  have hb : wbd (s.data.toList.drop q) ty = .ok (wlit ((s.data.toList.drop q).take 8), [], 8) := by rw [h3]; exact wbd_fix8 (by simp; omega)
  have HF : Hid (wnx (s.data.toList.drop p) d = .ok (⟨num, ty, wlit ((s.data.toList.drop q).take 8), [], (s.data.toList.drop p).take (j + 8)⟩, j + 8)) := Lib.hid (by rw [wnx_body (hT.whd h1 h2 (by omega)) (by omega) (by omega), List.drop_drop, ← hT.2.2.2.1, hb])
  have HG0 := Lib.hid (hT.get hp)
  have ht : t < 18446744073709551616 := hT.2.2.2.2.2
  have ha := u64_and7 t ht
  rw [← hT.2.2.1] at ha
  have hsh : (t : Int) / 8 = (num : Int) := by have := hT.2.1; omega
  have hqs : q ≤ s.size := hT.2.2.2.2.1
  have hpq : p ≤ q := by have := hT.2.2.2.1; omega
  have HQ := Lib.hid hT.2.2.2.1
  have HTT := Lib.hid hT
  have HX : Hid ((s.extract q (q + 8)).data.toList = (s.data.toList.drop q).take 8) := Lib.hid (by rw [ext_list, Nat.add_sub_cancel_left])
  have hxs : (s.extract q (q + 8)).size ≤ 8 := by simp; omega
  clear hT HTT hb
  subst h3
  go_enter Tryd.func21, Tryd.ntmps21
  go_wp2_with fail
  refine (rget_ok s p _ (by omega) HG0.out).mono ?_; rintro e w' ⟨rfl, rfl⟩
  go_wp2_with fail
  refine (rfixed_any (s.extract q (q + 8)) _ hxs).mono ?_; rintro e w' ⟨rfl, rfl⟩
  rw [HX.out]
  go_wp2_with fail
  refine body_cell3 rfl rfl (load_rrec (old_two _ _ _) rfl) rfl ?_
  exact rnext_ok HF.out (by rw [ext_str, show q + 8 - p = j + 8 by have := HQ.out; omega]; rfl) (by have := HQ.out; simp; omega) (below_step (below_new _ _) (below_new _ _))
set_option maxRecDepth 100000 in
set_option maxHeartbeats 8000000 in
theorem rnext_5no (s : ByteArray) (p t j num ty q : Nat) (d : Int) (w : World) (hp : p ≤ s.size) (hs : s.size ≤ 1000000000) (hT : TagIs s p t j num ty q) (h1 : 1 ≤ num) (h2 : num ≤ 536870911) (h3 : ty = 5) (hl : s.size - q < 4) :
    Calls Tryd.prog 21 #[.string s, .int .i64 (p : Int), .int .i64 d] w (RNextPost s p d w) := by
  have hb : wbd (s.data.toList.drop q) ty = .error 1 := by rw [h3]; exact wbd_fix4no (by simpa using hl)
  have HF : Hid (wnx (s.data.toList.drop p) d = .error 1) := Lib.hid (by rw [wnx_body (hT.whd h1 h2 (by omega)) (by omega) (by omega), List.drop_drop, ← hT.2.2.2.1, hb])
  have HG0 := Lib.hid (hT.get hp)
  have ht : t < 18446744073709551616 := hT.2.2.2.2.2
  have ha := u64_and7 t ht
  rw [← hT.2.2.1] at ha
  have hsh : (t : Int) / 8 = (num : Int) := by have := hT.2.1; omega
  have hqs : q ≤ s.size := hT.2.2.2.2.1
  have hpq : p ≤ q := by have := hT.2.2.2.1; omega
  have HQ := Lib.hid hT.2.2.2.1
  have HTT := Lib.hid hT
  clear hT HTT hb
  subst h3
  go_enter Tryd.func21, Tryd.ntmps21
  go_wp2_with fail
  refine (rget_ok s p _ (by omega) HG0.out).mono ?_; rintro e w' ⟨rfl, rfl⟩
  go_wp2_with fail
  refine body_cell3 rfl rfl (load_rrec (old_two _ _ _) rfl) rfl ?_
  exact rnext_no HF.out rfl (below_step (below_new _ _) (below_new _ _))
set_option maxRecDepth 100000 in
set_option maxHeartbeats 8000000 in
theorem rnext_5 (s : ByteArray) (p t j num ty q : Nat) (d : Int) (w : World) (hp : p ≤ s.size) (hs : s.size ≤ 1000000000) (hT : TagIs s p t j num ty q) (h1 : 1 ≤ num) (h2 : num ≤ 536870911) (h3 : ty = 5) (hl : q + 4 ≤ s.size) :
    Calls Tryd.prog 21 #[.string s, .int .i64 (p : Int), .int .i64 d] w (RNextPost s p d w) := by
  have hb : wbd (s.data.toList.drop q) ty = .ok (wlit ((s.data.toList.drop q).take 4), [], 4) := by rw [h3]; exact wbd_fix4 (by simp; omega)
  have HF : Hid (wnx (s.data.toList.drop p) d = .ok (⟨num, ty, wlit ((s.data.toList.drop q).take 4), [], (s.data.toList.drop p).take (j + 4)⟩, j + 4)) := Lib.hid (by rw [wnx_body (hT.whd h1 h2 (by omega)) (by omega) (by omega), List.drop_drop, ← hT.2.2.2.1, hb])
  have HG0 := Lib.hid (hT.get hp)
  have ht : t < 18446744073709551616 := hT.2.2.2.2.2
  have ha := u64_and7 t ht
  rw [← hT.2.2.1] at ha
  have hsh : (t : Int) / 8 = (num : Int) := by have := hT.2.1; omega
  have hqs : q ≤ s.size := hT.2.2.2.2.1
  have hpq : p ≤ q := by have := hT.2.2.2.1; omega
  have HQ := Lib.hid hT.2.2.2.1
  have HTT := Lib.hid hT
  have HX : Hid ((s.extract q (q + 4)).data.toList = (s.data.toList.drop q).take 4) := Lib.hid (by rw [ext_list, Nat.add_sub_cancel_left])
  have hxs : (s.extract q (q + 4)).size ≤ 8 := by simp; omega
  clear hT HTT hb
  subst h3
  go_enter Tryd.func21, Tryd.ntmps21
  go_wp2_with fail
  refine (rget_ok s p _ (by omega) HG0.out).mono ?_; rintro e w' ⟨rfl, rfl⟩
  go_wp2_with fail
  refine (rfixed_any (s.extract q (q + 4)) _ hxs).mono ?_; rintro e w' ⟨rfl, rfl⟩
  rw [HX.out]
  go_wp2_with fail
  refine body_cell3 rfl rfl (load_rrec (old_two _ _ _) rfl) rfl ?_
  exact rnext_ok HF.out (by rw [ext_str, show q + 4 - p = j + 4 by have := HQ.out; omega]; rfl) (by have := HQ.out; simp; omega) (below_step (below_new _ _) (below_new _ _))
end Go.Proofs.YtbhppchdoalahaaDoor
