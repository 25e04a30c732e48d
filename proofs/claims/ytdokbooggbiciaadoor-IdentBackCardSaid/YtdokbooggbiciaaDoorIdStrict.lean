/-
  strict.Reader: Text, and the codes of what it tells; Form.
-/
import Derived.Test.YtdokbooggbiciaaDoorStrict
import Derived.Test.YtdokbooggbiciaaDoorSeqMath
import Derived.Test.YtdokbooggbiciaaDoorTextsSame
import Derived.Test.YtdokbooggbiciaaDoorCodeIs
namespace Go.Proofs.YtdokbooggbiciaaDoor
open Go.RowKit

set_option maxRecDepth 100000 in
set_option maxHeartbeats 1000000 in
theorem swrong_is (r : Nat) (s : ByteArray) (i : Nat) (f : Value) (c : Int) (w : World) (h : SR r s i f w) :
    Calls Tryd.prog 25 #[.pointer (some ⟨r, 0, none⟩), .int .i64 c] w fun e w' => (∃ x, e = .returned (.iface 98 x) ∧ Hid (CodeIs w' (.iface 98 x) c)) ∧ Below w.heap.size w w' := by
  have hc1 : w.cell? ⟨r, 1, none⟩ = some (.int .i64 (i : Int)) := row_cell h (j := 1) rfl
  clear h
  go_enter Tryd.func25, Tryd.ntmps25
  go_wp2_with fail
  refine (at_any _ _ _ _).mono ?_; rintro e w' ⟨rfl, rfl⟩
  go_wp2_with fail
  go_ret
  exact ⟨⟨_, rfl, Lib.hid (.inr ⟨_, isErr_new (heap_alloc_new w _)⟩)⟩, below_new0 _ _⟩
set_option maxRecDepth 100000 in
set_option maxHeartbeats 4000000 in
theorem snum_is (r : Nat) (s : ByteArray) (i : Nat) (f : Value) (w : World) (h : SR r s i f w) (hs : s.size ≤ maxLen) {c : Nat} (hv : vget s.data.toList (i : Int) = .error c) :
    Calls Tryd.prog 24 #[.pointer (some ⟨r, 0, none⟩)] w fun e w' => (∃ x, e = .returned (.tuple #[.int .u64 0, .iface 98 x]) ∧ Hid (CodeIs w' (.iface 98 x) c)) ∧ Below w.heap.size w w' := by
  have hS : SR r s i f w.drew := h
  have hne : Nonempty { w' : World // SR r s i f w' } := ⟨⟨_, hS⟩⟩
  have hx0 : ∀ t : { w' : World // SR r s i f w' }, t.1.cell? ⟨r, 0, none⟩ = some (.string s) := fun t => row_cell t.2 (j := 0) rfl
  have hx1 : ∀ t : { w' : World // SR r s i f w' }, t.1.cell? ⟨r, 1, none⟩ = some (.int .i64 (i : Int)) := fun t => row_cell t.2 (j := 1) rfl
  have HV := Lib.hid hv
  clear h hv
  go_enter Tryd.func24, Tryd.ntmps24
  go_wp2_with fail
  refine wp_region_seq (S := SR r s i f) [(0, true), (1, true), (2, true), (3, true), (4, true), (5, true), (6, true), (7, true), (8, false), (9, true), (10, true), (11, true), (12, true), (13, true), (14, true), (15, true)] (by kernel_rfl) (by kernel_rfl) (by kernel_rfl) (by kernel_rfl) hS ?_
  iterate 8 (refine seq_take _ rfl (fun K hK => ?_); go_simp; refine hK _ ?_; clear hK K)
  refine seq_come _ rfl (fun K hK => ?_); go_simp
  refine (get_err s (i : Int) _ hs HV.out).mono ?_; rintro e w1 ⟨rfl, rfl⟩
  go_simp; refine hK.out _ _ (hS.below (below_new0 _ _)) ?_; clear hK K
  iterate 7 (refine seq_take _ rfl (fun K hK => ?_); go_simp; refine hK _ ?_; clear hK K)
  refine seq_done ?_
  go_wp2_with fail
  go_ret2
  exact ⟨⟨_, rfl, Lib.hid (.inr ⟨_, isErr_new (heap_alloc_new w.drew _)⟩)⟩, (below_drew0 w).trans ((below_new0 w.drew _).mono (Nat.le_refl _))⟩
set_option maxRecDepth 100000 in
set_option maxHeartbeats 1000000 in
theorem sform_any (r : Nat) (s : ByteArray) (i : Nat) (f : Value) (w : World) (h : SR r s i f w) :
    Calls Tryd.prog 17 #[.pointer (some ⟨r, 0, none⟩)] w fun e w' => e = .returned f ∧ w = w' := by
  have hc2 : w.cell? ⟨r, 2, none⟩ = some f := row_cell h (j := 2) rfl
  clear h
  go_enter Tryd.func17, Tryd.ntmps17
  go_wp2_with fail
  go_ret
  exact ⟨rfl, rfl⟩
theorem extract_mid (s : ByteArray) (q n : Nat) : s.extract q (q + n) = ⟨((s.data.toList.drop q).take n).toArray⟩ := by
  apply ByteArray.ext
  apply Array.ext'
  rw [ByteArray.data_extract]
  simp [List.take_drop]
set_option maxRecDepth 1000000 in
set_option maxHeartbeats 4000000 in
theorem stext_none_is (r : Nat) (s : ByteArray) (i : Nat) (f : Value) (w : World) (h : SR r s i f w) (hs : s.size ≤ maxLen) {c : Nat} (hv : vget s.data.toList (i : Int) = .error c) :
    Calls Tryd.prog 15 #[.pointer (some ⟨r, 0, none⟩)] w fun e w' => (∃ x, e = .returned (.tuple #[.string ⟨#[]⟩, .iface 98 x]) ∧ Hid (CodeIs w' (.iface 98 x) c)) ∧ Below w.heap.size w w' := by
  have HV := Lib.hid hv
  have H := Lib.hid h
  clear hv h
  go_enter Tryd.func15, Tryd.ntmps15
  go_wp2_with fail
  refine (snum_is r s i f _ H.out hs HV.out).mono ?_; rintro e w1 ⟨⟨x, rfl, hci⟩, hb⟩
  have HU := Lib.hid hb
  clear hb
  go_wp2_with fail
  go_ret2
  exact ⟨⟨x, rfl, hci⟩, HU.out⟩
set_option maxRecDepth 1000000 in
set_option maxHeartbeats 4000000 in
theorem stext_two_is (r : Nat) (s : ByteArray) (i : Nat) (b : Bool) (f : Value) (w : World) (h : SR r s i f w) (hf : FV b f) (hs : s.size ≤ 1000000000) {n q : Nat} (hv : vget s.data.toList (i : Int) = .ok (n, q)) (hn : n < 18446744073709551616) (hq : i ≤ q) (hq2 : q ≤ s.size) {g : Bool} (hg : Hid (decide ((vput n).length < q - i) = g)) :
    Calls Tryd.prog 15 #[.pointer (some ⟨r, 0, none⟩)] w fun e w' => Upd (fun k => k = r) w w' ∧
      ((s.size - q < n ∧ ∃ x, e = .returned (.tuple #[.string ⟨#[]⟩, .iface 98 x]) ∧ Hid (CodeIs w' (.iface 98 x) 1)) ∨ (n ≤ s.size - q ∧ e = .returned (.tuple #[strV ((s.data.toList.drop q).take n), .nilIface]) ∧ ∃ f', FV (b || g) f' ∧ Hid (SR r s (q + n) f' w'))) := by
  have HV := Lib.hid hv
  have H := Lib.hid h
  have HF := Lib.hid hf
  have HQ := Lib.hid hq
  clear hv h hf hq
  go_enter Tryd.func15, Tryd.ntmps15
  go_wp2_with fail
  refine (snum_ok r s i b f _ H.out HF.out (by unfold maxLen; omega) HV.out hn HQ.out hq2 hg).mono ?_; rintro e w1 ⟨rfl, f1, hf1, hs1, hu1⟩
  have HF1 := Lib.hid hf1
  have HU1 := Lib.hid hu1
  clear hf1 hu1
  go_wp2_with fail
  have hS : SR r s q f1 w1.drew := hs1
  have hne : Nonempty { w' : World // SR r s q f1 w' } := ⟨⟨_, hS⟩⟩
  have hx0 : ∀ t : { w' : World // SR r s q f1 w' }, t.1.cell? ⟨r, 0, none⟩ = some (.string s) := fun t => row_cell t.2 (j := 0) rfl
  have hx1 : ∀ t : { w' : World // SR r s q f1 w' }, t.1.cell? ⟨r, 1, none⟩ = some (.int .i64 (q : Int)) := fun t => row_cell t.2 (j := 1) rfl
  obtain ⟨rem, hrem⟩ : ∃ rem, s.size - q = rem := ⟨_, rfl⟩
  have hri : (s.size : Int) - (q : Int) = (rem : Int) := by omega
  have hr9 : rem ≤ 1000000000 := by omega
  have HREM := Lib.hid hrem
  have hwr : IntKind.i64.wrap (rem : Int) = (rem : Int) := i64_wrap_id (by omega) (by omega)
  have hwr2 : IntKind.u64.wrap (rem : Int) = (rem : Int) := by rw [IntKind.wrap_u64]; omega
  clear hrem
  refine wp_region_seq (S := SR r s q f1) [(0, true), (1, true), (2, true), (3, true), (4, true), (5, true), (6, true), (7, true), (8, true), (9, true), (10, true), (11, true), (12, true)] (by kernel_rfl) (by kernel_rfl) (by kernel_rfl) (by kernel_rfl) hS ?_
  iterate 13 (refine seq_take _ rfl (fun K hK => ?_); go_simp; refine hK _ ?_; clear hK K)
  refine seq_done ?_
  have HU2 : Hid (Upd (fun k => k = r) w w1.drew) := Lib.hid (HU1.out.trans (Upd.drew _ w1))
  obtain ⟨w2, hw2⟩ : ∃ w2, w2 = w1.drew := ⟨_, rfl⟩
  rw [← hw2] at hS HU2 ⊢
  have H2 := Lib.hid hS
  clear hS hw2 hs1 hx0 hx1 hne HU1
  by_cases hov : rem < n
  · go_wp2_with fail
    refine (swrong_is r s q f1 1 _ H2.out).mono ?_; rintro e w5 ⟨⟨x, rfl, hci⟩, hb5⟩
    have HU := Lib.hid (HU2.out.trans (Upd.of_new (S := fun k => k = r) hb5))
    clear hb5
    go_wp2_with fail
    go_ret2
    exact ⟨HU.out, .inl ⟨by have := HREM.out; omega, x, rfl, hci⟩⟩
  · have hc1 : w2.cell? ⟨r, 1, none⟩ = some (.int .i64 (q : Int)) := row_cell H2.out (j := 1) rfl
    have hfz : w2.frozen? ⟨r, 1, none⟩ = false := row_thaw H2.out 1
    have hn9 : n ≤ 1000000000 := by omega
    have HT : Hid (s.extract q (q + n) = ⟨((s.data.toList.drop q).take n).toArray⟩) := Lib.hid (extract_mid s q n)
    obtain ⟨t, ht⟩ : ∃ t, (s.data.toList.drop q).take n = t := ⟨_, rfl⟩
    obtain ⟨q2, hq2'⟩ : ∃ q2, q + n = q2 := ⟨_, rfl⟩
    have hqi : (q : Int) + (n : Int) = (q2 : Int) := by omega
    have hq2s : q2 ≤ s.size := by have := HREM.out; omega
    have hqq : q ≤ q2 := by omega
    rw [ht, hq2'] at HT
    have HQN := Lib.hid hq2'
    have HTT := Lib.hid ht
    clear hq2' ht
    go_wp2_with fail
    have HU3 := Upd.set w2 ⟨r, 1, none⟩ (.int .i64 (q2 : Int))
    have hS3 : SR r s q2 f1 (w2.setCell ⟨r, 1, none⟩ (.int .i64 (q2 : Int))) := row_set H2.out 1 _
    have HU4 : Hid (Upd (fun k => k = r) w (w2.setCell ⟨r, 1, none⟩ (.int .i64 (q2 : Int)))) := Lib.hid (HU2.out.trans HU3)
    obtain ⟨w3, hw3⟩ : ∃ w3, w2.setCell ⟨r, 1, none⟩ (.int .i64 (q2 : Int)) = w3 := ⟨_, rfl⟩
    rw [hw3] at hS3 HU4 ⊢
    have hS4 : SR r s q2 f1 w3.drew := hS3
    have hne : Nonempty { w' : World // SR r s q2 f1 w' } := ⟨⟨_, hS4⟩⟩
    have hx0 : ∀ t : { w' : World // SR r s q2 f1 w' }, t.1.cell? ⟨r, 0, none⟩ = some (.string s) := fun t => row_cell t.2 (j := 0) rfl
    have hx1 : ∀ t : { w' : World // SR r s q2 f1 w' }, t.1.cell? ⟨r, 1, none⟩ = some (.int .i64 (q2 : Int)) := fun t => row_cell t.2 (j := 1) rfl
    clear hc1 hfz hw3
    refine wp_region_seq (S := SR r s q2 f1) [(0, true), (1, true), (2, true), (3, true), (4, true), (5, true), (6, true), (7, true), (8, true), (9, true), (10, true), (11, true)] (by kernel_rfl) (by kernel_rfl) (by kernel_rfl) (by kernel_rfl) hS4 ?_
    iterate 9 (refine seq_take _ rfl (fun K hK => ?_); go_simp; refine hK _ ?_; clear hK K)
    refine seq_take _ rfl (fun K hK => ?_); go_simp; rw [HT.out]; refine hK _ ?_; clear hK K
    iterate 2 (refine seq_take _ rfl (fun K hK => ?_); go_simp; refine hK _ ?_; clear hK K)
    refine seq_done ?_
    have HU5 : Hid (Upd (fun k => k = r) w w3.drew) := Lib.hid (HU4.out.trans (Upd.drew _ w3))
    have HS5 : Hid (SR r s q2 f1 w3.drew) := Lib.hid hS4
    clear hx0 hx1 hne hS3 hS4
    go_wp2_with fail
    go_ret2
    refine ⟨HU5.out, .inr ⟨by have := HREM.out; omega, by rw [HTT.out]; rfl, f1, HF1.out, ?_⟩⟩
    rw [HQN.out]; exact HS5
end Go.Proofs.YtdokbooggbiciaaDoor
