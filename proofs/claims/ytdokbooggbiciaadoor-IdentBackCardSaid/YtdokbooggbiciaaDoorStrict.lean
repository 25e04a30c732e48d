/-
  strict.Reader: what reads numbers that are written in one way only.
-/
import Derived.Test.YtdokbooggbiciaaDoorGet
import Derived.Test.YtdokbooggbiciaaDoorUpd
import Derived.Test.YtdokbooggbiciaaDoorOrd
import Derived.Test.YtdokbooggbiciaaDoorNums2
namespace Go.Proofs.YtdokbooggbiciaaDoor
open Go.RowKit

/-- a Reader at block r: its text, its place, the fault that it has noted -/
def SR (r : Nat) (s : ByteArray) (i : Nat) (f : Value) (w : World) : Prop := w.heap[r]? = some (.cells #[.string s, .int .i64 (i : Int), f] 58 (0, 0))
/-- no error, or one -/
def FV (b : Bool) (f : Value) : Prop := if b then ∃ x, f = .iface 98 x else f = .nilIface
theorem FV.no {f : Value} (h : FV false f) : f = .nilIface := h
theorem FV.yes {f : Value} (h : FV true f) : ∃ x, f = .iface 98 x := h
theorem SR.below {r : Nat} {s : ByteArray} {i : Nat} {f : Value} {w w' : World} (h : SR r s i f w) (hb : Below w.heap.size w w') : SR r s i f w' := (hb.block r (row_lt h)).trans h
theorem SR.upd {S : Nat → Prop} {r : Nat} {s : ByteArray} {i : Nat} {f : Value} {w w' : World} (h : SR r s i f w) (hu : Upd S w w') (hn : ¬ S r) : SR r s i f w' := (hu.block r (row_lt h) hn).trans h
theorem below_new0 (w : World) (o : Obj) : Below w.heap.size w (w.alloc o) := (Below.refl _ _).alloc (Nat.le_refl _) o
theorem below_drew0 (w : World) : Below w.heap.size w w.drew := (Below.refl _ _).drew

set_option maxRecDepth 100000 in
set_option maxHeartbeats 1000000 in
theorem snew_any (s : ByteArray) (w : World) : Calls Tryd.prog 13 #[.string s] w fun e w' => e = .returned (.pointer (some ⟨w.heap.size, 0, none⟩)) ∧ SR w.heap.size s 0 .nilIface w' ∧ Below w.heap.size w w' := by
  go_enter Tryd.func13, Tryd.ntmps13
  go_wp2
  go_ret
  exact ⟨rfl, heap_alloc_new w _, below_new0 _ _⟩
set_option maxRecDepth 100000 in
set_option maxHeartbeats 1000000 in
theorem swrong_any (r : Nat) (s : ByteArray) (i : Nat) (f : Value) (c : Int) (w : World) (h : SR r s i f w) :
    Calls Tryd.prog 25 #[.pointer (some ⟨r, 0, none⟩), .int .i64 c] w fun e w' => (∃ x, e = .returned (.iface 98 x)) ∧ Below w.heap.size w w' := by
  have hc1 : w.cell? ⟨r, 1, none⟩ = some (.int .i64 (i : Int)) := row_cell h (j := 1) rfl
  clear h
  go_enter Tryd.func25, Tryd.ntmps25
  go_wp2_with fail
  refine (at_any _ _ _ _).mono ?_; rintro e w' ⟨rfl, rfl⟩
  go_wp2_with fail
  go_ret
  exact ⟨⟨_, rfl⟩, below_new0 _ _⟩
set_option maxRecDepth 100000 in
set_option maxHeartbeats 2000000 in
theorem sfault_any (r : Nat) (s : ByteArray) (i : Nat) (b : Bool) (f : Value) (w : World) (h : SR r s i f w) (hf : FV b f) :
    Calls Tryd.prog 35 #[.pointer (some ⟨r, 0, none⟩)] w fun e w' => e = .returned (.tuple #[]) ∧ ∃ f', FV true f' ∧ SR r s i f' w' ∧ Upd (fun k => k = r) w w' := by
  have hc2 : w.cell? ⟨r, 2, none⟩ = some f := row_cell h (j := 2) rfl
  have H := Lib.hid h
  have hlt := row_lt h
  clear h
  cases b with
  | true =>
    obtain ⟨x, rfl⟩ := hf.yes
    go_enter Tryd.func35, Tryd.ntmps35
    go_wp2_with fail
    go_end0
    exact ⟨rfl, _, ⟨x, rfl⟩, H.out, Upd.refl _ _⟩
  | false =>
    obtain rfl := hf.no
    go_enter Tryd.func35, Tryd.ntmps35
    go_wp2_with fail
    refine (swrong_any r s i .nilIface 3 _ H.out).mono ?_; rintro e w1 ⟨⟨x, rfl⟩, hb⟩
    have H1 := Lib.hid (H.out.below hb)
    have hfz : w1.frozen? ⟨r, 2, none⟩ = false := row_thaw H1.out 2
    have hc2' : w1.cell? ⟨r, 2, none⟩ = some .nilIface := row_cell H1.out (j := 2) rfl
    have HB := Lib.hid hb
    clear hb hc2
    go_wp2_with fail
    go_end0
    refine ⟨rfl, _, ⟨x, rfl⟩, ?_, (Upd.of_new (S := fun k => k = r) HB.out).trans (Upd.set w1 ⟨r, 2, none⟩ _)⟩
    have := row_set H1.out 2 (.iface 98 x)
    exact this
set_option maxRecDepth 100000 in
set_option maxHeartbeats 2000000 in
theorem sleft_any (r : Nat) (s : ByteArray) (i : Nat) (f : Value) (w : World) (h : SR r s i f w) :
    Calls Tryd.prog 14 #[.pointer (some ⟨r, 0, none⟩)] w fun e w' => e = .returned (.bool (decide (i < s.size))) ∧ Below w.heap.size w w' := by
  have hS : SR r s i f w.drew := h
  have hne : Nonempty { w' : World // SR r s i f w' } := ⟨⟨_, hS⟩⟩
  have hx0 : ∀ t : { w' : World // SR r s i f w' }, t.1.cell? ⟨r, 0, none⟩ = some (.string s) := fun t => row_cell t.2 (j := 0) rfl
  have hx1 : ∀ t : { w' : World // SR r s i f w' }, t.1.cell? ⟨r, 1, none⟩ = some (.int .i64 (i : Int)) := fun t => row_cell t.2 (j := 1) rfl
  clear h
  go_enter Tryd.func14, Tryd.ntmps14
  go_wp2_with fail
  refine wp_region_seq (S := SR r s i f) [(0, true), (1, true), (2, true), (3, true), (4, true), (5, true), (6, true), (7, true), (8, true), (9, true), (10, true)] (by kernel_rfl) (by kernel_rfl) (by kernel_rfl) (by kernel_rfl) hS ?_
  iterate 11 (refine seq_take _ rfl (fun K hK => ?_); go_simp; refine hK _ ?_; clear hK K)
  refine seq_done ?_
  go_wp2_with fail
  go_ret
  exact ⟨ret_bool (by rw [decide_eq_decide]), below_drew0 w⟩
theorem sleft_at (r : Nat) (s : ByteArray) (i : Nat) (f : Value) (w : World) (h : SR r s i f w) {g : Bool} (hg : decide (i < s.size) = g) :
    Calls Tryd.prog 14 #[.pointer (some ⟨r, 0, none⟩)] w fun e w' => e = .returned (.bool g) ∧ Below w.heap.size w w' := by
  subst hg; exact sleft_any r s i f w h
set_option maxRecDepth 100000 in
set_option maxHeartbeats 4000000 in
theorem snum_err (r : Nat) (s : ByteArray) (i : Nat) (f : Value) (w : World) (h : SR r s i f w) (hs : s.size ≤ maxLen) {c : Nat} (hv : vget s.data.toList (i : Int) = .error c) :
    Calls Tryd.prog 24 #[.pointer (some ⟨r, 0, none⟩)] w fun e w' => (∃ x, e = .returned (.tuple #[.int .u64 0, .iface 98 x])) ∧ Below w.heap.size w w' := by
  have hS : SR r s i f w.drew := h
  have hne : Nonempty { w' : World // SR r s i f w' } := ⟨⟨_, hS⟩⟩
  have hx0 : ∀ t : { w' : World // SR r s i f w' }, t.1.cell? ⟨r, 0, none⟩ = some (.string s) := fun t => row_cell t.2 (j := 0) rfl
  have hx1 : ∀ t : { w' : World // SR r s i f w' }, t.1.cell? ⟨r, 1, none⟩ = some (.int .i64 (i : Int)) := fun t => row_cell t.2 (j := 1) rfl
  have HV := Lib.hid hv
  clear h hv
  go_enter Tryd.func24, Tryd.ntmps24
  go_wp2_with fail
  refine wp_region_seq (S := SR r s i f) [(0, true), (1, true), (2, true), (3, true), (4, true), (5, true), (6, true), (7, true), (8, false), (9, true), (10, true), (11, true), (12, true), (13, true), (14, true), (15, true)] (by kernel_rfl) (by kernel_rfl) (by kernel_rfl) (by kernel_rfl) hS ?_
  iterate 8 (refine seq_take _ rfl (fun K hK => ?_); go_simp; refine hK _ ?_; clear hK K)
  refine seq_come _ rfl (fun K hK => ?_); go_simp
  refine (get_err s (i : Int) _ hs HV.out).mono ?_; rintro e w1 ⟨rfl, rfl⟩
  go_simp; refine hK.out _ _ (hS.below (below_new0 _ _)) ?_; clear hK K
  iterate 7 (refine seq_take _ rfl (fun K hK => ?_); go_simp; refine hK _ ?_; clear hK K)
  refine seq_done ?_
  go_wp2_with fail
  go_ret2
  exact ⟨⟨_, rfl⟩, (below_drew0 w).trans ((below_new0 w.drew _).mono (Nat.le_refl _))⟩
set_option maxRecDepth 100000 in
set_option maxHeartbeats 4000000 in
theorem snum_ok (r : Nat) (s : ByteArray) (i : Nat) (b : Bool) (f : Value) (w : World) (h : SR r s i f w) (hf : FV b f) (hs : s.size ≤ maxLen) {n q : Nat} (hv : vget s.data.toList (i : Int) = .ok (n, q)) (hn : n < 2^64) (hq : i ≤ q) (hq2 : q ≤ s.size) {g : Bool} (hg : Hid (decide ((vput n).length < q - i) = g)) :
    Calls Tryd.prog 24 #[.pointer (some ⟨r, 0, none⟩)] w fun e w' => e = .returned (.tuple #[.int .u64 n, .nilIface]) ∧ ∃ f', FV (b || g) f' ∧ SR r s q f' w' ∧ Upd (fun k => k = r) w w' := by
  have hS : SR r s i f w.drew := h
  have hne : Nonempty { w' : World // SR r s i f w' } := ⟨⟨_, hS⟩⟩
  have hx0 : ∀ t : { w' : World // SR r s i f w' }, t.1.cell? ⟨r, 0, none⟩ = some (.string s) := fun t => row_cell t.2 (j := 0) rfl
  have hx1 : ∀ t : { w' : World // SR r s i f w' }, t.1.cell? ⟨r, 1, none⟩ = some (.int .i64 (i : Int)) := fun t => row_cell t.2 (j := 1) rfl
  have HV := Lib.hid hv
  have HF := Lib.hid hf
  have hlv := vput_length n
  obtain ⟨L, hL⟩ : ∃ L, (vput n).length = L := ⟨_, rfl⟩
  have HL := Lib.hid hL
  rw [hL] at hlv
  have HP := Lib.hid (put_start hn)
  unfold maxLen at hs
  have hwr : IntKind.i64.wrap ((q : Int) - (i : Int)) = (q : Int) - (i : Int) := i64_wrap_id (by omega) (by omega)
  clear h hv hf hL hn
  go_enter Tryd.func24, Tryd.ntmps24
  go_wp2_with fail
  refine wp_region_seq (S := SR r s i f) [(0, true), (1, true), (2, true), (3, true), (4, true), (5, true), (6, true), (7, true), (8, false), (9, true), (10, true), (11, true), (12, true), (13, true), (14, true), (15, true)] (by kernel_rfl) (by kernel_rfl) (by kernel_rfl) (by kernel_rfl) hS ?_
  iterate 8 (refine seq_take _ rfl (fun K hK => ?_); go_simp; refine hK _ ?_; clear hK K)
  refine seq_come _ rfl (fun K hK => ?_); go_simp
  refine (get_ok s (i : Int) _ hs HV.out).mono ?_; rintro e w1 ⟨rfl, rfl⟩
  go_simp; refine hK.out _ _ hS ?_; clear hK K
  iterate 7 (refine seq_take _ rfl (fun K hK => ?_); go_simp; refine hK _ ?_; clear hK K)
  refine seq_done ?_
  go_wp2_with fail
  have hS2 : SR r s i f w.drew.drew := hS
  refine wp_region_seq (S := SR r s i f) [(0, true), (1, true), (2, true), (3, true), (4, true), (5, true), (6, true), (7, false), (8, true)] (by kernel_rfl) (by kernel_rfl) (by kernel_rfl) (by kernel_rfl) hS2 ?_
  iterate 7 (refine seq_take _ rfl (fun K hK => ?_); go_simp; refine hK _ ?_; clear hK K)
  refine seq_come _ rfl (fun K hK => ?_); go_simp
  refine (size_any n _ HP.out).mono ?_; rintro e w1 ⟨rfl, rfl⟩
  rw [HL.out]
  go_simp; refine hK.out _ _ hS2 ?_; clear hK K
  iterate 1 (refine seq_take _ rfl (fun K hK => ?_); go_simp; refine hK _ ?_; clear hK K)
  refine seq_done ?_
  have HU2 : Hid (Upd (fun k => k = r) w w.drew.drew) := Lib.hid ((Upd.drew _ w).trans (Upd.drew _ _))
  obtain ⟨w2, hw2⟩ : ∃ w2, w2 = w.drew.drew := ⟨_, rfl⟩
  rw [← hw2] at hS2 HU2 ⊢
  have hgg := hg.out
  rw [HL.out] at hgg
  have H2 := Lib.hid hS2
  clear hS2 hw2 hS hx0 hx1 hne
  cases g with
  | true =>
    have hc : L < q - i := of_decide_eq_true hgg
    clear hgg
    go_wp2_with fail
    refine (sfault_any r s i b f _ H2.out HF.out).mono ?_; rintro e w3 ⟨rfl, f', hf', hs3, hu3⟩
    have hfz : w3.frozen? ⟨r, 1, none⟩ = false := row_thaw hs3 1
    have hc1' : w3.cell? ⟨r, 1, none⟩ = some (.int .i64 (i : Int)) := row_cell hs3 (j := 1) rfl
    have H3 := Lib.hid hs3
    have HU3 := Lib.hid (HU2.out.trans hu3)
    have HF3 := Lib.hid hf'
    clear hs3 hu3 hf'
    go_wp2_with fail
    go_ret2
    refine ⟨rfl, f', ?_, row_set H3.out 1 _, HU3.out.trans (Upd.set w3 ⟨r, 1, none⟩ _)⟩
    rw [Bool.or_true]
    exact HF3.out
  | false =>
    have hc : ¬ L < q - i := of_decide_eq_false hgg
    clear hgg
    have hfz : w2.frozen? ⟨r, 1, none⟩ = false := row_thaw H2.out 1
    have hc1' : w2.cell? ⟨r, 1, none⟩ = some (.int .i64 (i : Int)) := row_cell H2.out (j := 1) rfl
    go_wp2_with fail
    go_ret2
    refine ⟨rfl, f, ?_, row_set H2.out 1 _, HU2.out.trans (Upd.set w2 ⟨r, 1, none⟩ _)⟩
    rw [Bool.or_false]
    exact HF.out
end Go.Proofs.YtdokbooggbiciaaDoor
