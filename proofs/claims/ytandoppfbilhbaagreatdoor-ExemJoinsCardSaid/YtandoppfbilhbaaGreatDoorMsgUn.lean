/-
  What the readers of messages share: a text taken, blocks made anew, results.
-/
import Derived.Test.YtandoppfbilhbaaGreatDoorMsgRead
import Derived.Test.YtandoppfbilhbaaGreatDoorUtf2
import Derived.Test.YtandoppfbilhbaaGreatDoorErrNew
import Derived.Test.YtandoppfbilhbaaGreatDoorRetCell
import Derived.Deep.Cut
namespace Go.Proofs.YtandoppfbilhbaaGreatDoor
open Go.RowKit

/-- what Check answers -/
def UChk (l : List UInt8) (w : World) (e : Ending) (w' : World) : Prop :=
  if ubad l < 0 then e = .returned .nilIface ∧ w = w' else ∃ v, e = .returned v ∧ ErrNew w (ubad l) 5 v w'
theorem uchk_ok {l : List UInt8} (h : ubad l < 0) (w : World) : UChk l w (.returned .nilIface) w := by
  unfold UChk; rw [if_pos h]; exact ⟨rfl, rfl⟩
theorem uchk_bad {l : List UInt8} {b : Int} (hb : b = ubad l) (h : ¬ b < 0) {w w' : World} {v : Value} (hE : ErrNew w b 5 v w') : UChk l w (.returned v) w' := by
  subst hb; unfold UChk; rw [if_neg h]; exact ⟨v, rfl, hE⟩
theorem check_any (s : ByteArray) (w : World) (hs : s.size ≤ 4611686018427387904) :
    Calls Tryz.prog 146 #[.string s] w (UChk s.data.toList w) := by
  obtain ⟨b, HB⟩ : ∃ b, Hid (b = ubad s.data.toList) := ⟨_, Lib.hid rfl⟩
  by_cases hb : b < 0
  · have HF := Lib.hid (uchk_ok (by rw [← HB.out]; exact hb) w)
    go_enter Tryz.func146, Tryz.ntmps146
    go_wp2_with fail
    refine (bad_any s w hs).mono ?_; rintro e w' ⟨rfl, rfl⟩
    rw [← HB.out]
    go_wp2
    go_ret
    exact HF.out
  · have HF : Hid (¬ b < 0) := Lib.hid hb
    go_enter Tryz.func146, Tryz.ntmps146
    go_wp2_with fail
    refine (bad_any s w hs).mono ?_; rintro e w' ⟨rfl, rfl⟩
    rw [← HB.out]
    go_wp2_with fail
    refine (at_any _ _ _ w).mono ?_; rintro e w' ⟨rfl, rfl⟩
    go_wp2
    go_ret
    exact uchk_bad HB.out (by have := HF.out; omega) (errNew_at (Below.refl _ _))
theorem ibeq (a k : Nat) : ((a : Int) == (k : Int)) = decide (a = k) := by
  by_cases h : a = k
  · subst h; simp
  · rw [decide_eq_false h, beq_eq_false_iff_ne]; omega
theorem ec_field {w : World} {n : Int} {v : Value} {c : Nat} (h : EC w v c) : EC (w.alloc (.cells #[.int .i64 n, v] 125)) (.iface 123 (.pointer (some ⟨w.heap.size, 0, none⟩))) c := by
  obtain ⟨ws, h⟩ := h
  exact ⟨(false, n) :: ws, w.heap.size, v, rfl, by simp, heap_alloc_new w _, isErr_below ((Below.refl _ _).alloc (Nat.le_refl _) _) h⟩
/-- blame.In(n, utf.Check(s)), of what it answers -/
theorem uvalid_bad {l : List UInt8} (h : uvalid l = false) : ¬ ubad l < 0 := by
  unfold uvalid at h
  simpa using h
theorem uvalid_ok {l : List UInt8} (h : uvalid l = true) : ubad l < 0 := by
  unfold uvalid at h
  simpa using h
theorem new_two_c {w : World} {g : Nat} (hg : w.heap.size = g) (a b : Obj) : ((w.alloc a).alloc b).heap[g + 1]? = some b := by
  have := heap_alloc_new (w.alloc a) b
  rwa [show (w.alloc a).heap.size = g + 1 by rw [← hg]; exact Array.size_push ..] at this
theorem body_cell2v {P : Program} {fn : Func} {R : Ending → World → Prop} {a : Act} {w : World} {p u : Tmp} {ty : TypeId} {g : Nat} {cs : Array Value}
    (h : fn.results = #[.cell p ty, .tmp u]) (hp : a.tmps.getD p undef = .pointer (some ⟨g, 0, none⟩)) (hl : (loadVar ty ⟨g, 0, none⟩).run P w = .ok (.agg cs) w) (hdf : a.defers = [])
    (hR : R (.returned (.tuple #[.agg cs, a.tmps.getD u undef])) w) : bodyPost P fn R .ret a w := by
  refine bodyPost_ret ?_ hdf hR
  have hp' : a.tmps[p]?.getD undef = .pointer (some ⟨g, 0, none⟩) := by simpa using hp
  have hr : (asAddr (a.tmps[p]?.getD undef)).run P w = .ok ⟨g, 0, none⟩ w := by rw [hp']; rfl
  simp [results, h, Sem.run_bind, Result.andThen, hr, hl]
def TextPost (b o : Nat) (X : ByteArray) (w : World) (e : Ending) (w' : World) : Prop :=
  if uvalid X.data.toList then e = .returned .nilIface ∧ w' = w.setCell ⟨b, o, none⟩ (.string X) else ∃ y, e = .returned y ∧ EC w' y 5 ∧ Below w.heap.size w w'
set_option maxRecDepth 1000000 in
set_option maxHeartbeats 4000000 in
theorem text_to {cs : Array Value} {T : TypeId} (b o : Nat) (v : Value) (X : ByteArray) (w : World) (hX : X.size ≤ 1000000) (hrow : Hid (w.heap[b]? = some (.cells cs T (0, 0)))) (hcs : cs[o]? = some v) :
    Calls Tryz.prog 120 #[.pointer (some ⟨b, o, none⟩), .string X] w (TextPost b o X w) := by
  have hc : w.cell? ⟨b, o, none⟩ = some v := row_cell hrow.out hcs
  have hfz : w.frozen? ⟨b, o, none⟩ = false := row_thaw hrow.out o
  have HCK := Lib.hid (check_any X w (by omega))
  cases hv : uvalid X.data.toList with
  | true =>
    have HV := Lib.hid (uvalid_ok hv)
    have HB := Lib.hid hv
    clear hv
    go_enter Tryz.func120, Tryz.ntmps120
    go_wp2_with fail
    refine HCK.out.mono ?_; intro e w2 hp
    unfold UChk at hp
    rw [if_pos HV.out] at hp
    obtain ⟨rfl, rfl⟩ := hp
    go_wp2_with fail
    go_ret
    unfold TextPost
    rw [HB.out]
    exact ⟨rfl, rfl⟩
  | false =>
    have HV := Lib.hid (uvalid_bad hv)
    have HB := Lib.hid hv
    clear hv hc hfz
    go_enter Tryz.func120, Tryz.ntmps120
    go_wp2_with fail
    refine HCK.out.mono ?_; intro e w2 hp
    unfold UChk at hp
    rw [if_neg (fun h => by have := HV.out; omega)] at hp
    obtain ⟨y, rfl, hE⟩ := hp
    have hec : EC w2 y 5 := ⟨_, hE.isErr⟩
    obtain ⟨T', z, rfl⟩ := hec.iface
    have HEC := Lib.hid hec
    have HB2 := Lib.hid hE.2
    clear hE hec
    go_wp2_with fail
    go_ret
    unfold TextPost
    rw [HB.out]
    exact ⟨_, rfl, HEC.out, HB2.out⟩
theorem new_three_c {w : World} {g : Nat} (hg : w.heap.size = g) (a b c : Obj) : (((w.alloc a).alloc b).alloc c).heap[g]? = some a ∧ (((w.alloc a).alloc b).alloc c).heap[g + 1]? = some b ∧ (((w.alloc a).alloc b).alloc c).heap[g + 2]? = some c := by
  have s1 : (w.alloc a).heap.size = g + 1 := by rw [← hg]; exact Array.size_push ..
  have s2 : ((w.alloc a).alloc b).heap.size = g + 2 := by rw [show g + 2 = g + 1 + 1 from rfl, ← s1]; exact Array.size_push ..
  have h1 : (w.alloc a).heap[g]? = some a := by rw [← hg]; exact heap_alloc_new w a
  have h2 : ((w.alloc a).alloc b).heap[g + 1]? = some b := new_two_c hg a b
  refine ⟨?_, ?_, ?_⟩
  · exact (Below.heap_alloc _ _ _ (by omega)).trans ((Below.heap_alloc _ _ _ (by omega)).trans h1)
  · exact (Below.heap_alloc _ _ _ (by omega)).trans h2
  · exact new_two_c s1 b c
end Go.Proofs.YtandoppfbilhbaaGreatDoor
