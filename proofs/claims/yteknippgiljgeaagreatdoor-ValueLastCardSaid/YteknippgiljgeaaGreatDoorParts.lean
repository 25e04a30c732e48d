/-
  message.Parts: Add, Has, Bytes.
-/
import Derived.Test.YteknippgiljgeaaGreatDoorMsgRead
namespace Go.Proofs.YteknippgiljgeaaGreatDoor
open Go.RowKit

set_option maxRecDepth 1000000 in
set_option maxHeartbeats 4000000 in
theorem padd_any {cs : Array Value} {T : TypeId} (b o : Nat) (v : Value) (ps : List (List UInt8)) (B : Nat) (t : List UInt8) (w : World) (hrow : Hid (w.heap[b]? = some (.cells cs T (0, 0)))) (hcs : cs[o]? = some v) (hown : Hid (w.ownsRow B 9 1 v ps.length (ps.map strV))) (hbB : b < B) (hB : B ≤ w.heap.size) (hl : ps.length ≤ 1000000) :
    Calls Tryz.prog 54 #[.pointer (some ⟨b, o, none⟩), strV t] w fun e w' => e = .returned (.tuple #[]) ∧ Upd (fun k => k = b ∨ v.ownBlock = some k) w w' ∧ ∃ v', w'.heap[b]? = some (.cells (cs.setIfInBounds o v') T (0, 0)) ∧ w'.ownsRow B 9 1 v' (ps ++ [t]).length ((ps ++ [t]).map strV) ∧ ∀ k, v'.ownBlock = some k → v.ownBlock = some k ∨ w.heap.size ≤ k := by
  obtain ⟨X, hX⟩ : ∃ X : ByteArray, (⟨t.toArray⟩ : ByteArray) = X := ⟨_, rfl⟩
  have HX := Lib.hid hX
  obtain ⟨ao, cap, rfl⟩ := own_slice hown.out
  have hcb : w.cell? ⟨b, o, none⟩ = some (.slice ao ps.length cap) := row_cell hrow.out (j := o) hcs
  have hbw := row_lt hrow.out
  unfold strV
  rw [hX]
  clear hX
  go_enter Tryz.func54, Tryz.ntmps54
  go_wp2_with (at_builtin; refine wpList_app1_at (c := 1) (cs := [.string X]) rfl _ _ 68 rfl Tryz.elStrM (by decide) hown.out rfl (by show Value.slice (some ⟨w.heap.size, 0, none⟩) 1 1 = _; simp) rfl (by simp [Value.oneCell']) (by unfold maxLen; omega) (by omega) (by omega) ?_; intro g' cap' w2 hown2 hgrow hng; have HR2 : Hid (w2.heap[b]? = some (.cells cs T (0, 0))) := Lib.hid ((hgrow.block _ hbw (fun e => by have h7 := (hown.out.lt _ e.symm).1; omega)).trans hrow.out); have hc1' : w2.cell? ⟨b, o, none⟩ = some (.slice ao ps.length cap) := row_cell HR2.out (j := o) hcs; have hfz1 : w2.frozen? ⟨b, o, none⟩ = false := row_thaw HR2.out o)
  go_end0
  have hgu : Upd (fun k => (Value.slice ao ps.length cap).ownBlock = some k) w w2 := Upd.of_grown hgrow
  have hu1 := Upd.set w2 ⟨b, o, none⟩ (.slice (some ⟨g', 0, none⟩) (ps.length + 1) cap')
  refine ⟨rfl, (hgu.mono fun k _ h => .inr h).trans (hu1.mono fun k _ h => .inl h), .slice (some ⟨g', 0, none⟩) (ps.length + 1) cap', row_set HR2.out o _, ?_, fun k hk => ?_⟩
  · have h9 := hu1.own hown2 (fun k hk e => by have e : k = b := e; have := (hown2.lt k hk).1; omega)
    rw [List.length_append, List.map_append, List.map_cons, List.map_nil]
    rw [HX.out]
    exact h9
  · have hk' : g' = k := by simpa [Value.ownBlock] using hk
    subst hk'
    exact hng
set_option maxRecDepth 1000000 in
set_option maxHeartbeats 4000000 in
theorem phas_any {cs : Array Value} {T : TypeId} (b o : Nat) (ao : Option Addr) (n cap : Nat) (w : World) (hrow : Hid (w.heap[b]? = some (.cells cs T (0, 0)))) (hcs : cs[o]? = some (.slice ao n cap)) :
    Calls Tryz.prog 85 #[.pointer (some ⟨b, o, none⟩)] w fun e w' => e = .returned (.bool (decide (0 < n))) ∧ w = w' := by
  have hcb : w.cell? ⟨b, o, none⟩ = some (.slice ao n cap) := row_cell hrow.out (j := o) hcs
  go_enter Tryz.func85, Tryz.ntmps85
  go_wp2_with fail
  go_ret
  exact ⟨rfl, rfl⟩
set_option maxRecDepth 1000000 in
set_option maxHeartbeats 4000000 in
theorem pbytes_any {cs : Array Value} {T : TypeId} (b o : Nat) (v : Value) (ps : List (List UInt8)) (B : Nat) (w : World) (hrow : Hid (w.heap[b]? = some (.cells cs T (0, 0)))) (hcs : cs[o]? = some v) (hown : Hid (w.ownsRow B 9 1 v ps.length (ps.map strV))) (hl : ps.length ≤ 1000000) (hf : ps.flatten.length ≤ 10000000) :
    Calls Tryz.prog 82 #[.pointer (some ⟨b, o, none⟩)] w fun e w' => e = .returned (.string ⟨ps.flatten.toArray⟩) ∧ Below w.heap.size w w' := by
  obtain ⟨ao, cap, rfl⟩ := own_slice hown.out
  have hcb : w.cell? ⟨b, o, none⟩ = some (.slice ao ps.length cap) := row_cell hrow.out (j := o) hcs
  have hcap : ps.length ≤ cap := by
    rcases Nat.eq_zero_or_pos ps.length with h | h
    · omega
    · obtain ⟨_, cg, hv, _, _, h9, _⟩ := own_some hown.out h
      simp only [Value.slice.injEq] at hv
      omega
  have HS := Lib.hid (strs_of_own hown.out)
  go_enter Tryz.func82, Tryz.ntmps82
  go_wp2_with fail
  refine (join_any ao cap ps _ HS.out hcap (by omega) (by omega)).mono ?_; rintro e w2 ⟨rfl, hb2⟩
  have HB2 := Lib.hid hb2
  clear hb2
  go_wp2_with fail
  go_ret
  exact ⟨rfl, HB2.out⟩
end Go.Proofs.YteknippgiljgeaaGreatDoor
