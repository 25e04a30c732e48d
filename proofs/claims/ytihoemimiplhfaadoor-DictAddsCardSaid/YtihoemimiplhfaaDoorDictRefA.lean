/-
  (*hygref18.Dict).Add.
-/
import Derived.Test.YtihoemimiplhfaaDoorDictLaw0
namespace Go.Proofs.YtihoemimiplhfaaDoor
open Go.RowKit Go.Maps

/-- the reference's Dict at block p -/
def DRefAt (w : World) (p : Nat) (D : List (List UInt8)) : Prop := ∃ v, w.heap[p]? = some (.cells #[v] 47 (0, 0)) ∧ w.ownsRow (p + 1) 9 1 v D.length (D.map strV)
theorem dref_below {w w' : World} {p : Nat} {D : List (List UInt8)} (h : DRefAt w p D) (hb : Below w.heap.size w w') : DRefAt w' p D := by
  obtain ⟨v, h1, h2⟩ := h
  exact ⟨v, (hb.block _ (row_lt h1)).trans h1, (Upd.of_new (S := fun _ => False) hb).own h2 (fun _ _ h => h)⟩
theorem dref_new (w : World) : DRefAt (w.alloc (.cells #[.slice none 0 0] 47)) w.heap.size [] := ⟨_, heap_alloc_new w _, World.ownsRow_nil _ _ _ _⟩
set_option maxRecDepth 1000000 in
set_option maxHeartbeats 4000000 in
theorem rdadd_any (p : Nat) (D : List (List UInt8)) (t : List UInt8) (w : World) (h : Hid (DRefAt w p D)) (hD : D.length ≤ 1000000) :
    Calls Tryd.prog 23 #[.pointer (some ⟨p, 0, none⟩), strV t] w fun e w' =>
      (∃ i, D[i]? = some t ∧ e = .returned (.int .i64 (i : Nat)) ∧ Below w.heap.size w w') ∨ (t ∉ D ∧ e = .returned (.int .i64 (D.length : Int)) ∧ Hid (DRefAt w' p (D ++ [t])) ∧ Below p w w') := by
  obtain ⟨Y, hY⟩ : ∃ Y : ByteArray, (⟨t.toArray⟩ : ByteArray) = Y := ⟨_, rfl⟩
  have hYV : strV t = .string Y := by unfold strV; rw [hY]
  rw [hYV]
  have HY := Lib.hid hY
  clear hY hYV
  go_enter Tryd.func23, Tryd.ntmps23
  go_wp2_with fail
  go_loopg [5] D.length (fun k i wr => ∃ (j : Nat), j + k = D.length ∧ i = .int .i64 j ∧ Hid (∀ m, m < j → D[m]? ≠ some t) ∧ Below w.heap.size w wr)
  case atStart => exact ⟨0, by omega, rfl, Lib.hid (fun m hm => by omega), Below.refl _ _⟩
  case round =>
    obtain ⟨j, hj, rfl, HM, hbr⟩ := hrel
    have HB := Lib.hid hbr
    have HJ := Lib.hid hj
    obtain ⟨v, h1, h2⟩ := dref_below h.out hbr
    obtain ⟨ao, cap, rfl⟩ := own_slice h2
    have hc0 : wr.cell? ⟨p, 0, none⟩ = some (.slice ao D.length cap) := row_cell h1 (j := 0) rfl
    have hpw : p + 1 ≤ wr.heap.size := row_lt h1
    have H1 := Lib.hid h1
    have HSt : Hid (Strs wr ao D) := Lib.hid (strs_of_own h2)
    clear hbr hj h1
    by_cases hlt : j < D.length
    · obtain ⟨g, off, rfl, hg1, hcell⟩ := HSt.out.at hlt
      obtain ⟨X, hX⟩ : ∃ X : ByteArray, (⟨D[j].toArray⟩ : ByteArray) = X := ⟨_, rfl⟩
      have hXV : strV D[j] = .string X := by unfold strV; rw [hX]
      rw [hXV] at hcell
      have hi1 : (j : Int) < (D.length : Int) := by omega
      by_cases he : D[j] = t
      · have hxy : X = Y := by rw [← hX, ← HY.out, he]
        have HI : Hid (D[j]? = some t) := Lib.hid (by rw [List.getElem?_eq_getElem hlt, he])
        subst hxy
        clear he hX hXV h2
        go_wp2_with fail
        go_ret
        exact .inl ⟨j, HI.out, rfl, HB.out⟩
      · have hxy : (X.toList == Y.toList) = false := by
          rw [beq_eq_false_iff_ne, ByteArray.toList_eq, ByteArray.toList_eq, ← hX, ← HY.out]
          simpa using he
        have HM2 : Hid (∀ m, m < j + 1 → D[m]? ≠ some t) := Lib.hid (fun m hm => by
          by_cases hmj : m = j
          · subst hmj; rw [List.getElem?_eq_getElem hlt]; simpa using he
          · exact HM.out m (by omega))
        clear he hX hXV h2
        go_wp2_with fail
        have hj := HJ.out
        go_roundg (gk - 1)
        case measure => omega
        case rel => exact ⟨j + 1, by omega, by simp, HM2, HB.out⟩
    · have hni : t ∉ D := fun hm => by
        obtain ⟨m, hm1, hm2⟩ := List.getElem_of_mem hm
        have hj := HJ.out
        exact HM.out m (by omega) (by rw [List.getElem?_eq_getElem hm1, hm2])
      have HNI := Lib.hid hni
      have HP : Hid (p < w.heap.size) := Lib.hid (by obtain ⟨_, h9, _⟩ := h.out; exact row_lt h9)
      have HH2 := Lib.hid h2
      clear hni
      go_wp2_with (at_builtin; refine wpList_app1 (c := 1) (cs := [.string Y]) rfl _ _ 42 rfl Tryd.elStr (by decide) h2 rfl (by show Value.slice (some ⟨wr.heap.size, 0, none⟩) 1 1 = _; simp) rfl (by simp [Value.oneCell']) (by unfold maxLen; omega) (by omega) hpw ?_; intro v' w2 hown2 hgrow2; obtain ⟨ao2, cap2, rfl⟩ := own_slice hown2; have H1'' : Hid (w2.heap[p]? = some (.cells #[.slice ao D.length cap] 47 (0, 0))) := Lib.hid ((hgrow2.block _ (row_lt H1.out) (fun e => by have h7 := (HH2.out.lt _ e.symm).1; omega)).trans H1.out); have hc0'' : w2.cell? ⟨p, 0, none⟩ = some (.slice ao D.length cap) := row_cell H1''.out (j := 0) rfl; have hfz : w2.frozen? ⟨p, 0, none⟩ = false := row_thaw H1''.out 0)
      go_ret
      have hu2 : Below p wr w2 := (Upd.of_grown hgrow2).below (by omega) (fun k _ hk => by have h7 := (HH2.out.lt _ hk).1; omega)
      have HU3 := Upd.set w2 ⟨p, 0, none⟩ (.slice ao2 (D.length + 1) cap2)
      have hu3 : Below p w2 (w2.setCell ⟨p, 0, none⟩ (.slice ao2 (D.length + 1) cap2)) := HU3.below (by have := hu2.size; omega) (fun k _ hk => by subst hk; exact Nat.le_refl _)
      refine .inr ⟨HNI.out, ?_, Lib.hid ⟨.slice ao2 (D.length + 1) cap2, row_set H1''.out 0 _, ?_⟩, ((HB.out.mono (Nat.le_of_lt HP.out)).trans hu2).trans hu3⟩
      · first | rfl | simp
      · have h8 := HU3.own hown2 (fun k hk e => by have h7 := (hown2.lt k hk).1; have e : k = p := e; omega)
        have e9 : (D ++ [t]).map strV = D.map strV ++ [.string Y] := by rw [List.map_append]; unfold strV; rw [← HY.out]; rfl
        rw [e9]
        simpa using h8
end Go.Proofs.YtihoemimiplhfaaDoor
