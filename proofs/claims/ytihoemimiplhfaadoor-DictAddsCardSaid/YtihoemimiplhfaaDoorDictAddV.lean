/-
  Both Dicts' Adds, with what is written told block by block.
-/
import Derived.Test.YtihoemimiplhfaaDoorDictRefP
namespace Go.Proofs.YtihoemimiplhfaaDoor
open Go.RowKit Go.Maps

def DAtV (w : World) (b : Nat) (D : List (List UInt8)) (v : Value) : Prop :=
  ∃ M, w.heap[b + 1]? = some (.cells #[v, .map (some b)] 94 (0, 0)) ∧ w.ownsRow (b + 2) 9 1 v D.length (D.map strV) ∧
    w.ownsMap Tryd.prog 9 (plainElem (H := Unit) Tryd.prog 3) b D.length M ∧ DMap D M ∧ D.Nodup
theorem DAtV.at {w : World} {b : Nat} {D : List (List UInt8)} {v : Value} (h : DAtV w b D v) : DAt w b D := ⟨v, h⟩
theorem datv_upd {S : Nat → Prop} {w w' : World} {b : Nat} {D : List (List UInt8)} {v : Value} (h : DAtV w b D v) (hu : Upd S w w') (h0 : ¬ S b) (h1 : ¬ S (b + 1)) (h2 : ∀ k, v.ownBlock = some k → ¬ S k) : DAtV w' b D v := by
  obtain ⟨M, g1, g2, ⟨es, clock, k1, k2⟩, g4, g5⟩ := h
  exact ⟨M, (hu.block _ (row_lt g1) h1).trans g1, hu.own g2 h2, ⟨es, clock, (hu.block _ (row_lt k1) h0).trans k1, k2⟩, g4, g5⟩
def DRefV (w : World) (p : Nat) (D : List (List UInt8)) (v : Value) : Prop := w.heap[p]? = some (.cells #[v] 47 (0, 0)) ∧ w.ownsRow (p + 1) 9 1 v D.length (D.map strV)
theorem DRefV.at {w : World} {p : Nat} {D : List (List UInt8)} {v : Value} (h : DRefV w p D v) : DRefAt w p D := ⟨v, h⟩
theorem drefv_upd {S : Nat → Prop} {w w' : World} {p : Nat} {D : List (List UInt8)} {v : Value} (h : DRefV w p D v) (hu : Upd S w w') (h0 : ¬ S p) (h2 : ∀ k, v.ownBlock = some k → ¬ S k) : DRefV w' p D v := ⟨(hu.block _ (row_lt h.1) h0).trans h.1, hu.own h.2 h2⟩
theorem drefv_below {w w' : World} {p : Nat} {D : List (List UInt8)} {v : Value} (h : DRefV w p D v) (hb : Below w.heap.size w w') : DRefV w' p D v := drefv_upd h (Upd.of_new (S := fun _ => False) hb) (fun h => h) (fun _ _ h => h)
set_option maxRecDepth 1000000 in
set_option maxHeartbeats 4000000 in
theorem dadd_newv (b : Nat) (D : List (List UInt8)) (t : List UInt8) (v : Value) (w : World) (h : Hid (DAtV w b D v)) (hi : t ∉ D) (hs : t.length ≤ 1000000) (hD : D.length ≤ 1000000) : Calls Tryd.prog 22 #[.pointer (some ⟨b + 1, 0, none⟩), strV t] w fun e w' => e = .returned (.int .i64 (D.length : Int)) ∧ ∃ g' cap', Hid (DAtV w' b (D ++ [t]) (.slice (some ⟨g', 0, none⟩) (D.length + 1) cap')) ∧ Upd (fun k => k = b ∨ k = b + 1 ∨ v.ownBlock = some k) w w' ∧ (v.ownBlock = some g' ∨ w.heap.size ≤ g') := by
  obtain ⟨M, h1, h2, h3, h4, h5⟩ := h.out
  have hc0 : w.cell? ⟨b + 1, 0, none⟩ = some v := row_cell h1 (j := 0) rfl
  have hc1 : w.cell? ⟨b + 1, 1, none⟩ = some (.map (some b)) := row_cell h1 (j := 1) rfl
  have h6 := h4.lacks t hi
  have hkey : keyOf Tryd.prog 9 (.string ⟨t.toArray⟩) = some (.string t) := WideMaps.keyOf_string_mk Tryd.underlying9 (by rw [str_size]; unfold maxLen; omega)
  have H1 := Lib.hid h1
  have H4 := Lib.hid (dmap_add h4 hi)
  have H5 : Hid ((D ++ [t]).Nodup) := Lib.hid (List.nodup_append.2 ⟨h5, by simp, fun a ha c hc e => hi (by rw [List.mem_singleton] at hc; rw [← hc, ← e]; exact ha)⟩)
  obtain ⟨ao, cap, rfl⟩ := own_slice h2
  have HI := Lib.hid hi
  clear h1 h4 h5 hi
  unfold strV
  go_enter Tryd.func22, Tryd.ntmps22
  go_wp2_with (first
    | (at_lookup; refine wpList_lookup_own_ok_int _ rfl _ _ 92 rfl 9 3 .i64 Tryd.strKey Tryd.underlying92 Tryd.underlying3 (Tryd.zeroInt _) b _ _ rfl h3 _ _ rfl hkey ?_; intro c hat hwc; rw [h6])
    | (at_mapUpdate; refine wpList_mapUpdate_own _ rfl _ _ _ 92 rfl 9 3 Tryd.strKey Tryd.underlying92 _ b D.length _ rfl h3 (by unfold maxLen; omega) _ _ _ rfl rfl hkey _ [] (plainElem_int Tryd.underlying3 (WalkArith.wf_i64 (by omega))) ?_; intro w1 hown1 hgrow1
       have h2' := (Upd.of_grown hgrow1).own h2 (fun k hk e => by have h7 := (h2.lt k hk).1; injection e with e; omega)
       have H1' : Hid (w1.heap[b + 1]? = some (.cells #[.slice ao D.length cap, .map (some b)] 94 (0, 0))) := Lib.hid (((Upd.of_grown hgrow1).block _ (row_lt H1.out) (fun e => by injection e with e; omega)).trans H1.out)
       have hc0' : w1.cell? ⟨b + 1, 0, none⟩ = some (.slice ao D.length cap) := row_cell H1'.out (j := 0) rfl
       have hsz1 : b + 2 ≤ w1.heap.size := by have h7 := row_lt H1'.out; omega
       clear hc0 hc1 h2)
    | (at_builtin; refine wpList_app1_at (c := 1) (cs := [.string ⟨t.toArray⟩]) rfl _ _ 42 rfl Tryd.elStr (by decide) h2' rfl (by show Value.slice (some ⟨w1.heap.size, 0, none⟩) 1 1 = _; simp) rfl (by simp [Value.oneCell']) (by unfold maxLen; omega) (by omega) hsz1 ?_; intro g2 cap2 w2 hown2 hgrow2 hfr2
       have H1'' : Hid (w2.heap[b + 1]? = some (.cells #[.slice ao D.length cap, .map (some b)] 94 (0, 0))) := Lib.hid ((hgrow2.block _ (row_lt H1'.out) (fun e => by have h7 := (h2'.lt _ e.symm).1; omega)).trans H1'.out)
       have hc0'' : w2.cell? ⟨b + 1, 0, none⟩ = some (.slice ao D.length cap) := row_cell H1''.out (j := 0) rfl
       have hfz : w2.frozen? ⟨b + 1, 0, none⟩ = false := row_thaw H1''.out 0))
  go_ret
  have hsz12 := (Upd.of_grown hgrow1).size
  have HU3 := Upd.set w2 ⟨b + 1, 0, none⟩ (.slice (some ⟨g2, 0, none⟩) (D.length + 1) cap2)
  have HUA : Upd (fun k => k = b ∨ k = b + 1 ∨ (Value.slice ao D.length cap).ownBlock = some k) w (w2.setCell ⟨b + 1, 0, none⟩ (.slice (some ⟨g2, 0, none⟩) (D.length + 1) cap2)) :=
    (((Upd.of_grown hgrow1).mono (fun k _ hk => .inl (by injection hk with hk; exact hk.symm))).trans ((Upd.of_grown hgrow2).mono (fun k _ hk => .inr (.inr hk)))).trans (HU3.mono (fun k _ hk => .inr (.inl hk)))
  refine ⟨rfl, g2, cap2, Lib.hid ⟨_, row_set H1''.out 0 _, ?_, ?_, H4.out, H5.out⟩, HUA, ?_⟩
  · have h8 := HU3.own hown2 (fun k hk e => by have h7 := (hown2.lt k hk).1; subst e; simp at h7)
    simpa [strV] using h8
  · have h8 := (hown1.kept hgrow2 (fun e => by have h7 := (h2'.lt _ e.symm).1; omega)).setCell (a := ⟨b + 1, 0, none⟩) (by show b ≠ b + 1; omega) (.slice (some ⟨g2, 0, none⟩) (D.length + 1) cap2)
    simpa using h8
  · rcases hfr2 with h | h
    · exact .inl h
    · exact .inr (by omega)
set_option maxRecDepth 1000000 in
set_option maxHeartbeats 4000000 in
theorem rdadd_anyv (p : Nat) (D : List (List UInt8)) (t : List UInt8) (v : Value) (w : World) (h : Hid (DRefV w p D v)) (hD : D.length ≤ 1000000) :
    Calls Tryd.prog 23 #[.pointer (some ⟨p, 0, none⟩), strV t] w fun e w' =>
      (∃ i, D[i]? = some t ∧ e = .returned (.int .i64 (i : Nat)) ∧ Below w.heap.size w w') ∨ (t ∉ D ∧ e = .returned (.int .i64 (D.length : Int)) ∧ ∃ g' cap', Hid (DRefV w' p (D ++ [t]) (.slice (some ⟨g', 0, none⟩) (D.length + 1) cap')) ∧ Upd (fun k => k = p ∨ v.ownBlock = some k) w w' ∧ (v.ownBlock = some g' ∨ w.heap.size ≤ g')) := by
  obtain ⟨Y, hY⟩ : ∃ Y : ByteArray, (⟨t.toArray⟩ : ByteArray) = Y := ⟨_, rfl⟩
  have hYV : strV t = .string Y := by unfold strV; rw [hY]
  rw [hYV]
  have HY := Lib.hid hY
  clear hY hYV
  go_enter Tryd.func23, Tryd.ntmps23
  go_wp2_with fail
  go_loopg [5] D.length (fun k i wr => ∃ (j : Nat), j + k = D.length ∧ i = .int .i64 j ∧ Hid (∀ m, m < j → D[m]? ≠ some t) ∧ Below w.heap.size w wr)
  case atStart => exact ⟨0, by omega, rfl, Lib.hid (fun m hm => by omega), Below.refl _ _⟩
  case round =>
    obtain ⟨j, hj, rfl, HM, hbr⟩ := hrel
    have HB := Lib.hid hbr
    have HJ := Lib.hid hj
    obtain ⟨h1, h2⟩ := drefv_below h.out hbr
    obtain ⟨ao, cap, rfl⟩ := own_slice h2
    have hc0 : wr.cell? ⟨p, 0, none⟩ = some (.slice ao D.length cap) := row_cell h1 (j := 0) rfl
    have hpw : p + 1 ≤ wr.heap.size := row_lt h1
    have H1 := Lib.hid h1
    have HSt : Hid (Strs wr ao D) := Lib.hid (strs_of_own h2)
    clear hbr hj h1
    by_cases hlt : j < D.length
    · obtain ⟨g, off, rfl, hg1, hcell⟩ := HSt.out.at hlt
      obtain ⟨X, hX⟩ : ∃ X : ByteArray, (⟨D[j].toArray⟩ : ByteArray) = X := ⟨_, rfl⟩
      have hXV : strV D[j] = .string X := by unfold strV; rw [hX]
      rw [hXV] at hcell
      have hi1 : (j : Int) < (D.length : Int) := by omega
      by_cases he : D[j] = t
      · have hxy : X = Y := by rw [← hX, ← HY.out, he]
        have HI : Hid (D[j]? = some t) := Lib.hid (by rw [List.getElem?_eq_getElem hlt, he])
        subst hxy
        clear he hX hXV h2
        go_wp2_with fail
        go_ret
        exact .inl ⟨j, HI.out, rfl, HB.out⟩
      · have hxy : (X.toList == Y.toList) = false := by
          rw [beq_eq_false_iff_ne, ByteArray.toList_eq, ByteArray.toList_eq, ← hX, ← HY.out]
          simpa using he
        have HM2 : Hid (∀ m, m < j + 1 → D[m]? ≠ some t) := Lib.hid (fun m hm => by
          by_cases hmj : m = j
          · subst hmj; rw [List.getElem?_eq_getElem hlt]; simpa using he
          · exact HM.out m (by omega))
        clear he hX hXV h2
        go_wp2_with fail
        have hj := HJ.out
        go_roundg (gk - 1)
        case measure => omega
        case rel => exact ⟨j + 1, by omega, by simp, HM2, HB.out⟩
    · have hni : t ∉ D := fun hm => by
        obtain ⟨m, hm1, hm2⟩ := List.getElem_of_mem hm
        have hj := HJ.out
        exact HM.out m (by omega) (by rw [List.getElem?_eq_getElem hm1, hm2])
      have HNI := Lib.hid hni
      have HP : Hid (p < w.heap.size) := Lib.hid (by obtain ⟨h9, _⟩ := h.out; exact row_lt h9)
      have HH2 := Lib.hid h2
      clear hni
      go_wp2_with (at_builtin; refine wpList_app1_at (c := 1) (cs := [.string Y]) rfl _ _ 42 rfl Tryd.elStr (by decide) h2 rfl (by show Value.slice (some ⟨wr.heap.size, 0, none⟩) 1 1 = _; simp) rfl (by simp [Value.oneCell']) (by unfold maxLen; omega) (by omega) hpw ?_; intro g2 cap2 w2 hown2 hgrow2 hfr2; have H1'' : Hid (w2.heap[p]? = some (.cells #[.slice ao D.length cap] 47 (0, 0))) := Lib.hid ((hgrow2.block _ (row_lt H1.out) (fun e => by have h7 := (HH2.out.lt _ e.symm).1; omega)).trans H1.out); have hc0'' : w2.cell? ⟨p, 0, none⟩ = some (.slice ao D.length cap) := row_cell H1''.out (j := 0) rfl; have hfz : w2.frozen? ⟨p, 0, none⟩ = false := row_thaw H1''.out 0)
      go_ret
      have HU3 := Upd.set w2 ⟨p, 0, none⟩ (.slice (some ⟨g2, 0, none⟩) (D.length + 1) cap2)
      have hsz0 := HB.out.size
      have HUA : Upd (fun k => k = p ∨ (Value.slice ao D.length cap).ownBlock = some k) w (w2.setCell ⟨p, 0, none⟩ (.slice (some ⟨g2, 0, none⟩) (D.length + 1) cap2)) :=
        ((Upd.of_new HB.out).trans ((Upd.of_grown hgrow2).mono (fun k _ hk => .inr hk))).trans (HU3.mono (fun k _ hk => .inl hk))
      refine .inr ⟨HNI.out, ?_, g2, cap2, Lib.hid ⟨row_set H1''.out 0 _, ?_⟩, HUA, ?_⟩
      · first | rfl | simp
      · have h8 := HU3.own hown2 (fun k hk e => by have h7 := (hown2.lt k hk).1; have e : k = p := e; omega)
        have e9 : (D ++ [t]).map strV = D.map strV ++ [.string Y] := by rw [List.map_append]; unfold strV; rw [← HY.out]; rfl
        rw [e9]
        simpa using h8
      · rcases hfr2 with h | h
        · exact .inl h
        · exact .inr (by omega)
end Go.Proofs.YtihoemimiplhfaaDoor
