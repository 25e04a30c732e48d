/-
  dict.New, Len, Get, Add.
-/
import Derived.Test.YtihoemimiplhfaaDoorTextsSame
import Derived.Test.YtihoemimiplhfaaDoorNumsSame
import Derived.Laws.OwnMore
import Derived.Maps.OwnSet
import Derived.StringKeys
namespace Go.Proofs.YtihoemimiplhfaaDoor
open Go.RowKit Go.Maps

theorem Tryd.elStr : Elem Tryd.prog 42 9 (.string ⟨#[]⟩) 1 16 := ⟨Tryd.underlying42, by kernel_rfl, by decide⟩
theorem Tryd.strKey : Keyed Tryd.prog 9 := string_keyed Tryd.underlying9
theorem Tryd.zeroInt (w : World) : (zeroValue 3).run Tryd.prog w = .ok (.int .i64 0) w := by kernel_rfl
/-- the numbers of texts, as the map has them -/
structure DMap (D : List (List UInt8)) (M : DataW Unit) : Prop where
  isMap : IsMap M
  there : ∀ i (h : i < D.length), Maps.has M (.string D[i]) = true ∧ ∀ z, M.atKey (.string D[i]) z = .lit (.int .i64 (i : Int))
  lacks : ∀ t, t ∉ D → Maps.has M (.string t) = false
theorem dmap_nil : DMap [] (.map []) := ⟨isMap_empty, fun i h => by simp at h, fun t _ => rfl⟩
theorem key_lit (t : List UInt8) : WideAt.IsKeyLit (.string t) := by simp [WideAt.IsKeyLit]
theorem dmap_add {D : List (List UInt8)} {M : DataW Unit} (h : DMap D M) {t : List UInt8} (ht : t ∉ D) : DMap (D ++ [t]) (M.put (.string t) (.lit (.int .i64 (D.length : Int)))) := by
  refine ⟨h.isMap.put _ _, fun i hi => ?_, fun u hu => ?_⟩
  · by_cases hl : i < D.length
    · have e : (D ++ [t])[i] = D[i] := List.getElem_append_left hl
      have hne : (Lit.string D[i] : Lit) ≠ .string t := fun he => ht (by injection he with he; rw [← he]; exact List.getElem_mem hl)
      rw [e, has_put_other hne]
      exact ⟨(h.there i hl).1, fun z => by rw [atKey_put_other hne]; exact (h.there i hl).2 z⟩
    · have hil : i = D.length := by simp at hi; omega
      subst hil
      have e : (D ++ [t])[D.length] = t := by simp
      rw [e]
      exact ⟨has_put_same h.isMap (key_lit t) _, fun z => atKey_put_same h.isMap (key_lit t) _ z⟩
  · have h1 : u ∉ D := fun hm => hu (List.mem_append_left _ hm)
    have hne : (Lit.string u : Lit) ≠ .string t := fun he => hu (by injection he with he; rw [he]; simp)
    rw [has_put_other hne]
    exact h.lacks u h1
/-- a Dict at block b + 1, its map at block b: its texts -/
def DAt (w : World) (b : Nat) (D : List (List UInt8)) : Prop :=
  ∃ v M, w.heap[b + 1]? = some (.cells #[v, .map (some b)] 94 (0, 0)) ∧ w.ownsRow (b + 2) 9 1 v D.length (D.map strV) ∧
    w.ownsMap Tryd.prog 9 (plainElem (H := Unit) Tryd.prog 3) b D.length M ∧ DMap D M ∧ D.Nodup
theorem dat_below {w w' : World} {b : Nat} {D : List (List UInt8)} (h : DAt w b D) (hb : Below w.heap.size w w') : DAt w' b D := by
  obtain ⟨v, M, h1, h2, h3, h4, h5⟩ := h
  obtain ⟨es, clock, g1, g2⟩ := h3
  refine ⟨v, M, (hb.block _ (row_lt h1)).trans h1, (Upd.of_new (S := fun _ => False) hb).own h2 (fun _ _ h => h), ⟨es, clock, (hb.block _ ?_).trans g1, g2⟩, h4, h5⟩
  have := row_lt h1
  omega
set_option maxRecDepth 1000000 in
set_option maxHeartbeats 1000000 in
theorem dnew_any (w : World) : Calls Tryd.prog 20 #[] w fun e w' => e = .returned (.pointer (some ⟨w.heap.size + 1, 0, none⟩)) ∧ Hid (DAt w' w.heap.size []) ∧ Below w.heap.size w w' := by
  have hmm := @run_makeMap Tryd.prog
  go_enter Tryd.func20, Tryd.ntmps20
  go_wp2_with fail
  go_ret
  refine ⟨rfl, Lib.hid ⟨_, .map [], ?_, World.ownsRow_nil _ _ _ _, (World.ownsMap_made w _ _ _).alloc _, dmap_nil, List.nodup_nil⟩, ((Below.refl _ _).alloc (Nat.le_refl _) _).alloc (by simp) _⟩
  have h := heap_alloc_new (w.alloc (.map #[] 0)) (.cells #[.slice none 0 0, .map (some w.heap.size)] 94)
  rw [show (w.alloc (.map #[] 0)).heap.size = w.heap.size + 1 by simp] at h
  exact h
theorem dlen_any (b : Nat) (D : List (List UInt8)) (w : World) (h : Hid (DAt w b D)) : Calls Tryd.prog 24 #[.pointer (some ⟨b + 1, 0, none⟩)] w fun e w' => e = .returned (.int .i64 (D.length : Int)) ∧ w = w' := by
  obtain ⟨v, M, h1, h2, h3, h4, h5⟩ := h.out
  have hc0 : w.cell? ⟨b + 1, 0, none⟩ = some v := row_cell h1 (j := 0) rfl
  obtain ⟨ao, cap, rfl⟩ := own_slice h2
  clear h1 h2 h3 h4 h5
  go_enter Tryd.func24, Tryd.ntmps24
  go_wp2_with fail
  go_ret
  exact ⟨rfl, rfl⟩
set_option maxRecDepth 1000000 in
set_option maxHeartbeats 1000000 in
theorem dget_out (b : Nat) (D : List (List UInt8)) (i : Int) (w : World) (h : Hid (DAt w b D)) (hi : i < 0 ∨ (D.length : Int) ≤ i) : Calls Tryd.prog 27 #[.pointer (some ⟨b + 1, 0, none⟩), .int .i64 i] w fun e w' => e = .returned (.tuple #[.string ⟨#[]⟩, .bool false]) ∧ w = w' := by
  obtain ⟨v, M, h1, h2, h3, h4, h5⟩ := h.out
  have hc0 : w.cell? ⟨b + 1, 0, none⟩ = some v := row_cell h1 (j := 0) rfl
  obtain ⟨ao, cap, rfl⟩ := own_slice h2
  clear h1 h2 h3 h4 h5
  by_cases h0 : i < 0
  · have d1 : decide (i < 0) = true := decide_eq_true h0
    go_enter Tryd.func27, Tryd.ntmps27
    go_wp2_with fail
    go_ret2
    exact ⟨rfl, rfl⟩
  · have d1 : decide (i < 0) = false := decide_eq_false h0
    have d2 : decide (i ≥ (D.length : Int)) = true := decide_eq_true (by omega)
    clear hi h0
    go_enter Tryd.func27, Tryd.ntmps27
    go_wp2_with fail
    go_ret2
    exact ⟨rfl, rfl⟩
set_option maxRecDepth 1000000 in
set_option maxHeartbeats 1000000 in
theorem dget_in (b : Nat) (D : List (List UInt8)) (i : Nat) (t : List UInt8) (w : World) (h : Hid (DAt w b D)) (hi : Hid (D[i]? = some t)) : Calls Tryd.prog 27 #[.pointer (some ⟨b + 1, 0, none⟩), .int .i64 i] w fun e w' => e = .returned (.tuple #[strV t, .bool true]) ∧ w = w' := by
  obtain ⟨v, M, h1, h2, h3, h4, h5⟩ := h.out
  have hc0 : w.cell? ⟨b + 1, 0, none⟩ = some v := row_cell h1 (j := 0) rfl
  obtain ⟨hl, he⟩ := List.getElem?_eq_some_iff.1 hi.out
  obtain ⟨g, cap, rfl, hg1, hg2, _⟩ := own_some h2 (show 0 < D.length by omega)
  have hce : w.cell? ⟨g, i, none⟩ = some (strV t) := by
    rw [h2.cellAt i (by omega), List.getElem?_map, hi.out]; rfl
  have hi1 : (i : Int) < (D.length : Int) := by omega
  have d2 : decide ((i : Int) ≥ (D.length : Int)) = false := decide_eq_false (by omega)
  clear h1 h2 h3 h4 h5 he hi
  unfold strV at hce ⊢
  go_enter Tryd.func27, Tryd.ntmps27
  go_wp2_with fail
  go_ret2
  exact ⟨rfl, rfl⟩
theorem str_size (t : List UInt8) : (⟨t.toArray⟩ : ByteArray).size = t.length := by simp [ByteArray.size]
theorem str_data (t : List UInt8) : (⟨t.toArray⟩ : ByteArray).data.toList = t := by simp
set_option maxRecDepth 1000000 in
set_option maxHeartbeats 1000000 in
theorem dadd_old (b : Nat) (D : List (List UInt8)) (i : Nat) (t : List UInt8) (w : World) (h : Hid (DAt w b D)) (hi : Hid (D[i]? = some t)) (hs : t.length ≤ 1000000) : Calls Tryd.prog 22 #[.pointer (some ⟨b + 1, 0, none⟩), strV t] w fun e w' => e = .returned (.int .i64 i) ∧ w = w' := by
  obtain ⟨v, M, h1, h2, h3, h4, h5⟩ := h.out
  have hc0 : w.cell? ⟨b + 1, 0, none⟩ = some v := row_cell h1 (j := 0) rfl
  have hc1 : w.cell? ⟨b + 1, 1, none⟩ = some (.map (some b)) := row_cell h1 (j := 1) rfl
  obtain ⟨hl, he⟩ := List.getElem?_eq_some_iff.1 hi.out
  have h6 := h4.there i hl
  rw [he] at h6
  have hkey : keyOf Tryd.prog 9 (.string ⟨t.toArray⟩) = some (.string t) := WideMaps.keyOf_string_mk Tryd.underlying9 (by rw [str_size]; unfold maxLen; omega)
  clear h1 h2 h4 h5 he
  unfold strV
  go_enter Tryd.func22, Tryd.ntmps22
  go_wp2_with (at_lookup; refine wpList_lookup_own_ok_int _ rfl _ _ 92 rfl 9 3 .i64 Tryd.strKey Tryd.underlying92 Tryd.underlying3 (Tryd.zeroInt _) b _ _ rfl h3 _ _ rfl hkey ?_; intro c hat hwc; rw [h6.1])
  go_ret
  refine ⟨?_, rfl⟩
  rw [h6.2] at hat
  simp only [DataW.lit.injEq, Lit.int.injEq, true_and] at hat
  rw [← hat]
  rfl
theorem below_of_grown {w w' : World} {b : Nat} {row : Option Nat} (hg : w.grownBy w' row) (hb : b ≤ w.heap.size) (hr : ∀ k, row = some k → b ≤ k) : Below b w w' := (Upd.of_grown hg).below hb (fun k _ hk => hr k hk)
set_option maxRecDepth 1000000 in
set_option maxHeartbeats 4000000 in
theorem dadd_new (b : Nat) (D : List (List UInt8)) (t : List UInt8) (w : World) (h : Hid (DAt w b D)) (hi : t ∉ D) (hs : t.length ≤ 1000000) (hD : D.length ≤ 1000000) : Calls Tryd.prog 22 #[.pointer (some ⟨b + 1, 0, none⟩), strV t] w fun e w' => e = .returned (.int .i64 (D.length : Int)) ∧ Hid (DAt w' b (D ++ [t])) ∧ Below b w w' := by
  obtain ⟨v, M, h1, h2, h3, h4, h5⟩ := h.out
  have hc0 : w.cell? ⟨b + 1, 0, none⟩ = some v := row_cell h1 (j := 0) rfl
  have hc1 : w.cell? ⟨b + 1, 1, none⟩ = some (.map (some b)) := row_cell h1 (j := 1) rfl
  have h6 := h4.lacks t hi
  have hkey : keyOf Tryd.prog 9 (.string ⟨t.toArray⟩) = some (.string t) := WideMaps.keyOf_string_mk Tryd.underlying9 (by rw [str_size]; unfold maxLen; omega)
  have H1 := Lib.hid h1
  have H4 := Lib.hid (dmap_add h4 hi)
  have H5 : Hid ((D ++ [t]).Nodup) := Lib.hid (List.nodup_append.2 ⟨h5, by simp, fun a ha c hc e => hi (by rw [List.mem_singleton] at hc; rw [← hc, ← e]; exact ha)⟩)
  obtain ⟨ao, cap, rfl⟩ := own_slice h2
  have HI := Lib.hid hi
  clear h1 h4 h5 hi
  unfold strV
  go_enter Tryd.func22, Tryd.ntmps22
  go_wp2_with (first
    | (at_lookup; refine wpList_lookup_own_ok_int _ rfl _ _ 92 rfl 9 3 .i64 Tryd.strKey Tryd.underlying92 Tryd.underlying3 (Tryd.zeroInt _) b _ _ rfl h3 _ _ rfl hkey ?_; intro c hat hwc; rw [h6])
    | (at_mapUpdate; refine wpList_mapUpdate_own _ rfl _ _ _ 92 rfl 9 3 Tryd.strKey Tryd.underlying92 _ b D.length _ rfl h3 (by unfold maxLen; omega) _ _ _ rfl rfl hkey _ [] (plainElem_int Tryd.underlying3 (WalkArith.wf_i64 (by omega))) ?_; intro w1 hown1 hgrow1
       have h2' := (Upd.of_grown hgrow1).own h2 (fun k hk e => by have h7 := (h2.lt k hk).1; injection e with e; omega)
       have H1' : Hid (w1.heap[b + 1]? = some (.cells #[.slice ao D.length cap, .map (some b)] 94 (0, 0))) := Lib.hid (((Upd.of_grown hgrow1).block _ (row_lt H1.out) (fun e => by injection e with e; omega)).trans H1.out)
       have hc0' : w1.cell? ⟨b + 1, 0, none⟩ = some (.slice ao D.length cap) := row_cell H1'.out (j := 0) rfl
       have hsz1 : b + 2 ≤ w1.heap.size := by have h7 := row_lt H1'.out; omega
       clear hc0 hc1 h2)
    | (at_builtin; refine wpList_app1 (c := 1) (cs := [.string ⟨t.toArray⟩]) rfl _ _ 42 rfl Tryd.elStr (by decide) h2' rfl (by show Value.slice (some ⟨w1.heap.size, 0, none⟩) 1 1 = _; simp) rfl (by simp [Value.oneCell']) (by unfold maxLen; omega) (by omega) hsz1 ?_; intro v' w2 hown2 hgrow2
       obtain ⟨ao2, cap2, rfl⟩ := own_slice hown2
       have H1'' : Hid (w2.heap[b + 1]? = some (.cells #[.slice ao D.length cap, .map (some b)] 94 (0, 0))) := Lib.hid ((hgrow2.block _ (row_lt H1'.out) (fun e => by have h7 := (h2'.lt _ e.symm).1; omega)).trans H1'.out)
       have hc0'' : w2.cell? ⟨b + 1, 0, none⟩ = some (.slice ao D.length cap) := row_cell H1''.out (j := 0) rfl
       have hfz : w2.frozen? ⟨b + 1, 0, none⟩ = false := row_thaw H1''.out 0))
  go_ret
  have hu1 : Below b w w1 := below_of_grown hgrow1 (by have h7 := row_lt H1.out; omega) (fun k e => by injection e with e; omega)
  have hu2 : Below b w1 w2 := below_of_grown hgrow2 (by omega) (fun k e => by have h7 := (h2'.lt _ e).1; omega)
  have HU3 := Upd.set w2 ⟨b + 1, 0, none⟩ (.slice ao2 (D.length + 1) cap2)
  have hu3 : Below b w2 (w2.setCell ⟨b + 1, 0, none⟩ (.slice ao2 (D.length + 1) cap2)) := HU3.below (by have := hu2.size; omega) (fun k _ hk => by subst hk; show b ≤ b + 1; omega)
  refine ⟨rfl, Lib.hid ⟨.slice ao2 (D.length + 1) cap2, _, row_set H1''.out 0 _, ?_, ?_, H4.out, H5.out⟩, (hu1.trans hu2).trans hu3⟩
  · have h8 := HU3.own hown2 (fun k hk e => by have h7 := (hown2.lt k hk).1; subst e; simp at h7)
    simpa [strV] using h8
  · have h8 := (hown1.kept hgrow2 (fun e => by have h7 := (h2'.lt _ e.symm).1; omega)).setCell (a := ⟨b + 1, 0, none⟩) (by show b ≠ b + 1; omega) (.slice ao2 (D.length + 1) cap2)
    simpa using h8
end Go.Proofs.YtihoemimiplhfaaDoor
