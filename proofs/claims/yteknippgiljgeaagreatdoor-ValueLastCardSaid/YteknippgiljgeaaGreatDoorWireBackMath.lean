/-
  Records that were written are read again, one behind the other, and in groups.
-/
import Derived.Test.YteknippgiljgeaaGreatDoorWireNumMath
import Derived.Test.YteknippgiljgeaaGreatDoorWireMath
namespace Go.Proofs.YteknippgiljgeaaGreatDoor

theorem whd_vput {num ty : Nat} (u : List UInt8) (h1 : 1 ≤ num) (h2 : num ≤ 536870911) (h3 : ty ≤ 5) : whd (vput (8 * num + ty) ++ u) = .ok (num, ty, (vput (8 * num + ty)).length) := by
  have hv := wv_vput (8 * num + ty) u (by omega)
  have := whd_ok hv (by omega) (by omega) (by omega)
  rw [show (8 * num + ty) / 8 = num by omega, show (8 * num + ty) % 8 = ty by omega] at this
  exact this
/-- t is the text of the record r, which is no group, whatever stands behind it -/
def Txt (t : List UInt8) (r : Rec) : Prop := r.raw = t ∧ r.ty ≠ 3 ∧ r.ty ≠ 4 ∧ ∃ j k, j + k = t.length ∧ 1 ≤ j ∧ ∀ u, whd (t ++ u) = .ok (r.num, r.ty, j) ∧ wbd ((t ++ u).drop j) r.ty = .ok (r.n, r.s, k)
theorem txt_wnx {t : List UInt8} {r : Rec} (h : Txt t r) (u : List UInt8) (d : Int) : wnx (t ++ u) d = .ok (r, t.length) := by
  obtain ⟨h1, h2, h3, j, k, hjk, hj, hu⟩ := h
  obtain ⟨ha, hb⟩ := hu u
  unfold wnx
  rw [ha]
  dsimp only
  rw [if_neg h3, if_neg h2, hb]
  dsimp only
  rw [hjk, List.take_left, ← h1]
theorem txt_group {t : List UInt8} {r : Rec} (h : Txt t r) (u : List UInt8) {st : List Nat} {d : Int} (h0 : st ≠ []) (hd : (st.length : Int) ≤ d) : wgroup (t ++ u) st d = wadd t.length (wgroup u st d) := by
  obtain ⟨_, h2, h3, j, k, hjk, _, hu⟩ := h
  obtain ⟨ha, hb⟩ := hu u
  rw [wgroup_bodyOk h0 hd ha h2 h3 hb, hjk, List.drop_left]
theorem txt_ne {t : List UInt8} {r : Rec} (h : Txt t r) : t ≠ [] := by
  obtain ⟨_, _, _, j, k, hjk, hj, _⟩ := h
  intro e
  subst e
  simp at hjk
  omega
/-- a tag and a body -/
theorem txt_mk {num ty n : Nat} {s rest : List UInt8} (h1 : 1 ≤ num) (h2 : num ≤ 536870911) (h3 : ty = 0 ∨ ty = 1 ∨ ty = 2) (hb : ∀ u, wbd (rest ++ u) ty = .ok (n, s, rest.length)) :
    Txt (vput (8 * num + ty) ++ rest) ⟨num, ty, n, s, vput (8 * num + ty) ++ rest⟩ := by
  refine ⟨rfl, by show ty ≠ 3; omega, by show ty ≠ 4; omega, (vput (8 * num + ty)).length, rest.length, by simp, (vput_length _).1, fun u => ⟨?_, ?_⟩⟩
  · rw [List.append_assoc]; exact whd_vput _ h1 h2 (by omega)
  · rw [List.append_assoc, List.drop_left]; exact hb u
theorem txt_num {num n : Nat} (h1 : 1 ≤ num) (h2 : num ≤ 536870911) (hn : n < 2 ^ 64) : Txt (vput (8 * num + 0) ++ vput n) ⟨num, 0, n, [], vput (8 * num + 0) ++ vput n⟩ :=
  txt_mk h1 h2 (.inl rfl) fun u => by
    unfold wbd
    rw [if_neg (by decide), if_neg (by decide), wv_vput n u hn]
    rfl
theorem txt_fixed {num n : Nat} (h1 : 1 ≤ num) (h2 : num ≤ 536870911) (hn : n < 2 ^ 64) : Txt (vput (8 * num + 1) ++ eight 8 n) ⟨num, 1, n, [], vput (8 * num + 1) ++ eight 8 n⟩ :=
  txt_mk h1 h2 (.inr (.inl rfl)) fun u => by
    have hl := eight_len 8 n
    unfold wbd
    rw [if_pos rfl, if_neg (by simp; omega), List.take_append_of_le_length (by omega), List.take_of_length_le (by omega), wlit_eight 8 n hn, hl]
theorem txt_bytes {num : Nat} {s : List UInt8} (h1 : 1 ≤ num) (h2 : num ≤ 536870911) (hs : s.length < 2 ^ 64) : Txt (vput (8 * num + 2) ++ (vput s.length ++ s)) ⟨num, 2, 0, s, vput (8 * num + 2) ++ (vput s.length ++ s)⟩ :=
  txt_mk h1 h2 (.inr (.inr rfl)) fun u => by
    unfold wbd
    rw [if_neg (by decide), if_neg (by decide), List.append_assoc, wv_vput s.length (s ++ u) hs]
    dsimp only
    rw [if_neg (by decide), if_neg (by simp), List.drop_left, List.take_left]
    simp
/-- texts one behind the other -/
theorem txts_wall : ∀ (rs : List Rec) (d : Int), (∀ r ∈ rs, Txt r.raw r) → wall (rs.flatMap Rec.raw) d = .ok rs
  | [], d, _ => wall_nil d
  | r :: rs, d, h => by
    have hr := h r List.mem_cons_self
    rw [List.flatMap_cons, wall_cons (txt_wnx hr _ d), List.drop_left, txts_wall rs d fun x hx => h x (List.mem_cons_of_mem _ hx)]
theorem txts_group : ∀ (rs : List Rec) (u : List UInt8) {st : List Nat} {d : Int}, (∀ r ∈ rs, Txt r.raw r) → st ≠ [] → (st.length : Int) ≤ d → wgroup (rs.flatMap Rec.raw ++ u) st d = wadd (rs.flatMap Rec.raw).length (wgroup u st d)
  | [], u, st, d, _, _, _ => by simp [wadd_zero]
  | r :: rs, u, st, d, h, h0, hd => by
    rw [List.flatMap_cons, List.append_assoc, txt_group (h r List.mem_cons_self) _ h0 hd, txts_group rs u (fun x hx => h x (List.mem_cons_of_mem _ hx)) h0 hd, wadd_add, List.length_append]
/-- groups, one in the other: the innermost one has the number 1 -/
def nest : Nat → List UInt8 → List UInt8
  | 0, c => c
  | i + 1, c => vput (8 * (i + 1) + 3) ++ nest i c ++ vput (8 * (i + 1) + 4)
theorem nest_group : ∀ (i : Nat) (rs : List Rec) (u : List UInt8) {st : List Nat} {d : Int}, i ≤ 1000 → (∀ r ∈ rs, Txt r.raw r) → st ≠ [] → ((st.length + i : Nat) : Int) ≤ d →
    wgroup (nest i (rs.flatMap Rec.raw) ++ u) st d = wadd (nest i (rs.flatMap Rec.raw)).length (wgroup u st d)
  | 0, rs, u, st, d, _, h, h0, hd => txts_group rs u h h0 (by omega)
  | i + 1, rs, u, st, d, hi, h, h0, hd => by
    have e : nest (i + 1) (rs.flatMap Rec.raw) ++ u = vput (8 * (i + 1) + 3) ++ (nest i (rs.flatMap Rec.raw) ++ (vput (8 * (i + 1) + 4) ++ u)) := by simp [nest]
    rw [e, wgroup_begin h0 (by omega) (whd_vput _ (by omega) (by omega) (by omega)), List.drop_left, nest_group i rs _ (by omega) h (by simp) (by simp; omega),
      wgroup_end (by simp; omega) (whd_vput u (by omega) (by omega) (by omega)), List.drop_left, wadd_add, wadd_add]
    congr 1
    simp [nest]
    omega
theorem nest_deep : ∀ (i : Nat) (c u : List UInt8) {st : List Nat} {d : Int}, i ≤ 1000 → st ≠ [] → d < ((st.length + i : Nat) : Int) → wgroup (nest i c ++ u) st d = .error 6
  | 0, c, u, st, d, _, h0, hd => wgroup_deep h0 (by omega)
  | i + 1, c, u, st, d, hi, h0, hd => by
    by_cases hd' : d < (st.length : Int)
    · exact wgroup_deep h0 hd'
    · have e : nest (i + 1) c ++ u = vput (8 * (i + 1) + 3) ++ (nest i c ++ (vput (8 * (i + 1) + 4) ++ u)) := by simp [nest]
      rw [e, wgroup_begin h0 (by omega) (whd_vput _ (by omega) (by omega) (by omega)), List.drop_left, nest_deep i c _ (by omega) (by simp) (by simp; omega)]
      rfl
theorem nest_wnx (i : Nat) (rs : List Rec) (d : Int) (hi : i ≤ 1000) (h : ∀ r ∈ rs, Txt r.raw r) (hd : ((i + 1 : Nat) : Int) ≤ d) :
    wnx (nest (i + 1) (rs.flatMap Rec.raw)) d = .ok (⟨i + 1, 3, 0, [], nest (i + 1) (rs.flatMap Rec.raw)⟩, (nest (i + 1) (rs.flatMap Rec.raw)).length) := by
  have e : nest (i + 1) (rs.flatMap Rec.raw) = vput (8 * (i + 1) + 3) ++ (nest i (rs.flatMap Rec.raw) ++ (vput (8 * (i + 1) + 4) ++ [])) := by simp [nest]
  have hh := whd_vput (num := i + 1) (ty := 3) (nest i (rs.flatMap Rec.raw) ++ (vput (8 * (i + 1) + 4) ++ [])) (by omega) (by omega) (by omega)
  rw [← e] at hh
  have hg : wgroup ((nest (i + 1) (rs.flatMap Rec.raw)).drop (vput (8 * (i + 1) + 3)).length) [i + 1] d = .ok ((nest i (rs.flatMap Rec.raw)).length + (vput (8 * (i + 1) + 4)).length) := by
    rw [e, List.drop_left, nest_group i rs _ hi h (by simp) (by simp; omega), wgroup_end (by simp; omega) (whd_vput [] (by omega) (by omega) (by omega)), List.drop_left, wgroup_nil]
    rfl
  have hl : (nest (i + 1) (rs.flatMap Rec.raw)).length = (vput (8 * (i + 1) + 3)).length + ((nest i (rs.flatMap Rec.raw)).length + (vput (8 * (i + 1) + 4)).length) := by simp [nest]
  unfold wnx
  rw [hh]
  dsimp only
  rw [if_neg (by decide), if_pos rfl, hg]
  dsimp only
  rw [← hl, List.take_length]
theorem nest_wall (i : Nat) (rs : List Rec) (d : Int) (hi : i ≤ 1000) (h : ∀ r ∈ rs, Txt r.raw r) (hd : ((i + 1 : Nat) : Int) ≤ d) :
    wall (nest (i + 1) (rs.flatMap Rec.raw)) d = .ok [⟨i + 1, 3, 0, [], nest (i + 1) (rs.flatMap Rec.raw)⟩] := by
  rw [wall_cons (nest_wnx i rs d hi h hd), List.drop_length, wall_nil]
theorem nest_no (i : Nat) (c : List UInt8) (d : Int) (hi : i ≤ 1000) (hd : d < ((i + 1 : Nat) : Int)) : wall (nest (i + 1) c) d = .error 6 := by
  have e : nest (i + 1) c = vput (8 * (i + 1) + 3) ++ (nest i c ++ (vput (8 * (i + 1) + 4) ++ [])) := by simp [nest]
  have hh := whd_vput (num := i + 1) (ty := 3) (nest i c ++ (vput (8 * (i + 1) + 4) ++ [])) (by omega) (by omega) (by omega)
  rw [← e] at hh
  have hg : wgroup ((nest (i + 1) c).drop (vput (8 * (i + 1) + 3)).length) [i + 1] d = .error 6 := by
    rw [e, List.drop_left]
    exact nest_deep i c _ hi (by simp) (by simp; omega)
  refine wall_no ?_ ?_
  · intro h0
    rw [e] at h0
    exact vput_ne _ (List.append_eq_nil_iff.1 h0).1
  · unfold wnx
    rw [hh]
    dsimp only
    rw [if_neg (by decide), if_pos rfl, hg]
end Go.Proofs.YteknippgiljgeaaGreatDoor
