/-
  Numbers packed come back.
-/
/-
  Records that were written are read again, one behind the other, and in groups.
-/
/-
  Records cut off where they end; messages read by a table; what no table takes.
-/
import Derived.Test.YtandoppfbilhbaaGreatDoorWireP
import Derived.Test.YtandoppfbilhbaaGreatDoorWireMath
namespace Go.Proofs.YtandoppfbilhbaaGreatDoor

theorem wlit_eight : ∀ (k n : Nat), n < 256 ^ k → wlit (eight k n) = n
  | 0, n, h => by simp at h; subst h; rfl
  | k + 1, n, h => by
    have hd : n / 256 < 256 ^ k := by rw [Nat.pow_succ] at h; omega
    simp only [eight, wlit]
    rw [wlit_eight k (n / 256) hd, ofNat_toNat (by omega)]
    omega
theorem eight_len : ∀ (k n : Nat), (eight k n).length = k
  | 0, _ => rfl
  | k + 1, n => by simp [eight, eight_len k]
/-- all of them, eight bytes each -/
def eights (l : List Nat) : List UInt8 := l.flatMap (eight 8)
theorem eights_len (l : List Nat) : (eights l).length = 8 * l.length := by
  induction l with
  | nil => rfl
  | cons n l ih => simp only [eights, List.flatMap_cons, List.length_append, eight_len, List.length_cons] at *; omega
theorem eights_take (l : List Nat) (k : Nat) (h : k < l.length) : eights (l.take (k + 1)) = eights (l.take k) ++ eight 8 l[k] := by
  unfold eights
  rw [List.take_succ_eq_append_getElem h, List.flatMap_append]
  simp
theorem eights_at : ∀ (l : List Nat) (i : Nat) (h : i < l.length), ((eights l).drop (8 * i)).take 8 = eight 8 l[i]
  | [], i, h => by simp at h
  | n :: l, 0, h => by
    have : eights (n :: l) = eight 8 n ++ eights l := rfl
    rw [this, Nat.mul_zero, List.drop_zero, List.take_append_of_le_length (by rw [eight_len]; omega), List.take_of_length_le (by rw [eight_len]; omega)]
    rfl
  | n :: l, i + 1, h => by
    have : eights (n :: l) = eight 8 n ++ eights l := rfl
    have hl := eight_len 8 n
    rw [this, List.drop_append, List.drop_eq_nil_of_le (by omega), List.nil_append, hl, show 8 * (i + 1) - 8 = 8 * i by omega]
    exact eights_at l i (by simpa using h)
theorem fixs_eights (l : List Nat) (hl : ∀ n ∈ l, n < 2 ^ 64) : fixs (eights l) l.length = l := by
  apply List.ext_getElem (by simp [fixs])
  intro i h1 h2
  simp only [fixs, List.getElem_map, List.getElem_range]
  rw [eights_at l i h2]
  exact wlit_eight 8 _ (hl _ (List.getElem_mem h2))
theorem wv_vput (n : Nat) (t : List UInt8) (h : n < 2 ^ 64) : wv (vput n ++ t) = .ok (n, (vput n).length) := by
  have := vgetGo_vputF 9 0 0 n t rfl (by omega)
  simpa [wv, vput] using this
theorem wvars_vputs : ∀ (l : List Nat), (∀ n ∈ l, n < 2 ^ 64) → wvars (vputs l) = .ok l
  | [], _ => rfl
  | n :: l, h => by
    have e : vputs (n :: l) = vput n ++ vputs l := rfl
    have hv := wv_vput n (vputs l) (h n List.mem_cons_self)
    rw [← e] at hv
    rw [wvars_cons hv, e, List.drop_left]
    rw [wvars_vputs l (fun m hm => h m (List.mem_cons_of_mem _ hm))]
end Go.Proofs.YtandoppfbilhbaaGreatDoor
namespace Go.Proofs.YtandoppfbilhbaaGreatDoor

theorem whd_vput {num ty : Nat} (u : List UInt8) (h1 : 1 ≤ num) (h2 : num ≤ 536870911) (h3 : ty ≤ 5) : whd (vput (8 * num + ty) ++ u) = .ok (num, ty, (vput (8 * num + ty)).length) := by
  have hv := wv_vput (8 * num + ty) u (by omega)
  have := whd_ok hv (by omega) (by omega) (by omega)
  rw [show (8 * num + ty) / 8 = num by omega, show (8 * num + ty) % 8 = ty by omega] at this
  exact this
/-- t is the text of the record r, which is no group, whatever stands behind it -/
def Txt (t : List UInt8) (r : Rec) : Prop := r.raw = t ∧ r.ty ≠ 3 ∧ r.ty ≠ 4 ∧ ∃ j k, j + k = t.length ∧ 1 ≤ j ∧ ∀ u, whd (t ++ u) = .ok (r.num, r.ty, j) ∧ wbd ((t ++ u).drop j) r.ty = .ok (r.n, r.s, k)
theorem txt_wnx {t : List UInt8} {r : Rec} (h : Txt t r) (u : List UInt8) (d : Int) : wnx (t ++ u) d = .ok (r, t.length) := by
  obtain ⟨h1, h2, h3, j, k, hjk, hj, hu⟩ := h
  obtain ⟨ha, hb⟩ := hu u
  unfold wnx
  rw [ha]
  dsimp only
  rw [if_neg h3, if_neg h2, hb]
  dsimp only
  rw [hjk, List.take_left, ← h1]
theorem txt_group {t : List UInt8} {r : Rec} (h : Txt t r) (u : List UInt8) {st : List Nat} {d : Int} (h0 : st ≠ []) (hd : (st.length : Int) ≤ d) : wgroup (t ++ u) st d = wadd t.length (wgroup u st d) := by
  obtain ⟨_, h2, h3, j, k, hjk, _, hu⟩ := h
  obtain ⟨ha, hb⟩ := hu u
  rw [wgroup_bodyOk h0 hd ha h2 h3 hb, hjk, List.drop_left]
theorem txt_ne {t : List UInt8} {r : Rec} (h : Txt t r) : t ≠ [] := by
  obtain ⟨_, _, _, j, k, hjk, hj, _⟩ := h
  intro e
  subst e
  simp at hjk
  omega
/-- a tag and a body -/
theorem txt_mk {num ty n : Nat} {s rest : List UInt8} (h1 : 1 ≤ num) (h2 : num ≤ 536870911) (h3 : ty = 0 ∨ ty = 1 ∨ ty = 2) (hb : ∀ u, wbd (rest ++ u) ty = .ok (n, s, rest.length)) :
    Txt (vput (8 * num + ty) ++ rest) ⟨num, ty, n, s, vput (8 * num + ty) ++ rest⟩ := by
  refine ⟨rfl, by show ty ≠ 3; omega, by show ty ≠ 4; omega, (vput (8 * num + ty)).length, rest.length, by simp, (vput_length _).1, fun u => ⟨?_, ?_⟩⟩
  · rw [List.append_assoc]; exact whd_vput _ h1 h2 (by omega)
  · rw [List.append_assoc, List.drop_left]; exact hb u
theorem txt_num {num n : Nat} (h1 : 1 ≤ num) (h2 : num ≤ 536870911) (hn : n < 2 ^ 64) : Txt (vput (8 * num + 0) ++ vput n) ⟨num, 0, n, [], vput (8 * num + 0) ++ vput n⟩ :=
  txt_mk h1 h2 (.inl rfl) fun u => by
    unfold wbd
    rw [if_neg (by decide), if_neg (by decide), wv_vput n u hn]
    rfl
theorem txt_fixed {num n : Nat} (h1 : 1 ≤ num) (h2 : num ≤ 536870911) (hn : n < 2 ^ 64) : Txt (vput (8 * num + 1) ++ eight 8 n) ⟨num, 1, n, [], vput (8 * num + 1) ++ eight 8 n⟩ :=
  txt_mk h1 h2 (.inr (.inl rfl)) fun u => by
    have hl := eight_len 8 n
    unfold wbd
    rw [if_pos rfl, if_neg (by simp; omega), List.take_append_of_le_length (by omega), List.take_of_length_le (by omega), wlit_eight 8 n hn, hl]
theorem txt_bytes {num : Nat} {s : List UInt8} (h1 : 1 ≤ num) (h2 : num ≤ 536870911) (hs : s.length < 2 ^ 64) : Txt (vput (8 * num + 2) ++ (vput s.length ++ s)) ⟨num, 2, 0, s, vput (8 * num + 2) ++ (vput s.length ++ s)⟩ :=
  txt_mk h1 h2 (.inr (.inr rfl)) fun u => by
    unfold wbd
    rw [if_neg (by decide), if_neg (by decide), List.append_assoc, wv_vput s.length (s ++ u) hs]
    dsimp only
    rw [if_neg (by decide), if_neg (by simp), List.drop_left, List.take_left]
    simp
/-- texts one behind the other -/
theorem txts_wall : ∀ (rs : List Rec) (d : Int), (∀ r ∈ rs, Txt r.raw r) → wall (rs.flatMap Rec.raw) d = .ok rs
  | [], d, _ => wall_nil d
  | r :: rs, d, h => by
    have hr := h r List.mem_cons_self
    rw [List.flatMap_cons, wall_cons (txt_wnx hr _ d), List.drop_left, txts_wall rs d fun x hx => h x (List.mem_cons_of_mem _ hx)]
theorem txts_group : ∀ (rs : List Rec) (u : List UInt8) {st : List Nat} {d : Int}, (∀ r ∈ rs, Txt r.raw r) → st ≠ [] → (st.length : Int) ≤ d → wgroup (rs.flatMap Rec.raw ++ u) st d = wadd (rs.flatMap Rec.raw).length (wgroup u st d)
  | [], u, st, d, _, _, _ => by simp [wadd_zero]
  | r :: rs, u, st, d, h, h0, hd => by
    rw [List.flatMap_cons, List.append_assoc, txt_group (h r List.mem_cons_self) _ h0 hd, txts_group rs u (fun x hx => h x (List.mem_cons_of_mem _ hx)) h0 hd, wadd_add, List.length_append]
/-- groups, one in the other: the innermost one has the number 1 -/
def nest : Nat → List UInt8 → List UInt8
  | 0, c => c
  | i + 1, c => vput (8 * (i + 1) + 3) ++ nest i c ++ vput (8 * (i + 1) + 4)
theorem nest_group : ∀ (i : Nat) (rs : List Rec) (u : List UInt8) {st : List Nat} {d : Int}, i ≤ 1000 → (∀ r ∈ rs, Txt r.raw r) → st ≠ [] → ((st.length + i : Nat) : Int) ≤ d →
    wgroup (nest i (rs.flatMap Rec.raw) ++ u) st d = wadd (nest i (rs.flatMap Rec.raw)).length (wgroup u st d)
  | 0, rs, u, st, d, _, h, h0, hd => txts_group rs u h h0 (by omega)
  | i + 1, rs, u, st, d, hi, h, h0, hd => by
    have e : nest (i + 1) (rs.flatMap Rec.raw) ++ u = vput (8 * (i + 1) + 3) ++ (nest i (rs.flatMap Rec.raw) ++ (vput (8 * (i + 1) + 4) ++ u)) := by simp [nest]
    rw [e, wgroup_begin h0 (by omega) (whd_vput _ (by omega) (by omega) (by omega)), List.drop_left, nest_group i rs _ (by omega) h (by simp) (by simp; omega),
      wgroup_end (by simp; omega) (whd_vput u (by omega) (by omega) (by omega)), List.drop_left, wadd_add, wadd_add]
    congr 1
    simp [nest]
    omega
theorem nest_deep : ∀ (i : Nat) (c u : List UInt8) {st : List Nat} {d : Int}, i ≤ 1000 → st ≠ [] → d < ((st.length + i : Nat) : Int) → wgroup (nest i c ++ u) st d = .error 6
  | 0, c, u, st, d, _, h0, hd => wgroup_deep h0 (by omega)
  | i + 1, c, u, st, d, hi, h0, hd => by
    by_cases hd' : d < (st.length : Int)
    · exact wgroup_deep h0 hd'
    · have e : nest (i + 1) c ++ u = vput (8 * (i + 1) + 3) ++ (nest i c ++ (vput (8 * (i + 1) + 4) ++ u)) := by simp [nest]
      rw [e, wgroup_begin h0 (by omega) (whd_vput _ (by omega) (by omega) (by omega)), List.drop_left, nest_deep i c _ (by omega) (by simp) (by simp; omega)]
      rfl
theorem nest_wnx (i : Nat) (rs : List Rec) (d : Int) (hi : i ≤ 1000) (h : ∀ r ∈ rs, Txt r.raw r) (hd : ((i + 1 : Nat) : Int) ≤ d) :
    wnx (nest (i + 1) (rs.flatMap Rec.raw)) d = .ok (⟨i + 1, 3, 0, [], nest (i + 1) (rs.flatMap Rec.raw)⟩, (nest (i + 1) (rs.flatMap Rec.raw)).length) := by
  have e : nest (i + 1) (rs.flatMap Rec.raw) = vput (8 * (i + 1) + 3) ++ (nest i (rs.flatMap Rec.raw) ++ (vput (8 * (i + 1) + 4) ++ [])) := by simp [nest]
  have hh := whd_vput (num := i + 1) (ty := 3) (nest i (rs.flatMap Rec.raw) ++ (vput (8 * (i + 1) + 4) ++ [])) (by omega) (by omega) (by omega)
  rw [← e] at hh
  have hg : wgroup ((nest (i + 1) (rs.flatMap Rec.raw)).drop (vput (8 * (i + 1) + 3)).length) [i + 1] d = .ok ((nest i (rs.flatMap Rec.raw)).length + (vput (8 * (i + 1) + 4)).length) := by
    rw [e, List.drop_left, nest_group i rs _ hi h (by simp) (by simp; omega), wgroup_end (by simp; omega) (whd_vput [] (by omega) (by omega) (by omega)), List.drop_left, wgroup_nil]
    rfl
  have hl : (nest (i + 1) (rs.flatMap Rec.raw)).length = (vput (8 * (i + 1) + 3)).length + ((nest i (rs.flatMap Rec.raw)).length + (vput (8 * (i + 1) + 4)).length) := by simp [nest]
  unfold wnx
  rw [hh]
  dsimp only
  rw [if_neg (by decide), if_pos rfl, hg]
  dsimp only
  rw [← hl, List.take_length]
theorem nest_wall (i : Nat) (rs : List Rec) (d : Int) (hi : i ≤ 1000) (h : ∀ r ∈ rs, Txt r.raw r) (hd : ((i + 1 : Nat) : Int) ≤ d) :
    wall (nest (i + 1) (rs.flatMap Rec.raw)) d = .ok [⟨i + 1, 3, 0, [], nest (i + 1) (rs.flatMap Rec.raw)⟩] := by
  rw [wall_cons (nest_wnx i rs d hi h hd), List.drop_length, wall_nil]
theorem nest_no (i : Nat) (c : List UInt8) (d : Int) (hi : i ≤ 1000) (hd : d < ((i + 1 : Nat) : Int)) : wall (nest (i + 1) c) d = .error 6 := by
  have e : nest (i + 1) c = vput (8 * (i + 1) + 3) ++ (nest i c ++ (vput (8 * (i + 1) + 4) ++ [])) := by simp [nest]
  have hh := whd_vput (num := i + 1) (ty := 3) (nest i c ++ (vput (8 * (i + 1) + 4) ++ [])) (by omega) (by omega) (by omega)
  rw [← e] at hh
  have hg : wgroup ((nest (i + 1) c).drop (vput (8 * (i + 1) + 3)).length) [i + 1] d = .error 6 := by
    rw [e, List.drop_left]
    exact nest_deep i c _ hi (by simp) (by simp; omega)
  refine wall_no ?_ ?_
  · intro h0
    rw [e] at h0
    exact vput_ne _ (List.append_eq_nil_iff.1 h0).1
  · unfold wnx
    rw [hh]
    dsimp only
    rw [if_neg (by decide), if_pos rfl, hg]
end Go.Proofs.YtandoppfbilhbaaGreatDoor
namespace Go.Proofs.YtandoppfbilhbaaGreatDoor

theorem vgetGo_lt : ∀ (f k m : Nat) (l : List UInt8) {n j : Nat}, vgetGo f k m l = .ok (n, j) → k < j
  | 0, k, m, l, n, j, h => by simp [vgetGo] at h
  | f + 1, k, m, [], n, j, h => by simp [vgetGo] at h
  | f + 1, k, m, c :: r, n, j, h => by
    simp only [vgetGo] at h
    split at h
    · simp at h
    · split at h
      · simp at h; omega
      · have := vgetGo_lt f _ _ r h; omega
theorem vgetGo_back : ∀ (f k m : Nat) (l t : List UInt8) {n j : Nat}, vgetGo f k m (l ++ t) = .ok (n, j) → j ≤ k + l.length → vgetGo f k m l = .ok (n, j)
  | 0, k, m, l, t, n, j, h, _ => by simp [vgetGo] at h
  | f + 1, k, m, [], t, n, j, h, hj => by
    have := vgetGo_lt _ _ _ _ h
    simp at hj; omega
  | f + 1, k, m, c :: r, t, n, j, h, hj => by
    simp only [vgetGo, List.cons_append] at h ⊢
    split at h
    · simp at h
    · rename_i h1
      rw [if_neg h1]
      split at h
      · rename_i h2
        rw [if_pos h2]; exact h
      · rename_i h2
        rw [if_neg h2]
        exact vgetGo_back f _ _ r t h (by simp at hj; omega)
theorem wv_back {l t : List UInt8} {n j : Nat} (h : wv (l ++ t) = .ok (n, j)) (hj : j ≤ l.length) : wv l = .ok (n, j) := vgetGo_back _ _ _ _ t h (by omega)
theorem whd_back {l t : List UInt8} {num ty j : Nat} (h : whd (l ++ t) = .ok (num, ty, j)) (hj : j ≤ l.length) : whd l = .ok (num, ty, j) := by
  have hb := whd_bounds h
  have h1 := wv_back hb.2.2.2.2.2 hj
  have := whd_ok h1 (by omega) (by omega) (by omega)
  rw [this, show (8 * num + ty) / 8 = num by omega, show (8 * num + ty) % 8 = ty by omega]
theorem wbd_back {l t : List UInt8} {ty n k : Nat} {s : List UInt8} (h : wbd (l ++ t) ty = .ok (n, s, k)) (hk : k ≤ l.length) : wbd l ty = .ok (n, s, k) := by
  have hb := wbd_bounds h
  unfold wbd at h ⊢
  split at h
  · rename_i h1
    rw [if_pos h1]
    split at h
    · cases h
    · have h8 : k = 8 := by simp only [Except.ok.injEq, Prod.mk.injEq] at h; omega
      rw [List.take_append_of_le_length (by omega)] at h
      rw [if_neg (by omega)]
      exact h
  · rename_i h1
    rw [if_neg h1]
    split at h
    · rename_i h2
      rw [if_pos h2]
      split at h
      · cases h
      · have h4 : k = 4 := by simp only [Except.ok.injEq, Prod.mk.injEq] at h; omega
        rw [List.take_append_of_le_length (by omega)] at h
        rw [if_neg (by omega)]
        exact h
    · rename_i h2
      rw [if_neg h2]
      cases hv : wv (l ++ t) with
      | error c => rw [hv] at h; cases h
      | ok x =>
        obtain ⟨m, j⟩ := x
        rw [hv] at h
        have hvb := wv_bounds hv
        dsimp only at h
        split at h
        · rename_i h3
          have hjk : j = k := by simp only [Except.ok.injEq, Prod.mk.injEq] at h; omega
          rw [wv_back hv (by omega)]
          dsimp only
          rw [if_pos h3]
          exact h
        · rename_i h3
          split at h
          · cases h
          · rename_i h4
            have hjk : k = j + m := by simp only [Except.ok.injEq, Prod.mk.injEq] at h; omega
            rw [wv_back hv (by omega)]
            dsimp only
            rw [if_neg h3, if_neg (by omega)]
            rw [List.drop_append_of_le_length (by omega), List.take_append_of_le_length (by simp; omega)] at h
            exact h
theorem wgr_back : ∀ (f : Nat) {l : List UInt8} {st : List Nat} {d : Int} {k : Nat} (t : List UInt8), l.length < f → k ≤ l.length → ∀ g, (l ++ t).length < g → wgr g (l ++ t) st d = .ok k → wgr f l st d = .ok k
  | 0, _, _, _, _, _, h, _, _, _, _ => by omega
  | f + 1, l, st, d, k, t, hf, hk, g, hg, h => by
    obtain ⟨g, rfl⟩ : ∃ g', g = g' + 1 := ⟨g - 1, by omega⟩
    rw [wgr] at h ⊢
    split at h
    · rename_i h0
      rw [if_pos h0]; exact h
    · rename_i h0
      rw [if_neg h0]
      split at h
      · cases h
      · rename_i h1
        rw [if_neg h1]
        cases hh : whd (l ++ t) with
        | error c => rw [hh] at h; cases h
        | ok x =>
          obtain ⟨num, ty, j⟩ := x
          rw [hh] at h
          have hb := whd_bounds hh
          have hgl : l.length + t.length < g + 1 := by simpa using hg
          dsimp only at h
          split at h
          · rename_i h3
            obtain ⟨i, hi, rfl⟩ := wadd_ok h
            have hd : (l ++ t).drop j = l.drop j ++ t := List.drop_append_of_le_length (by omega)
            rw [whd_back hh (by omega)]
            dsimp only
            rw [if_pos h3]
            rw [hd] at hi
            rw [wgr_back f t (by simp; omega) (by simp; omega) g (by simp; omega) hi]; rfl
          · rename_i h3
            split at h
            · rename_i h4
              split at h
              · rename_i h5
                obtain ⟨i, hi, rfl⟩ := wadd_ok h
                have hd : (l ++ t).drop j = l.drop j ++ t := List.drop_append_of_le_length (by omega)
                rw [whd_back hh (by omega)]
                dsimp only
                rw [if_neg h3, if_pos h4, if_pos h5]
                rw [hd] at hi
                rw [wgr_back f t (by simp; omega) (by simp; omega) g (by simp; omega) hi]; rfl
              · cases h
            · rename_i h4
              cases hbd : wbd ((l ++ t).drop j) ty with
              | error c => rw [hbd] at h; cases h
              | ok y =>
                obtain ⟨n, s, m⟩ := y
                rw [hbd] at h
                dsimp only at h
                obtain ⟨i, hi, rfl⟩ := wadd_ok h
                have hd : (l ++ t).drop j = l.drop j ++ t := List.drop_append_of_le_length (by omega)
                have hd2 : (l ++ t).drop (j + m) = l.drop (j + m) ++ t := List.drop_append_of_le_length (by omega)
                rw [whd_back hh (by omega)]
                dsimp only
                rw [if_neg h3, if_neg h4]
                rw [hd] at hbd
                rw [wbd_back hbd (by simp; omega)]
                dsimp only
                rw [hd2] at hi
                have hm1 := (wbd_bounds hbd).1
                rw [wgr_back f t (by simp; omega) (by simp; omega) g (by simp; omega) hi]; rfl
/-- a record is the same where nothing follows it -/
theorem wnx_back {l t : List UInt8} {d : Int} {r : Rec} {q : Nat} (h : wnx (l ++ t) d = .ok (r, q)) (hq : q ≤ l.length) : wnx l d = .ok (r, q) := by
  unfold wnx at h ⊢
  cases hh : whd (l ++ t) with
  | error c => rw [hh] at h; cases h
  | ok x =>
    obtain ⟨num, ty, j⟩ := x
    rw [hh] at h
    have hb := whd_bounds hh
    dsimp only at h
    split at h
    · cases h
    · rename_i h4
      split at h
      · rename_i h3
        cases hg : wgroup ((l ++ t).drop j) [num] d with
        | error c => rw [hg] at h; cases h
        | ok k =>
          rw [hg] at h
          dsimp only at h
          have hjk : j + k = q := by simp only [Except.ok.injEq, Prod.mk.injEq] at h; exact h.2
          have hd : (l ++ t).drop j = l.drop j ++ t := List.drop_append_of_le_length (by omega)
          rw [whd_back hh (by omega)]
          dsimp only
          rw [if_neg h4, if_pos h3]
          rw [hd] at hg
          have e : wgroup (l.drop j) [num] d = .ok k := wgr_back _ t (Nat.lt_succ_self _) (by simp; omega) _ (Nat.lt_succ_self _) hg
          rw [e]
          dsimp only
          rw [List.take_append_of_le_length (by omega)] at h
          exact h
      · rename_i h3
        cases hbd : wbd ((l ++ t).drop j) ty with
        | error c => rw [hbd] at h; cases h
        | ok y =>
          obtain ⟨n, s, m⟩ := y
          rw [hbd] at h
          dsimp only at h
          have hjk : j + m = q := by simp only [Except.ok.injEq, Prod.mk.injEq] at h; exact h.2
          have hd : (l ++ t).drop j = l.drop j ++ t := List.drop_append_of_le_length (by omega)
          rw [whd_back hh (by omega)]
          dsimp only
          rw [if_neg h4, if_neg h3]
          rw [hd] at hbd
          rw [wbd_back hbd (by simp; omega)]
          dsimp only
          rw [List.take_append_of_le_length (by omega)] at h
          exact h
theorem wnx_raw {l : List UInt8} {d : Int} {r : Rec} {q : Nat} (h : wnx l d = .ok (r, q)) (u : List UInt8) : wnx (r.raw ++ u) d = .ok (r, r.raw.length) := by
  have hb := wnx_bounds h
  have e : l = l.take q ++ l.drop q := (List.take_append_drop q l).symm
  rw [e] at h
  have hl : (l.take q).length = q := by rw [List.length_take]; omega
  have h2 := wnx_append u (wnx_back h (by omega))
  rw [hb.2.2.1, hl]
  exact h2
theorem wnx_facts {l : List UInt8} {d : Int} {r : Rec} {q : Nat} (h : wnx l d = .ok (r, q)) : r.n < 2 ^ 64 ∧ r.s.length ≤ q := by
  unfold wnx at h
  cases hh : whd l with
  | error c => rw [hh] at h; cases h
  | ok x =>
    obtain ⟨num, ty, j⟩ := x
    rw [hh] at h
    dsimp only at h
    split at h
    · cases h
    · split at h
      · cases hg : wgroup (l.drop j) [num] d with
        | error c => rw [hg] at h; cases h
        | ok k =>
          rw [hg] at h
          simp only [Except.ok.injEq, Prod.mk.injEq] at h
          obtain ⟨rfl, rfl⟩ := h
          exact ⟨by show 0 < 2 ^ 64; decide, Nat.zero_le _⟩
      · cases hbd : wbd (l.drop j) ty with
        | error c => rw [hbd] at h; cases h
        | ok y =>
          obtain ⟨n, s, m⟩ := y
          rw [hbd] at h
          simp only [Except.ok.injEq, Prod.mk.injEq] at h
          obtain ⟨rfl, rfl⟩ := h
          have hb := wbd_bounds hbd
          refine ⟨?_, by show s.length ≤ j + m; omega⟩
          show n < 2 ^ 64
          unfold wbd at hbd
          split at hbd
          · split at hbd
            · cases hbd
            · simp only [Except.ok.injEq, Prod.mk.injEq] at hbd
              have := wlit_lt ((l.drop j).take 8)
              rw [hbd.1, List.length_take] at this
              have h8 : min 8 (l.drop j).length = 8 := by omega
              rw [h8] at this
              exact this
          · split at hbd
            · split at hbd
              · cases hbd
              · simp only [Except.ok.injEq, Prod.mk.injEq] at hbd
                have := wlit_lt ((l.drop j).take 4)
                rw [hbd.1, List.length_take] at this
                have h8 : min 4 (l.drop j).length = 4 := by omega
                rw [h8] at this
                omega
            · cases hv : wv (l.drop j) with
              | error c => rw [hv] at hbd; cases hbd
              | ok x =>
                obtain ⟨m', j'⟩ := x
                rw [hv] at hbd
                have hvb := (wv_bounds hv).2.2.2
                dsimp only at hbd
                split at hbd
                · simp only [Except.ok.injEq, Prod.mk.injEq] at hbd
                  omega
                · split at hbd
                  · cases hbd
                  · simp only [Except.ok.injEq, Prod.mk.injEq] at hbd
                    omega
/-- a record of a text -/
def IsRec (d : Int) (r : Rec) : Prop := ∀ u, wnx (r.raw ++ u) d = .ok (r, r.raw.length)
theorem isrec_facts {d : Int} {r : Rec} (h : IsRec d r) : r.n < 2 ^ 64 ∧ r.s.length ≤ r.raw.length ∧ 2 ≤ r.raw.length ∧ 1 ≤ r.num ∧ r.num ≤ 536870911 ∧ r.ty ≤ 5 := by
  have h1 := h []
  rw [List.append_nil] at h1
  have h2 := wnx_facts h1
  have h3 := wnx_bounds h1
  exact ⟨h2.1, h2.2, h3.1, h3.2.2.2⟩
theorem wall_recs : ∀ (n : Nat) {l : List UInt8} {d : Int} {rs : List Rec}, l.length ≤ n → wall l d = .ok rs → ∀ r ∈ rs, IsRec d r
  | n, l, d, rs, hn, h => by
    rcases wall_inv h with ⟨_, rfl⟩ | ⟨r, q, ks, h1, h2, rfl, h4, h5, h6⟩
    · intro r hr; cases hr
    · match n, hn with
      | 0, hn => omega
      | n + 1, hn =>
        intro x hx
        rcases List.mem_cons.1 hx with rfl | hx
        · exact wnx_raw h1
        · exact wall_recs n (by simp; omega) h2 x hx
theorem recs_wall : ∀ (rs : List Rec) (d : Int), (∀ r ∈ rs, IsRec d r) → wall (rs.flatMap Rec.raw) d = .ok rs
  | [], d, _ => wall_nil d
  | r :: rs, d, h => by
    have h1 := h r (List.mem_cons_self ..) (rs.flatMap Rec.raw)
    rw [List.flatMap_cons, wall_cons h1, List.drop_left, recs_wall rs d (fun x hx => h x (List.mem_cons_of_mem _ hx))]
theorem txt_isrec {t : List UInt8} {r : Rec} (h : Txt t r) (d : Int) : IsRec d r := fun u => by
  have := txt_wnx h u d
  have e : r.raw = t := h.1
  rw [e]; exact this
theorem wgr_deeper : ∀ (f : Nat) {l : List UInt8} {st : List Nat} {d d' : Int} {k : Nat}, d' ≤ d → wgr f l st d' = .ok k → wgr f l st d = .ok k
  | 0, _, _, _, _, _, _, h => by cases h
  | f + 1, l, st, d, d', k, hd, h => by
    rw [wgr] at h ⊢
    split at h
    · rename_i h0
      rw [if_pos h0]; exact h
    · rename_i h0
      rw [if_neg h0]
      split at h
      · cases h
      · rename_i h1
        rw [if_neg (by omega)]
        cases hh : whd l with
        | error c => rw [hh] at h; cases h
        | ok x =>
          obtain ⟨num, ty, j⟩ := x
          rw [hh] at h
          dsimp only at h ⊢
          split at h
          · rename_i h3
            rw [if_pos h3]
            obtain ⟨i, hi, rfl⟩ := wadd_ok h
            rw [wgr_deeper f hd hi]; rfl
          · rename_i h3
            rw [if_neg h3]
            split at h
            · rename_i h4
              rw [if_pos h4]
              split at h
              · rename_i h5
                rw [if_pos h5]
                obtain ⟨i, hi, rfl⟩ := wadd_ok h
                rw [wgr_deeper f hd hi]; rfl
              · cases h
            · rename_i h4
              rw [if_neg h4]
              cases hbd : wbd (l.drop j) ty with
              | error c => rw [hbd] at h; cases h
              | ok y =>
                obtain ⟨n, s, m⟩ := y
                rw [hbd] at h
                dsimp only at h ⊢
                obtain ⟨i, hi, rfl⟩ := wadd_ok h
                rw [wgr_deeper f hd hi]; rfl
theorem wnx_deeper {l : List UInt8} {d d' : Int} {x : Rec × Nat} (hd : d' ≤ d) (h : wnx l d' = .ok x) : wnx l d = .ok x := by
  unfold wnx at h ⊢
  cases hh : whd l with
  | error c => rw [hh] at h; cases h
  | ok y =>
    obtain ⟨num, ty, j⟩ := y
    rw [hh] at h
    dsimp only at h ⊢
    split at h
    · cases h
    · rename_i h4
      rw [if_neg h4]
      split at h
      · rename_i h3
        rw [if_pos h3]
        cases hg : wgroup (l.drop j) [num] d' with
        | error c => rw [hg] at h; cases h
        | ok k =>
          rw [hg] at h
          have e : wgroup (l.drop j) [num] d = .ok k := wgr_deeper _ hd hg
          rw [e]; exact h
      · rename_i h3
        rw [if_neg h3]
        exact h
theorem wall_deeper : ∀ (n : Nat) {l : List UInt8} {d d' : Int} {rs : List Rec}, d' ≤ d → l.length ≤ n → wall l d' = .ok rs → wall l d = .ok rs
  | n, l, d, d', rs, hd, hn, h => by
    rcases wall_inv h with ⟨rfl, rfl⟩ | ⟨r, q, ks, h1, h2, rfl, h4, h5, h6⟩
    · exact wall_nil d
    · match n, hn with
      | 0, hn => omega
      | n + 1, hn =>
        rw [wall_cons (wnx_deeper hd h1), wall_deeper n hd (by simp; omega) h2]
/-! ### a message -/
def mfold {σ : Type} (tk : Rec → Bool) (step : σ → Rec → Except Nat σ) : σ → List Rec → Except Nat σ
  | st, [] => .ok st
  | st, r :: rs => if tk r then (match step st r with
    | .error c => .error c
    | .ok st' => mfold tk step st' rs) else mfold tk step st rs
/-- the records that no table takes -/
def mrest (tk : Rec → Bool) (rs : List Rec) : List Rec := rs.filter fun r => !tk r
def munk (tk : Rec → Bool) (rs : List Rec) : List UInt8 := (mrest tk rs).flatMap Rec.raw
def mread {σ : Type} (tk : Rec → Bool) (step : σ → Rec → Except Nat σ) (st : σ) (l : List UInt8) (d : Int) : Except Nat (σ × List UInt8) :=
  if d < 0 then .error 6 else match wall l d with
    | .error c => .error c
    | .ok rs => match mfold tk step st rs with
      | .error c => .error c
      | .ok st' => .ok (st', munk tk rs)
/-- may bytes stand behind what a table takes? -/
def munkOk (tk : Rec → Bool) (l : List UInt8) (d : Int) : Bool := match wall l d with
  | .error _ => false
  | .ok rs => rs.all fun r => !tk r
theorem munk_le (tk : Rec → Bool) : ∀ (rs : List Rec), (munk tk rs).length ≤ (rs.flatMap Rec.raw).length
  | [] => by simp [munk, mrest]
  | r :: rs => by
    have := munk_le tk rs
    unfold munk mrest at this ⊢
    rw [List.filter_cons, List.flatMap_cons, List.length_append]
    split
    · rw [List.flatMap_cons, List.length_append]; omega
    · omega
theorem mfold_append {σ : Type} (tk : Rec → Bool) (step : σ → Rec → Except Nat σ) : ∀ (rs ts : List Rec) (st : σ), mfold tk step st (rs ++ ts) = match mfold tk step st rs with
    | .error c => .error c
    | .ok st' => mfold tk step st' ts
  | [], ts, st => rfl
  | r :: rs, ts, st => by
    simp only [List.cons_append, mfold]
    split
    · cases step st r with
      | error c => rfl
      | ok st' => exact mfold_append tk step rs ts st'
    · exact mfold_append tk step rs ts st
theorem munk_append (tk : Rec → Bool) (rs ts : List Rec) : munk tk (rs ++ ts) = munk tk rs ++ munk tk ts := by simp [munk, mrest]
theorem mfold_rest {σ : Type} (tk : Rec → Bool) (step : σ → Rec → Except Nat σ) : ∀ (rs : List Rec) (st : σ), (rs.all fun r => !tk r) = true → mfold tk step st rs = .ok st
  | [], st, _ => rfl
  | r :: rs, st, h => by
    simp only [List.all_cons, Bool.and_eq_true, Bool.not_eq_true'] at h
    rw [mfold, if_neg (by rw [h.1]; simp)]
    exact mfold_rest tk step rs st h.2
theorem mrest_all (tk : Rec → Bool) (rs : List Rec) : ((mrest tk rs).all fun r => !tk r) = true := by
  rw [List.all_eq_true]
  intro r hr
  exact (List.mem_filter.1 hr).2
theorem mrest_id {tk : Rec → Bool} {rs : List Rec} (h : (rs.all fun r => !tk r) = true) : mrest tk rs = rs := by
  rw [List.all_eq_true] at h
  exact List.filter_eq_self.2 h
/-- what was unknown in a message may stand behind what the table takes -/
theorem munk_ok {tk : Rec → Bool} {l : List UInt8} {d : Int} {rs : List Rec} (h : wall l d = .ok rs) : munkOk tk (munk tk rs) d = true := by
  have h1 := wall_recs _ (Nat.le_refl _) h
  have h2 := recs_wall (mrest tk rs) d (fun r hr => h1 r (List.mem_filter.1 hr).1)
  unfold munkOk munk
  rw [h2]
  exact mrest_all tk rs
/-- a message: what is written of known records, and unknown bytes behind them -/
theorem mread_put {σ : Type} {tk : Rec → Bool} {step : σ → Rec → Except Nat σ} {st st' : σ} {rs : List Rec} {u : List UInt8} {d : Int} (hd : 0 ≤ d) (h : ∀ r ∈ rs, ∀ d, IsRec d r) (hf : mfold tk step st rs = .ok st') (hk : (rs.all fun r => tk r) = true) :
    mread tk step st (rs.flatMap Rec.raw ++ u) d = match wall u d with
      | .error c => .error c
      | .ok us => match mfold tk step st' us with
        | .error c => .error c
        | .ok st'' => .ok (st'', munk tk us) := by
  have h1 := recs_wall rs d (fun r hr => h r hr d)
  unfold mread
  rw [if_neg (by omega), wall_append _ u (Nat.le_refl _) h1]
  cases wall u d with
  | error c => rfl
  | ok us =>
    dsimp only
    rw [mfold_append, hf]
    dsimp only
    cases mfold tk step st' us with
    | error c => rfl
    | ok st'' =>
      dsimp only
      have e : munk tk rs = [] := by
        unfold munk mrest
        rw [List.filter_eq_nil_iff.2 (fun r hr => by have := List.all_eq_true.1 hk r hr; simp [this])]
        rfl
      rw [munk_append, e, List.nil_append]
theorem mread_put_ok {σ : Type} {tk : Rec → Bool} {step : σ → Rec → Except Nat σ} {st st' : σ} {rs : List Rec} {u : List UInt8} {d : Int} (hd : 0 ≤ d) (h : ∀ r ∈ rs, ∀ d, IsRec d r) (hf : mfold tk step st rs = .ok st') (hk : (rs.all fun r => tk r) = true) (hu : munkOk tk u d = true) :
    mread tk step st (rs.flatMap Rec.raw ++ u) d = .ok (st', u) := by
  rw [mread_put hd h hf hk]
  unfold munkOk at hu
  cases hw : wall u d with
  | error c => rw [hw] at hu; cases hu
  | ok us =>
    rw [hw] at hu
    dsimp only at hu ⊢
    rw [mfold_rest tk step us st' hu]
    dsimp only
    unfold munk
    rw [mrest_id hu, (wall_raws _ (Nat.le_refl _) hw).1]
/-- less deep: the unknown bytes alone say whether it is one -/
theorem mread_put_no {σ : Type} {tk : Rec → Bool} {step : σ → Rec → Except Nat σ} {st st' : σ} {rs : List Rec} {u : List UInt8} {d d' : Int} (h : ∀ r ∈ rs, ∀ d, IsRec d r) (hf : mfold tk step st rs = .ok st') (hk : (rs.all fun r => tk r) = true) (hu : munkOk tk u d = true) (hle : d' ≤ d) (hn : d' < 0 ∨ munkOk tk u d' = false) :
    ∃ c, mread tk step st (rs.flatMap Rec.raw ++ u) d' = .error c := by
  by_cases h0 : d' < 0
  · exact ⟨6, by unfold mread; rw [if_pos h0]⟩
  · have hn2 : munkOk tk u d' = false := by rcases hn with hn | hn; exact absurd hn h0; exact hn
    rw [mread_put (by omega) h hf hk]
    unfold munkOk at hn2 hu
    cases hw : wall u d' with
    | error c => exact ⟨c, rfl⟩
    | ok us =>
      exfalso
      rw [hw] at hn2
      have h2 := wall_deeper _ hle (Nat.le_refl _) hw
      rw [h2] at hu
      dsimp only at hn2 hu
      rw [hn2] at hu
      cases hu
end Go.Proofs.YtandoppfbilhbaaGreatDoor
