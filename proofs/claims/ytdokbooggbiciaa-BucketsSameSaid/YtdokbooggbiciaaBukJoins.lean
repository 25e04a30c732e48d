/-
  hyglaw14.BucketsJoins.
-/
import Derived.Test.YtdokbooggbiciaaFirst14
namespace Go.Proofs.Ytdokbooggbiciaa
open Go.RowKit

/-- UnmarshalBuckets, of whatever it answers -/
def UBAny (s : ByteArray) (d : Int) (w : World) (e : Ending) (w' : World) : Prop :=
  Below w.heap.size w w' ∧ ∃ (x : Bk) (u : List UInt8) (ao : Option Addr) (cap : Nat) (v : Value), e = .returned (.tuple #[.agg #[.int .i32 x.off, .slice ao x.cs.length cap, .string ⟨u.toArray⟩], v]) ∧
    ((v = .nilIface ∧ bread s.data.toList d = .ok (x, u) ∧ w'.ownsRow w.heap.size 38 1 (.slice ao x.cs.length cap) x.cs.length (nats64 x.cs)) ∨ (∃ T y q c, v = .iface T y ∧ bread s.data.toList d = .error c ∧ q ≤ s.size ∧ EW w' v q c ∧ x = ⟨0, []⟩ ∧ u = [] ∧ ao = none ∧ cap = 0))
theorem ub_gen (s : ByteArray) (d : Int) (w : World) (hs : s.size ≤ 1000000) :
    Calls Try.prog 13 #[.string s, .int .i64 d] w (UBAny s d w) := by
  refine (ub_any s d w hs).mono ?_
  rintro e w' ⟨hb, hcase⟩
  refine ⟨hb, ?_⟩
  cases h : bread s.data.toList d with
  | error c =>
    rw [h] at hcase
    obtain ⟨v, q, rfl, hq, hew⟩ := hcase
    obtain ⟨T, y, hv⟩ := hew.iface
    exact ⟨⟨0, []⟩, [], none, 0, v, rfl, .inr ⟨T, y, q, c, hv, rfl, hq, hew, rfl, rfl, rfl, rfl⟩⟩
  | ok xu =>
    obtain ⟨x, u⟩ := xu
    rw [h] at hcase
    obtain ⟨v, rfl, ho⟩ := hcase
    obtain ⟨ao, cap, rfl⟩ := own_slice ho
    exact ⟨x, u, ao, cap, .nilIface, rfl, .inl ⟨rfl, rfl, ho⟩⟩
theorem pstep_front (c : List Nat) {xs ys : List Nat} {r : Rec} (h : pstep xs r = .ok ys) : pstep (c ++ xs) r = .ok (c ++ ys) := by
  unfold pstep at h ⊢
  split at h
  · rename_i h1
    rw [if_pos h1]
    simp only [Except.ok.injEq] at h ⊢
    rw [← h, List.append_assoc]
  · rename_i h1
    rw [if_neg h1]
    cases hw : wvars r.s with
    | error c => rw [hw] at h; cases h
    | ok ns =>
      rw [hw] at h
      simp only [Except.ok.injEq] at h ⊢
      rw [← h, List.append_assoc]
theorem bfold_from : ∀ (rs : List Rec) (c : List Nat) (o : Int) {a y : Bk}, mfold btk bstep a rs = .ok y → ∃ z, mfold btk bstep ⟨o, c ++ a.cs⟩ rs = .ok z ∧ z.cs = c ++ y.cs ∧ (z.off = y.off ∨ (y.off = a.off ∧ z.off = o))
  | [], c, o, a, y, h => by
    simp only [mfold, Except.ok.injEq] at h
    subst h
    exact ⟨_, rfl, rfl, .inr ⟨rfl, rfl⟩⟩
  | r :: rs, c, o, a, y, h => by
    rw [mfold] at h ⊢
    split at h
    · rename_i h1
      rw [if_pos h1]
      cases hs : bstep a r with
      | error e => rw [hs] at h; cases h
      | ok b =>
        rw [hs] at h
        unfold bstep at hs ⊢
        split at hs
        · rename_i h2
          rw [if_pos h2]
          simp only [Except.ok.injEq] at hs
          subst hs
          obtain ⟨z, g1, g2, g3⟩ := bfold_from rs c (zag (r.n % 2 ^ 32)) h
          refine ⟨z, g1, g2, ?_⟩
          rcases g3 with g3 | ⟨g3, g4⟩
          · exact .inl g3
          · exact .inl (by rw [g4, g3])
        · rename_i h2
          rw [if_neg h2]
          cases hp : pstep a.cs r with
          | error e => rw [hp] at hs; cases hs
          | ok ys =>
            rw [hp] at hs
            simp only [Except.ok.injEq] at hs
            subst hs
            dsimp only
            rw [pstep_front c hp]
            dsimp only
            obtain ⟨z, g1, g2, g3⟩ := bfold_from rs c o h
            exact ⟨z, g1, g2, g3⟩
    · rename_i h1
      rw [if_neg h1]
      exact bfold_from rs c o h
theorem bread_unk {l : List UInt8} {d : Int} {x : Bk} {u : List UInt8} (h : bread l d = .ok (x, u)) : u.length ≤ l.length := by
  unfold bread mread at h
  split at h
  · cases h
  · cases hw : wall l d with
    | error c => rw [hw] at h; cases h
    | ok rs =>
      rw [hw] at h
      dsimp only at h
      cases hf : mfold btk bstep ⟨0, []⟩ rs with
      | error c => rw [hf] at h; cases h
      | ok x' =>
        rw [hf] at h
        simp only [Except.ok.injEq, Prod.mk.injEq] at h
        rw [← h.2]
        have := munk_le btk rs
        rw [(wall_raws _ (Nat.le_refl _) hw).1] at this
        exact this
theorem bread_cs {l : List UInt8} {d : Int} {x : Bk} {u : List UInt8} (h : bread l d = .ok (x, u)) : x.cs.length ≤ l.length ∧ BkOk x := by
  unfold bread mread at h
  split at h
  · cases h
  · cases hw : wall l d with
    | error c => rw [hw] at h; cases h
    | ok rs =>
      rw [hw] at h
      dsimp only at h
      cases hf : mfold btk bstep ⟨0, []⟩ rs with
      | error c => rw [hf] at h; cases h
      | ok x' =>
        rw [hf] at h
        simp only [Except.ok.injEq, Prod.mk.injEq] at h
        rw [← h.1]
        have h1 := bfold_len rs (wall_recs _ (Nat.le_refl _) hw) hf
        rw [(wall_raws _ (Nat.le_refl _) hw).1] at h1
        exact ⟨by have := h1.1; simpa using this, h1.2 ⟨by decide, by decide, by simp⟩⟩
/-- of two that are read, one behind the other it is read -/
theorem bread_join {s t : List UInt8} {d : Int} {x y : Bk} {u v : List UInt8} (h1 : bread s d = .ok (x, u)) (h2 : bread t d = .ok (y, v)) : ∃ z, bread (s ++ t) d = .ok (z, u ++ v) ∧ z.cs = x.cs ++ y.cs ∧ (z.off = y.off ∨ (y.off = 0 ∧ z.off = x.off)) := by
  unfold bread mread at h1 h2 ⊢
  split at h1
  · cases h1
  · rename_i hd
    rw [if_neg hd] at h2 ⊢
    cases hs : wall s d with
    | error c => rw [hs] at h1; cases h1
    | ok rs =>
      cases ht : wall t d with
      | error c => rw [ht] at h2; cases h2
      | ok ts =>
        rw [hs] at h1
        rw [ht] at h2
        rw [wall_append _ t (Nat.le_refl _) hs, ht]
        dsimp only at h1 h2 ⊢
        cases hf : mfold btk bstep ⟨0, []⟩ rs with
        | error c => rw [hf] at h1; cases h1
        | ok x' =>
          cases hg : mfold btk bstep ⟨0, []⟩ ts with
          | error c => rw [hg] at h2; cases h2
          | ok y' =>
            rw [hf] at h1
            rw [hg] at h2
            simp only [Except.ok.injEq, Prod.mk.injEq] at h1 h2
            obtain ⟨rfl, rfl⟩ := h1
            obtain ⟨rfl, rfl⟩ := h2
            obtain ⟨z, g1, g2, g3⟩ := bfold_from ts x'.cs x'.off hg
            rw [List.append_nil] at g1
            rw [mfold_append, hf]
            dsimp only
            rw [g1]
            dsimp only
            exact ⟨z, by rw [munk_append], g2, g3⟩
set_option maxRecDepth 1000000 in
set_option maxHeartbeats 8000000 in
theorem joins_long (s t : ByteArray) (d : Int) (w : World) (hs : 3000 < s.size ∨ 3000 < t.size) :
    Calls Try.prog 6 #[.string s, .string t, .int .i64 d] w fun e w' => e = .returned (.bool true) ∧ Below w.heap.size w w' := by
  by_cases h1 : 3000 < s.size
  · have d1 : decide ((s.size : Int) > 3000) = true := decide_eq_true (by omega)
    clear hs h1
    go_enter Try.func6, Try.ntmps6
    go_wp2_with fail
    refine (first14 w).mono ?_; rintro e w1 ⟨rfl, hb1⟩
    have HB1 := Lib.hid hb1
    clear hb1
    go_wp2_with fail
    refine (first14 w1).mono ?_; rintro e w2 ⟨rfl, hb2⟩
    have HB2 := Lib.hid (below_step HB1.out hb2)
    clear hb2
    go_wp2_with fail
    go_ret
    exact ⟨rfl, HB2.out⟩
  · have d1 : decide ((s.size : Int) > 3000) = false := decide_eq_false (by omega)
    have d2 : decide ((t.size : Int) > 3000) = true := decide_eq_true (by omega)
    clear hs h1
    go_enter Try.func6, Try.ntmps6
    go_wp2_with fail
    refine (first14 w).mono ?_; rintro e w1 ⟨rfl, hb1⟩
    have HB1 := Lib.hid hb1
    clear hb1
    go_wp2_with fail
    refine (first14 w1).mono ?_; rintro e w2 ⟨rfl, hb2⟩
    have HB2 := Lib.hid (below_step HB1.out hb2)
    clear hb2
    go_wp2_with fail
    go_ret
    exact ⟨rfl, HB2.out⟩
set_option maxRecDepth 1000000 in
set_option maxHeartbeats 8000000 in
theorem joins_walk (s t : ByteArray) (d : Int) (w : World) (hs : s.size ≤ 3000) (ht : t.size ≤ 3000) :
    Calls Try.prog 6 #[.string s, .string t, .int .i64 d] w fun e w' => e = .returned (.bool true) ∧ Below w.heap.size w w' := by
  have d1 : decide ((s.size : Int) > 3000) = false := decide_eq_false (by omega)
  have d2 : decide ((t.size : Int) > 3000) = false := decide_eq_false (by omega)
  go_enter Try.func6, Try.ntmps6
  go_wp2_with fail
  refine (first14 w).mono ?_; rintro e w1 ⟨rfl, hb1⟩
  have HB1 := Lib.hid hb1
  clear hb1
  go_wp2_with fail
  refine (ub_gen s d w1 (by omega)).mono ?_; rintro e w2 ⟨hb2, x, u, ao, cap, v, rfl, hx⟩
  have HB2 := Lib.hid (below_step HB1.out hb2)
  have HX := Lib.hid hx
  obtain ⟨S, hS⟩ : ∃ S : ByteArray, (⟨u.toArray⟩ : ByteArray) = S := ⟨_, rfl⟩
  have HS := Lib.hid hS
  rw [hS]
  clear hb2 hx hS
  have hov : ¬ 9223372036854775807 < s.size + t.size := by omega
  go_wp2_with fail
  obtain ⟨W2, hW2⟩ : ∃ W2, w2.alloc (.cells #[.int .i32 x.off, .slice ao x.cs.length cap, .string S] 24) = W2 := ⟨_, rfl⟩
  obtain ⟨bx, hbx⟩ : ∃ bx, w2.heap.size = bx := ⟨_, rfl⟩
  have HXR : Hid (W2.heap[bx]? = some (.cells #[.int .i32 x.off, .slice ao x.cs.length cap, .string S] 24 (0, 0))) := Lib.hid (by rw [← hW2, ← hbx]; exact heap_alloc_new w2 _)
  have HBW2 : Hid (Below w.heap.size w W2) := Lib.hid (by rw [← hW2]; exact below_step HB2.out (below_new _ _))
  rw [hW2, hbx]
  clear hW2 hbx
  refine (ub_gen t d W2 (by omega)).mono ?_; rintro e w3 ⟨hb3, y, u', ao', cap', v', rfl, hy⟩
  have HB3 := Lib.hid (below_step HBW2.out hb3)
  have HXR3 : Hid (w3.heap[bx]? = some (.cells #[.int .i32 x.off, .slice ao x.cs.length cap, .string S] 24 (0, 0))) := Lib.hid ((hb3.block _ (row_lt HXR.out)).trans HXR.out)
  have HY := Lib.hid hy
  obtain ⟨T, hT⟩ : ∃ T : ByteArray, (⟨u'.toArray⟩ : ByteArray) = T := ⟨_, rfl⟩
  have HT := Lib.hid hT
  rw [hT]
  clear hb3 hy hT
  obtain ⟨st, hst⟩ : ∃ st, s ++ t = st := ⟨_, rfl⟩
  have HST := Lib.hid hst
  go_wp2_with fail
  have hsts : st.size = s.size + t.size := by rw [← hst, ByteArray.size_append]
  clear hst hov
  obtain ⟨W3, hW3⟩ : ∃ W3, w3.alloc (.cells #[.int .i32 y.off, .slice ao' y.cs.length cap', .string T] 24) = W3 := ⟨_, rfl⟩
  obtain ⟨by', hby⟩ : ∃ b, w3.heap.size = b := ⟨_, rfl⟩
  have HYR : Hid (W3.heap[by']? = some (.cells #[.int .i32 y.off, .slice ao' y.cs.length cap', .string T] 24 (0, 0))) := Lib.hid (by rw [← hW3, ← hby]; exact heap_alloc_new w3 _)
  have HXR4 : Hid (W3.heap[bx]? = some (.cells #[.int .i32 x.off, .slice ao x.cs.length cap, .string S] 24 (0, 0))) := Lib.hid (by rw [← hW3]; exact (Below.heap_alloc _ _ _ (row_lt HXR3.out)).trans HXR3.out)
  have HBW3 : Hid (Below w.heap.size w W3) := Lib.hid (by rw [← hW3]; exact below_step HB3.out (below_new _ _))
  rw [hW3, hby]
  clear hW3 hby
  refine (ub_gen st d W3 (by omega)).mono ?_; rintro e w4 ⟨hb4, z, u'', ao'', cap'', v'', rfl, hz⟩
  have HB4 := Lib.hid (below_step HBW3.out hb4)
  have HXR5 : Hid (w4.heap[bx]? = some (.cells #[.int .i32 x.off, .slice ao x.cs.length cap, .string S] 24 (0, 0))) := Lib.hid ((hb4.block _ (row_lt HXR4.out)).trans HXR4.out)
  have HYR5 : Hid (w4.heap[by']? = some (.cells #[.int .i32 y.off, .slice ao' y.cs.length cap', .string T] 24 (0, 0))) := Lib.hid ((hb4.block _ (row_lt HYR.out)).trans HYR.out)
  have HZ := Lib.hid hz
  obtain ⟨U, hU⟩ : ∃ U : ByteArray, (⟨u''.toArray⟩ : ByteArray) = U := ⟨_, rfl⟩
  have HU := Lib.hid hU
  rw [hU]
  clear hb4 hz hU
  have HBN : Hid (Below w.heap.size w (w4.alloc (.cells #[.int .i32 z.off, .slice ao'' z.cs.length cap'', .string U] 24))) := Lib.hid (below_step HB4.out (below_new _ _))
  rcases HX.out with ⟨rfl, hbx, _⟩ | ⟨T1, y1, _, _, rfl, _⟩
  case inr =>
    rcases HY.out with ⟨rfl, _⟩ | ⟨T2, y2, _, _, rfl, _⟩
    all_goals go_wp2_with fail
    all_goals refine (first14 _).mono ?_
    all_goals rintro e w5 ⟨rfl, hb5⟩
    all_goals have HB5 := Lib.hid (below_step HBN.out hb5)
    all_goals clear hb5
    all_goals go_wp2_with fail
    all_goals go_ret
    all_goals exact ⟨rfl, HB5.out⟩
  rcases HY.out with ⟨rfl, hby, _⟩ | ⟨T2, y2, _, _, rfl, _⟩
  case inr =>
    clear hbx
    go_wp2_with fail
    refine (first14 _).mono ?_; rintro e w5 ⟨rfl, hb5⟩
    have HB5 := Lib.hid (below_step HBN.out hb5)
    clear hb5
    go_wp2_with fail
    go_ret
    exact ⟨rfl, HB5.out⟩
  obtain ⟨z0, hz1, hz2, hz3⟩ := bread_join hbx hby
  have hst : st.data.toList = s.data.toList ++ t.data.toList := by rw [← HST.out]; simp [ByteArray.data_append]
  rw [← hst] at hz1
  rcases HZ.out with ⟨rfl, hbz, _⟩ | ⟨T3, y3, _, c3, rfl, hbz, _⟩
  case inr => rw [hz1] at hbz; cases hbz
  rw [hz1] at hbz
  simp only [Except.ok.injEq, Prod.mk.injEq] at hbz
  obtain ⟨rfl, huu⟩ := hbz
  have HUST : Hid (U = S ++ T) := Lib.hid (by rw [← HU.out, ← HS.out, ← HT.out, ← huu]; exact (ba_append u u').symm)
  have hlen : z0.cs.length = x.cs.length + y.cs.length := by rw [hz2, List.length_append]
  have HL := Lib.hid hlen
  have HO := Lib.hid hz3
  obtain ⟨n1, hn1⟩ : ∃ n, x.cs.length = n := ⟨_, rfl⟩
  obtain ⟨n2, hn2⟩ : ∃ n, y.cs.length = n := ⟨_, rfl⟩
  obtain ⟨n3, hn3⟩ : ∃ n, z0.cs.length = n := ⟨_, rfl⟩
  rw [hn1, hn2, hn3] at hlen
  have hSs : S.size ≤ 3000 := by
    have h1 := bread_unk hbx
    have h2 : S.size = u.length := by rw [← HS.out]; simp [ByteArray.size]
    have h3 : s.data.toList.length = s.size := by simp
    omega
  have hTs : T.size ≤ 3000 := by
    have h1 := bread_unk hby
    have h2 : T.size = u'.length := by rw [← HT.out]; simp [ByteArray.size]
    have h3 : t.data.toList.length = t.size := by simp
    omega
  have hov2 : ¬ 9223372036854775807 < S.size + T.size := by omega
  have hn1b : n1 ≤ 3000 := by
    have h1 := (bread_cs hbx).1
    have h3 : s.data.toList.length = s.size := by simp
    omega
  have hn2b : n2 ≤ 3000 := by
    have h1 := (bread_cs hby).1
    have h3 : t.data.toList.length = t.size := by simp
    omega
  clear hbx hby hz1 hst huu hz2 hz3 HX HY HZ HU HS HT HST
  obtain ⟨xo, hxo⟩ : ∃ o, x.off = o := ⟨_, rfl⟩
  obtain ⟨yo, hyo⟩ : ∃ o, y.off = o := ⟨_, rfl⟩
  obtain ⟨zo, hzo⟩ : ∃ o, z0.off = o := ⟨_, rfl⟩
  have HO2 : Hid (zo = yo ∨ yo = 0) := Lib.hid (by
    rw [← hzo, ← hyo]
    rcases HO.out with h | h
    · exact .inl h
    · exact .inr h.1)
  rw [hn1, hxo] at HXR5
  rw [hn2, hyo] at HYR5
  rw [hn3, hzo] at HBN ⊢
  obtain ⟨W4, hW4⟩ : ∃ W4, w4.alloc (.cells #[.int .i32 zo, .slice ao'' n3 cap'', .string U] 24) = W4 := ⟨_, rfl⟩
  obtain ⟨bz, hbz⟩ : ∃ b, w4.heap.size = b := ⟨_, rfl⟩
  have HZR : Hid (W4.heap[bz]? = some (.cells #[.int .i32 zo, .slice ao'' n3 cap'', .string U] 24 (0, 0))) := Lib.hid (by rw [← hW4, ← hbz]; exact heap_alloc_new w4 _)
  have HXR6 : Hid (W4.heap[bx]? = some (.cells #[.int .i32 xo, .slice ao n1 cap, .string S] 24 (0, 0))) := Lib.hid (by rw [← hW4]; exact (Below.heap_alloc _ _ _ (row_lt HXR5.out)).trans HXR5.out)
  have HYR6 : Hid (W4.heap[by']? = some (.cells #[.int .i32 yo, .slice ao' n2 cap', .string T] 24 (0, 0))) := Lib.hid (by rw [← hW4]; exact (Below.heap_alloc _ _ _ (row_lt HYR5.out)).trans HYR5.out)
  rw [hW4] at HBN
  have HW4 := Lib.hid hW4
  have HBZ := Lib.hid hbz
  have HLEN := Lib.hid hlen
  clear hW4 hbz hxo hyo hzo hn1 hn2 hn3 hlen
  go_wp2_with fail
  rw [HW4.out, HBZ.out]
  refine (first14 W4).mono ?_; rintro e w5 ⟨rfl, hb5⟩
  have HB5 := Lib.hid (below_step HBN.out hb5)
  have hzr := (hb5.block _ (row_lt HZR.out)).trans HZR.out
  have hxr := (hb5.block _ (row_lt HXR6.out)).trans HXR6.out
  have hyr := (hb5.block _ (row_lt HYR6.out)).trans HYR6.out
  have hz0 : w5.cell? ⟨bz, 0, none⟩ = some (.int .i32 zo) := row_cell hzr (j := 0) rfl
  have hz1 : w5.cell? ⟨bz, 1, none⟩ = some (.slice ao'' n3 cap'') := row_cell hzr (j := 1) rfl
  have hz2 : w5.cell? ⟨bz, 2, none⟩ = some (.string U) := row_cell hzr (j := 2) rfl
  have hx1 : w5.cell? ⟨bx, 1, none⟩ = some (.slice ao n1 cap) := row_cell hxr (j := 1) rfl
  have hx2 : w5.cell? ⟨bx, 2, none⟩ = some (.string S) := row_cell hxr (j := 2) rfl
  have hy0 : w5.cell? ⟨by', 0, none⟩ = some (.int .i32 yo) := row_cell hyr (j := 0) rfl
  have hy1 : w5.cell? ⟨by', 1, none⟩ = some (.slice ao' n2 cap') := row_cell hyr (j := 1) rfl
  have hy2 : w5.cell? ⟨by', 2, none⟩ = some (.string T) := row_cell hyr (j := 2) rfl
  have hUeq : (U.toList == (S ++ T).toList) = true := by rw [HUST.out]; simp
  have hleq : ((n3 : Int) == (n1 : Int) + (n2 : Int)) = true := by rw [beq_iff_eq]; have := HLEN.out; omega
  clear hb5 hzr hxr hyr
  by_cases h0 : yo = 0
  · have d3 : (yo == 0) = true := by rw [beq_iff_eq]; exact h0
    clear h0 HO2
    go_wp2_with fail
    go_ret
    exact ⟨rfl, HB5.out⟩
  · have d3 : (yo == 0) = false := by rw [beq_eq_false_iff_ne]; exact h0
    have d4 : (zo == yo) = true := by
      rw [beq_iff_eq]
      rcases HO2.out with h | h
      · exact h
      · exact absurd h h0
    clear h0 HO2
    go_wp2_with fail
    go_ret
    exact ⟨rfl, HB5.out⟩
theorem joins_any (s t : ByteArray) (d : Int) (w : World) :
    Calls Try.prog 6 #[.string s, .string t, .int .i64 d] w fun e w' => e = .returned (.bool true) ∧ Below w.heap.size w w' := by
  by_cases h : s.size ≤ 3000 ∧ t.size ≤ 3000
  · exact joins_walk s t d w h.1 h.2
  · exact joins_long s t d w (by omega)
end Go.Proofs.Ytdokbooggbiciaa
