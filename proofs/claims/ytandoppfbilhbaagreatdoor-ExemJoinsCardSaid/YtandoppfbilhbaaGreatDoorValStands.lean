/-
  value.stands.
-/
import Derived.Test.YtandoppfbilhbaaGreatDoorValList
import Derived.Test.YtandoppfbilhbaaGreatDoorRetCell
namespace Go.Proofs.YtandoppfbilhbaaGreatDoor
open Go.RowKit

theorem val_set8 {w : World} {g : Nat} {T : TypeId} {a0 a1 a2 a3 a4 a5 a6 a7 : Value} (h : w.heap[g]? = some (.cells #[a0, a1, a2, a3, a4, a5, a6, a7] T (0, 0))) (c0 c1 c2 c3 c4 c5 c6 c7 : Value) :
    (((((((((w).setCell ⟨g, 0, none⟩ c0).setCell ⟨g, 1, none⟩ c1).setCell ⟨g, 2, none⟩ c2).setCell ⟨g, 3, none⟩ c3).setCell ⟨g, 4, none⟩ c4).setCell ⟨g, 5, none⟩ c5).setCell ⟨g, 6, none⟩ c6).setCell ⟨g, 7, none⟩ c7).heap[g]? = some (.cells #[c0, c1, c2, c3, c4, c5, c6, c7] T (0, 0)) := by
  have h0 : ((w).setCell ⟨g, 0, none⟩ c0).heap[g]? = some (.cells #[c0, a1, a2, a3, a4, a5, a6, a7] T (0, 0)) := row_set h 0 c0
  have h1 : (((w).setCell ⟨g, 0, none⟩ c0).setCell ⟨g, 1, none⟩ c1).heap[g]? = some (.cells #[c0, c1, a2, a3, a4, a5, a6, a7] T (0, 0)) := row_set h0 1 c1
  have h2 : ((((w).setCell ⟨g, 0, none⟩ c0).setCell ⟨g, 1, none⟩ c1).setCell ⟨g, 2, none⟩ c2).heap[g]? = some (.cells #[c0, c1, c2, a3, a4, a5, a6, a7] T (0, 0)) := row_set h1 2 c2
  have h3 : (((((w).setCell ⟨g, 0, none⟩ c0).setCell ⟨g, 1, none⟩ c1).setCell ⟨g, 2, none⟩ c2).setCell ⟨g, 3, none⟩ c3).heap[g]? = some (.cells #[c0, c1, c2, c3, a4, a5, a6, a7] T (0, 0)) := row_set h2 3 c3
  have h4 : ((((((w).setCell ⟨g, 0, none⟩ c0).setCell ⟨g, 1, none⟩ c1).setCell ⟨g, 2, none⟩ c2).setCell ⟨g, 3, none⟩ c3).setCell ⟨g, 4, none⟩ c4).heap[g]? = some (.cells #[c0, c1, c2, c3, c4, a5, a6, a7] T (0, 0)) := row_set h3 4 c4
  have h5 : (((((((w).setCell ⟨g, 0, none⟩ c0).setCell ⟨g, 1, none⟩ c1).setCell ⟨g, 2, none⟩ c2).setCell ⟨g, 3, none⟩ c3).setCell ⟨g, 4, none⟩ c4).setCell ⟨g, 5, none⟩ c5).heap[g]? = some (.cells #[c0, c1, c2, c3, c4, c5, a6, a7] T (0, 0)) := row_set h4 5 c5
  have h6 : ((((((((w).setCell ⟨g, 0, none⟩ c0).setCell ⟨g, 1, none⟩ c1).setCell ⟨g, 2, none⟩ c2).setCell ⟨g, 3, none⟩ c3).setCell ⟨g, 4, none⟩ c4).setCell ⟨g, 5, none⟩ c5).setCell ⟨g, 6, none⟩ c6).heap[g]? = some (.cells #[c0, c1, c2, c3, c4, c5, c6, a7] T (0, 0)) := row_set h5 6 c6
  have h7 : (((((((((w).setCell ⟨g, 0, none⟩ c0).setCell ⟨g, 1, none⟩ c1).setCell ⟨g, 2, none⟩ c2).setCell ⟨g, 3, none⟩ c3).setCell ⟨g, 4, none⟩ c4).setCell ⟨g, 5, none⟩ c5).setCell ⟨g, 6, none⟩ c6).setCell ⟨g, 7, none⟩ c7).heap[g]? = some (.cells #[c0, c1, c2, c3, c4, c5, c6, c7] T (0, 0)) := row_set h6 7 c7
  exact h7
theorem val_upd8 (w : World) (g : Nat) (c0 c1 c2 c3 c4 c5 c6 c7 : Value) : Upd (fun k => k = g) w ((((((((w.setCell ⟨g, 0, none⟩ c0).setCell ⟨g, 1, none⟩ c1).setCell ⟨g, 2, none⟩ c2).setCell ⟨g, 3, none⟩ c3).setCell ⟨g, 4, none⟩ c4).setCell ⟨g, 5, none⟩ c5).setCell ⟨g, 6, none⟩ c6).setCell ⟨g, 7, none⟩ c7) := by
  have u0 := Upd.set w ⟨g, 0, none⟩ c0
  have u1 : Upd (fun k => k = g) w ((w.setCell ⟨g, 0, none⟩ c0).setCell ⟨g, 1, none⟩ c1) := Upd.trans u0 (Upd.set (w.setCell ⟨g, 0, none⟩ c0) ⟨g, 1, none⟩ c1)
  have u2 : Upd (fun k => k = g) w (((w.setCell ⟨g, 0, none⟩ c0).setCell ⟨g, 1, none⟩ c1).setCell ⟨g, 2, none⟩ c2) := Upd.trans u1 (Upd.set ((w.setCell ⟨g, 0, none⟩ c0).setCell ⟨g, 1, none⟩ c1) ⟨g, 2, none⟩ c2)
  have u3 : Upd (fun k => k = g) w ((((w.setCell ⟨g, 0, none⟩ c0).setCell ⟨g, 1, none⟩ c1).setCell ⟨g, 2, none⟩ c2).setCell ⟨g, 3, none⟩ c3) := Upd.trans u2 (Upd.set (((w.setCell ⟨g, 0, none⟩ c0).setCell ⟨g, 1, none⟩ c1).setCell ⟨g, 2, none⟩ c2) ⟨g, 3, none⟩ c3)
  have u4 : Upd (fun k => k = g) w (((((w.setCell ⟨g, 0, none⟩ c0).setCell ⟨g, 1, none⟩ c1).setCell ⟨g, 2, none⟩ c2).setCell ⟨g, 3, none⟩ c3).setCell ⟨g, 4, none⟩ c4) := Upd.trans u3 (Upd.set ((((w.setCell ⟨g, 0, none⟩ c0).setCell ⟨g, 1, none⟩ c1).setCell ⟨g, 2, none⟩ c2).setCell ⟨g, 3, none⟩ c3) ⟨g, 4, none⟩ c4)
  have u5 : Upd (fun k => k = g) w ((((((w.setCell ⟨g, 0, none⟩ c0).setCell ⟨g, 1, none⟩ c1).setCell ⟨g, 2, none⟩ c2).setCell ⟨g, 3, none⟩ c3).setCell ⟨g, 4, none⟩ c4).setCell ⟨g, 5, none⟩ c5) := Upd.trans u4 (Upd.set (((((w.setCell ⟨g, 0, none⟩ c0).setCell ⟨g, 1, none⟩ c1).setCell ⟨g, 2, none⟩ c2).setCell ⟨g, 3, none⟩ c3).setCell ⟨g, 4, none⟩ c4) ⟨g, 5, none⟩ c5)
  have u6 : Upd (fun k => k = g) w (((((((w.setCell ⟨g, 0, none⟩ c0).setCell ⟨g, 1, none⟩ c1).setCell ⟨g, 2, none⟩ c2).setCell ⟨g, 3, none⟩ c3).setCell ⟨g, 4, none⟩ c4).setCell ⟨g, 5, none⟩ c5).setCell ⟨g, 6, none⟩ c6) := Upd.trans u5 (Upd.set ((((((w.setCell ⟨g, 0, none⟩ c0).setCell ⟨g, 1, none⟩ c1).setCell ⟨g, 2, none⟩ c2).setCell ⟨g, 3, none⟩ c3).setCell ⟨g, 4, none⟩ c4).setCell ⟨g, 5, none⟩ c5) ⟨g, 6, none⟩ c6)
  have u7 : Upd (fun k => k = g) w ((((((((w.setCell ⟨g, 0, none⟩ c0).setCell ⟨g, 1, none⟩ c1).setCell ⟨g, 2, none⟩ c2).setCell ⟨g, 3, none⟩ c3).setCell ⟨g, 4, none⟩ c4).setCell ⟨g, 5, none⟩ c5).setCell ⟨g, 6, none⟩ c6).setCell ⟨g, 7, none⟩ c7) := Upd.trans u6 (Upd.set (((((((w.setCell ⟨g, 0, none⟩ c0).setCell ⟨g, 1, none⟩ c1).setCell ⟨g, 2, none⟩ c2).setCell ⟨g, 3, none⟩ c3).setCell ⟨g, 4, none⟩ c4).setCell ⟨g, 5, none⟩ c5).setCell ⟨g, 6, none⟩ c6) ⟨g, 7, none⟩ c7)
  exact u7
theorem load_val {w : World} {g : Nat} {cs : Array Value} (hg : w.heap[g]? = some (.cells cs 80 (0, 0))) (hc : cs.size = 8) : (loadVar 80 ⟨g, 0, none⟩).run Tryz.prog w = .ok (.agg cs) w :=
  run_loadVar_row w g 80 80 cs (0, 0) _ hg Tryz.underlying80 rfl (by rw [hc]; kernel_rfl)
/-- the value that a record tells, of what comes of it -/
def SPost (rd : Except Nat Val) (w : World) (e : Ending) (w' : World) : Prop := Below w.heap.size w w' ∧ match rd with
  | .error c => ∃ k y, e = .returned (.tuple #[.agg #[.int .i64 k, .string ⟨#[]⟩, .bool false, .int .u64 0, .slice none 0 0, .slice none 0 0, .string ⟨#[]⟩, .string ⟨#[]⟩], y]) ∧ EC w' y c
  | .ok x => ∃ cs, e = .returned (.tuple #[.agg cs.toArray, .nilIface]) ∧ VRel w' (fun k => w.heap.size ≤ k) x cs
theorem vrel_plain (w : World) (P : Nat → Prop) (k : Int) (s : List UInt8) (b : Bool) (n : Nat) : VRel w P (.mk k s b n [] [] [] []) [.int .i64 k, strV s, .bool b, .int .u64 (n : Int), .slice none 0 0, .slice none 0 0, strV [], strV []] := by
  rw [VRel]
  exact ⟨none, 0, none, 0, rfl, by rw [VRels]; trivial, by rw [KRels]; trivial⟩
set_option maxRecDepth 1000000 in
set_option maxHeartbeats 8000000 in
theorem stands_any (o : One) (v : Value) (d : Int) (B : Nat) (vr : List UInt8 → Int → Except Nat Val) (kr : List UInt8 → Int → Except Nat KV) (w : World) (hown : Hid (w.ownsRow B 9 1 v o.ps.length (o.ps.map strV))) (hl : o.ps.length ≤ 1000000) (hf : o.ps.flatten.length ≤ 1000000) (hd : -9223372036854775807 ≤ d ∧ d ≤ 9223372036854775807)
    (hvr : Hid (∀ (Y : ByteArray) w', Y.size < o.ps.flatten.length → Calls Tryz.prog 123 #[.string Y, .int .i64 (d - 1)] w' (VPost (vr Y.data.toList (d - 1)) Y.size w')))
    (hkr : Hid (∀ (Y : ByteArray) w', Y.size < o.ps.flatten.length → Calls Tryz.prog 87 #[.string Y, .int .i64 (d - 1)] w' (KPost (kr Y.data.toList (d - 1)) Y.size w'))) :
    Calls Tryz.prog 152 #[.agg #[.int .i64 (o.r.num : Int), .int .i64 (o.r.ty : Int), .int .u64 (o.r.n : Int), .string ⟨o.r.s.toArray⟩, .string ⟨o.r.raw.toArray⟩, v], .int .i64 d] w (SPost (stands vr kr o d []) w) := by
  obtain ⟨⟨num, ty, n, s, raw⟩, ps⟩ := o
  dsimp only at hown hl hf hvr hkr ⊢
  obtain ⟨ao, cap, rfl⟩ := own_slice hown.out
  obtain ⟨S, hS⟩ : ∃ S : ByteArray, (⟨s.toArray⟩ : ByteArray) = S := ⟨_, rfl⟩
  have HS := Lib.hid hS
  rw [hS]
  clear hS
  have HE1 := Lib.hid (enters_of Tryz.func123 (by kernel_rfl) rfl)
  have HE2 := Lib.hid (enters_of Tryz.func87 (by kernel_rfl) rfl)
  obtain ⟨g, hg⟩ : ∃ g, w.heap.size = g := ⟨_, rfl⟩
  have HGG := Lib.hid hg
  by_cases h1 : num = 1
  · subst h1
    have HST : Hid (stands vr kr ⟨⟨1, ty, n, s, raw⟩, ps⟩ d [] = .ok (.mk 1 s false 0 [] [] [] [])) := Lib.hid (by unfold stands; simp)
    go_enter Tryz.func152, Tryz.ntmps152
    go_wp2_with fail
    refine body_cell2v rfl rfl (load_val (new_two_c hg _ _) rfl) rfl ?_
    refine ⟨below_step (below_new _ _) (below_new _ _), ?_⟩
    rw [HST.out]
    exact ⟨[.int .i64 1, strV s, .bool false, .int .u64 0, .slice none 0 0, .slice none 0 0, strV [], strV []], by simp only [strV, HS.out]; rfl, vrel_plain _ _ _ _ _ _⟩
  by_cases h7 : num = 7
  · subst h7
    have HST : Hid (stands vr kr ⟨⟨7, ty, n, s, raw⟩, ps⟩ d [] = .ok (.mk 7 s false 0 [] [] [] [])) := Lib.hid (by unfold stands; simp)
    go_enter Tryz.func152, Tryz.ntmps152
    go_wp2_with fail
    refine body_cell2v rfl rfl (load_val (new_two_c hg _ _) rfl) rfl ?_
    refine ⟨below_step (below_new _ _) (below_new _ _), ?_⟩
    rw [HST.out]
    exact ⟨[.int .i64 7, strV s, .bool false, .int .u64 0, .slice none 0 0, .slice none 0 0, strV [], strV []], by simp only [strV, HS.out]; rfl, vrel_plain _ _ _ _ _ _⟩
  by_cases h2 : num = 2
  · subst h2
    have HST : Hid (stands vr kr ⟨⟨2, ty, n, s, raw⟩, ps⟩ d [] = .ok (.mk 2 [] (!decide (n = 0)) 0 [] [] [] [])) := Lib.hid (by unfold stands; simp)
    have hb0 : ((n : Int) != 0) = !decide (n = 0) := by by_cases h : n = 0 <;> simp [h]
    go_enter Tryz.func152, Tryz.ntmps152
    go_wp2_with fail
    refine body_cell2v rfl rfl (load_val (new_two_c hg _ _) rfl) rfl ?_
    refine ⟨below_step (below_new _ _) (below_new _ _), ?_⟩
    rw [HST.out]
    exact ⟨[.int .i64 2, strV [], .bool (!decide (n = 0)), .int .u64 0, .slice none 0 0, .slice none 0 0, strV [], strV []], rfl, vrel_plain _ _ _ _ _ _⟩
  by_cases h3 : num = 3
  · subst h3
    have HST : Hid (stands vr kr ⟨⟨3, ty, n, s, raw⟩, ps⟩ d [] = .ok (.mk 3 [] false n [] [] [] [])) := Lib.hid (by unfold stands; simp)
    go_enter Tryz.func152, Tryz.ntmps152
    go_wp2_with fail
    refine body_cell2v rfl rfl (load_val (new_two_c hg _ _) rfl) rfl ?_
    refine ⟨below_step (below_new _ _) (below_new _ _), ?_⟩
    rw [HST.out]
    exact ⟨[.int .i64 3, strV [], .bool false, .int .u64 (n : Int), .slice none 0 0, .slice none 0 0, strV [], strV []], rfl, vrel_plain _ _ _ _ _ _⟩
  by_cases h4 : num = 4
  · subst h4
    have HST : Hid (stands vr kr ⟨⟨4, ty, n, s, raw⟩, ps⟩ d [] = .ok (.mk 4 [] false n [] [] [] [])) := Lib.hid (by unfold stands; simp)
    go_enter Tryz.func152, Tryz.ntmps152
    go_wp2_with fail
    refine body_cell2v rfl rfl (load_val (new_two_c hg _ _) rfl) rfl ?_
    refine ⟨below_step (below_new _ _) (below_new _ _), ?_⟩
    rw [HST.out]
    exact ⟨[.int .i64 4, strV [], .bool false, .int .u64 (n : Int), .slice none 0 0, .slice none 0 0, strV [], strV []], rfl, vrel_plain _ _ _ _ _ _⟩
  by_cases h5 : num = 5
  · subst h5
    have HST : Hid (stands vr kr ⟨⟨5, ty, n, s, raw⟩, ps⟩ d [] = match lread vr ps.flatten d with | .error c => .error c | .ok (xs, i) => .ok (.mk 5 [] false 0 xs [] i [])) := Lib.hid (by unfold stands; simp; cases lread vr ps.flatten d <;> rfl)
    go_enter Tryz.func152, Tryz.ntmps152
    go_wp2_with fail
    obtain ⟨W1, hW1⟩ : ∃ W, (w.alloc (.cells #[.int .i64 5, .int .i64 (ty : Int), .int .u64 (n : Int), .string S, .string ⟨raw.toArray⟩, .slice ao ps.length cap] 214)).alloc (.cells #[.int .i64 5, .string ⟨#[]⟩, .bool false, .int .u64 0, .slice none 0 0, .slice none 0 0, .string ⟨#[]⟩, .string ⟨#[]⟩] 80) = W := ⟨_, rfl⟩
    have HX1 : Hid (W1.heap[g + 1]? = some (.cells #[.int .i64 5, .string ⟨#[]⟩, .bool false, .int .u64 0, .slice none 0 0, .slice none 0 0, .string ⟨#[]⟩, .string ⟨#[]⟩] 80 (0, 0))) := Lib.hid (by rw [← hW1]; exact new_two_c hg _ _)
    have HO1 : Hid (W1.heap[g]? = some (.cells #[.int .i64 5, .int .i64 (ty : Int), .int .u64 (n : Int), .string S, .string ⟨raw.toArray⟩, .slice ao ps.length cap] 214 (0, 0))) := Lib.hid (by rw [← hW1, ← hg]; exact (Below.heap_alloc _ _ _ (by simp)).trans (heap_alloc_new w _))
    have HB1 : Hid (Below w.heap.size w W1) := Lib.hid (by rw [← hW1]; exact below_step (below_new _ _) (below_new _ _))
    rw [hW1]
    clear hW1
    refine (pbytes_any g 5 (.slice ao ps.length cap) ps B W1 HO1 rfl (Lib.hid (own_below hown.out HB1.out)) hl (by omega)).mono ?_; rintro e w2 ⟨rfl, hb2⟩
    obtain ⟨Y, hY⟩ : ∃ Y : ByteArray, (⟨ps.flatten.toArray⟩ : ByteArray) = Y := ⟨_, rfl⟩
    have hYs : Y.size = ps.flatten.length := by rw [← hY]; simp [ByteArray.size]
    have HYD : Hid (Y.data.toList = ps.flatten) := Lib.hid (by rw [← hY])
    rw [hY]
    have HX2 := Lib.hid ((hb2.block _ (row_lt HX1.out)).trans HX1.out)
    have HB2 := Lib.hid (below_step HB1.out hb2)
    have HL := Lib.hid (vlist_any 123 Y d vr w2 (by omega) HE1.out hd (Lib.hid (fun Y' w' h => hvr.out Y' w' (by omega))))
    clear hY hb2
    go_wp2_with fail
    refine HL.out.mono ?_; intro e w3 hpost
    obtain ⟨hb3, hcase⟩ := hpost
    rw [HYD.out] at hcase
    have HX3 := Lib.hid ((hb3.block _ (row_lt HX2.out)).trans HX2.out)
    have HB3 := Lib.hid (below_step HB2.out hb3)
    have HS2 : Hid (g + 1 < w2.heap.size) := Lib.hid (row_lt HX2.out)
    clear hb3
    have hx0 : w3.cell? ⟨g + 1, 0, none⟩ = some (.int .i64 5) := row_cell HX3.out (j := 0) rfl
    have hf0 : w3.frozen? ⟨g + 1, 0, none⟩ = false := row_thaw HX3.out 0
    have hx1 : w3.cell? ⟨g + 1, 1, none⟩ = some (.string ⟨#[]⟩) := row_cell HX3.out (j := 1) rfl
    have hf1 : w3.frozen? ⟨g + 1, 1, none⟩ = false := row_thaw HX3.out 1
    have hx2 : w3.cell? ⟨g + 1, 2, none⟩ = some (.bool false) := row_cell HX3.out (j := 2) rfl
    have hf2 : w3.frozen? ⟨g + 1, 2, none⟩ = false := row_thaw HX3.out 2
    have hx3 : w3.cell? ⟨g + 1, 3, none⟩ = some (.int .u64 0) := row_cell HX3.out (j := 3) rfl
    have hf3 : w3.frozen? ⟨g + 1, 3, none⟩ = false := row_thaw HX3.out 3
    have hx4 : w3.cell? ⟨g + 1, 4, none⟩ = some (.slice none 0 0) := row_cell HX3.out (j := 4) rfl
    have hf4 : w3.frozen? ⟨g + 1, 4, none⟩ = false := row_thaw HX3.out 4
    have hx5 : w3.cell? ⟨g + 1, 5, none⟩ = some (.slice none 0 0) := row_cell HX3.out (j := 5) rfl
    have hf5 : w3.frozen? ⟨g + 1, 5, none⟩ = false := row_thaw HX3.out 5
    have hx6 : w3.cell? ⟨g + 1, 6, none⟩ = some (.string ⟨#[]⟩) := row_cell HX3.out (j := 6) rfl
    have hf6 : w3.frozen? ⟨g + 1, 6, none⟩ = false := row_thaw HX3.out 6
    have hx7 : w3.cell? ⟨g + 1, 7, none⟩ = some (.string ⟨#[]⟩) := row_cell HX3.out (j := 7) rfl
    have hf7 : w3.frozen? ⟨g + 1, 7, none⟩ = false := row_thaw HX3.out 7
    cases hrd : lread vr ps.flatten d with
    | error c =>
      rw [hrd] at hcase
      obtain ⟨y, rfl, hec⟩ := hcase
      obtain ⟨T', z, rfl⟩ := hec.iface
      have HEC := Lib.hid hec
      have HRR : Hid (stands vr kr ⟨⟨5, ty, n, s, raw⟩, ps⟩ d [] = .error c) := Lib.hid (by rw [HST.out, hrd])
      clear hec hrd
      go_wp2_with fail
      have hu := (Upd.set w3 ⟨g + 1, 4, none⟩ (.slice none 0 0)).trans (Upd.set _ ⟨g + 1, 6, none⟩ (.string ⟨#[]⟩))
      have hua : Upd (fun k => k = g + 1) w3 _ := hu.trans (val_upd8 _ (g + 1) (.int .i64 5) (.string ⟨#[]⟩) (.bool false) (.int .u64 0) (.slice none 0 0) (.slice none 0 0) (.string ⟨#[]⟩) (.string ⟨#[]⟩))
      refine body_cell2v rfl rfl (load_val (val_set8 (row_set (row_set HX3.out 4 (.slice none 0 0)) 6 (.string ⟨#[]⟩)) _ _ _ _ _ _ _ _) rfl) rfl ?_
      refine ⟨HB3.out.trans (hua.below (by have := HB3.out.size; omega) (fun k _ h => by have h : k = g + 1 := h; have := HGG.out; omega)), ?_⟩
      rw [HRR.out]
      obtain ⟨ws, he⟩ := HEC.out
      exact ⟨_, _, rfl, ws, isErr_upd hua (fun k hk b m e h => by have hk : k = g + 1 := hk; subst hk; rw [HX3.out] at h; simp at h) he⟩
    | ok xi =>
      obtain ⟨xs, i⟩ := xi
      rw [hrd] at hcase
      obtain ⟨lo, lc, rfl, hrs⟩ := hcase
      have HRS := Lib.hid hrs
      have HRR : Hid (stands vr kr ⟨⟨5, ty, n, s, raw⟩, ps⟩ d [] = .ok (.mk 5 [] false 0 xs [] i [])) := Lib.hid (by rw [HST.out, hrd])
      clear hrs hrd
      go_wp2_with fail
      have hu := (Upd.set w3 ⟨g + 1, 4, none⟩ (.slice lo xs.length lc)).trans (Upd.set _ ⟨g + 1, 6, none⟩ (.string ⟨i.toArray⟩))
      have hua : Upd (fun k => k = g + 1) w3 _ := hu.trans (val_upd8 _ (g + 1) (.int .i64 5) (.string ⟨#[]⟩) (.bool false) (.int .u64 0) (.slice lo xs.length lc) (.slice none 0 0) (.string ⟨i.toArray⟩) (.string ⟨#[]⟩))
      refine body_cell2v rfl rfl (load_val (val_set8 (row_set (row_set HX3.out 4 (.slice lo xs.length lc)) 6 (.string ⟨i.toArray⟩)) _ _ _ _ _ _ _ _) rfl) rfl ?_
      refine ⟨HB3.out.trans (hua.below (by have := HB3.out.size; omega) (fun k _ h => by have h : k = g + 1 := h; have := HGG.out; omega)), ?_⟩
      rw [HRR.out]
      refine ⟨[.int .i64 5, strV [], .bool false, .int .u64 0, .slice lo xs.length lc, .slice none 0 0, strV i, strV []], rfl, ?_⟩
      rw [VRel]
      exact ⟨lo, lc, none, 0, rfl, VRels.upd hua (fun k hk h => by have h : k = g + 1 := h; have := HS2.out; omega) (fun k hk => by have := HB2.out.size; omega) _ _ _ HRS.out, by rw [KRels]; trivial⟩
  by_cases h6 : num = 6
  · subst h6
    have HST : Hid (stands vr kr ⟨⟨6, ty, n, s, raw⟩, ps⟩ d [] = match lread kr ps.flatten d with | .error c => .error c | .ok (xs, i) => .ok (.mk 6 [] false 0 [] xs i [])) := Lib.hid (by unfold stands; simp; cases lread kr ps.flatten d <;> rfl)
    go_enter Tryz.func152, Tryz.ntmps152
    go_wp2_with fail
    obtain ⟨W1, hW1⟩ : ∃ W, (w.alloc (.cells #[.int .i64 6, .int .i64 (ty : Int), .int .u64 (n : Int), .string S, .string ⟨raw.toArray⟩, .slice ao ps.length cap] 214)).alloc (.cells #[.int .i64 6, .string ⟨#[]⟩, .bool false, .int .u64 0, .slice none 0 0, .slice none 0 0, .string ⟨#[]⟩, .string ⟨#[]⟩] 80) = W := ⟨_, rfl⟩
    have HX1 : Hid (W1.heap[g + 1]? = some (.cells #[.int .i64 6, .string ⟨#[]⟩, .bool false, .int .u64 0, .slice none 0 0, .slice none 0 0, .string ⟨#[]⟩, .string ⟨#[]⟩] 80 (0, 0))) := Lib.hid (by rw [← hW1]; exact new_two_c hg _ _)
    have HO1 : Hid (W1.heap[g]? = some (.cells #[.int .i64 6, .int .i64 (ty : Int), .int .u64 (n : Int), .string S, .string ⟨raw.toArray⟩, .slice ao ps.length cap] 214 (0, 0))) := Lib.hid (by rw [← hW1, ← hg]; exact (Below.heap_alloc _ _ _ (by simp)).trans (heap_alloc_new w _))
    have HB1 : Hid (Below w.heap.size w W1) := Lib.hid (by rw [← hW1]; exact below_step (below_new _ _) (below_new _ _))
    rw [hW1]
    clear hW1
    refine (pbytes_any g 5 (.slice ao ps.length cap) ps B W1 HO1 rfl (Lib.hid (own_below hown.out HB1.out)) hl (by omega)).mono ?_; rintro e w2 ⟨rfl, hb2⟩
    obtain ⟨Y, hY⟩ : ∃ Y : ByteArray, (⟨ps.flatten.toArray⟩ : ByteArray) = Y := ⟨_, rfl⟩
    have hYs : Y.size = ps.flatten.length := by rw [← hY]; simp [ByteArray.size]
    have HYD : Hid (Y.data.toList = ps.flatten) := Lib.hid (by rw [← hY])
    rw [hY]
    have HX2 := Lib.hid ((hb2.block _ (row_lt HX1.out)).trans HX1.out)
    have HB2 := Lib.hid (below_step HB1.out hb2)
    have HL := Lib.hid (klist_any 87 Y d kr w2 (by omega) HE2.out hd (Lib.hid (fun Y' w' h => hkr.out Y' w' (by omega))))
    clear hY hb2
    go_wp2_with fail
    refine HL.out.mono ?_; intro e w3 hpost
    obtain ⟨hb3, hcase⟩ := hpost
    rw [HYD.out] at hcase
    have HX3 := Lib.hid ((hb3.block _ (row_lt HX2.out)).trans HX2.out)
    have HB3 := Lib.hid (below_step HB2.out hb3)
    have HS2 : Hid (g + 1 < w2.heap.size) := Lib.hid (row_lt HX2.out)
    clear hb3
    have hx0 : w3.cell? ⟨g + 1, 0, none⟩ = some (.int .i64 6) := row_cell HX3.out (j := 0) rfl
    have hf0 : w3.frozen? ⟨g + 1, 0, none⟩ = false := row_thaw HX3.out 0
    have hx1 : w3.cell? ⟨g + 1, 1, none⟩ = some (.string ⟨#[]⟩) := row_cell HX3.out (j := 1) rfl
    have hf1 : w3.frozen? ⟨g + 1, 1, none⟩ = false := row_thaw HX3.out 1
    have hx2 : w3.cell? ⟨g + 1, 2, none⟩ = some (.bool false) := row_cell HX3.out (j := 2) rfl
    have hf2 : w3.frozen? ⟨g + 1, 2, none⟩ = false := row_thaw HX3.out 2
    have hx3 : w3.cell? ⟨g + 1, 3, none⟩ = some (.int .u64 0) := row_cell HX3.out (j := 3) rfl
    have hf3 : w3.frozen? ⟨g + 1, 3, none⟩ = false := row_thaw HX3.out 3
    have hx4 : w3.cell? ⟨g + 1, 4, none⟩ = some (.slice none 0 0) := row_cell HX3.out (j := 4) rfl
    have hf4 : w3.frozen? ⟨g + 1, 4, none⟩ = false := row_thaw HX3.out 4
    have hx5 : w3.cell? ⟨g + 1, 5, none⟩ = some (.slice none 0 0) := row_cell HX3.out (j := 5) rfl
    have hf5 : w3.frozen? ⟨g + 1, 5, none⟩ = false := row_thaw HX3.out 5
    have hx6 : w3.cell? ⟨g + 1, 6, none⟩ = some (.string ⟨#[]⟩) := row_cell HX3.out (j := 6) rfl
    have hf6 : w3.frozen? ⟨g + 1, 6, none⟩ = false := row_thaw HX3.out 6
    have hx7 : w3.cell? ⟨g + 1, 7, none⟩ = some (.string ⟨#[]⟩) := row_cell HX3.out (j := 7) rfl
    have hf7 : w3.frozen? ⟨g + 1, 7, none⟩ = false := row_thaw HX3.out 7
    cases hrd : lread kr ps.flatten d with
    | error c =>
      rw [hrd] at hcase
      obtain ⟨y, rfl, hec⟩ := hcase
      obtain ⟨T', z, rfl⟩ := hec.iface
      have HEC := Lib.hid hec
      have HRR : Hid (stands vr kr ⟨⟨6, ty, n, s, raw⟩, ps⟩ d [] = .error c) := Lib.hid (by rw [HST.out, hrd])
      clear hec hrd
      go_wp2_with fail
      have hu := (Upd.set w3 ⟨g + 1, 5, none⟩ (.slice none 0 0)).trans (Upd.set _ ⟨g + 1, 6, none⟩ (.string ⟨#[]⟩))
      have hua : Upd (fun k => k = g + 1) w3 _ := hu.trans (val_upd8 _ (g + 1) (.int .i64 6) (.string ⟨#[]⟩) (.bool false) (.int .u64 0) (.slice none 0 0) (.slice none 0 0) (.string ⟨#[]⟩) (.string ⟨#[]⟩))
      refine body_cell2v rfl rfl (load_val (val_set8 (row_set (row_set HX3.out 5 (.slice none 0 0)) 6 (.string ⟨#[]⟩)) _ _ _ _ _ _ _ _) rfl) rfl ?_
      refine ⟨HB3.out.trans (hua.below (by have := HB3.out.size; omega) (fun k _ h => by have h : k = g + 1 := h; have := HGG.out; omega)), ?_⟩
      rw [HRR.out]
      obtain ⟨ws, he⟩ := HEC.out
      exact ⟨_, _, rfl, ws, isErr_upd hua (fun k hk b m e h => by have hk : k = g + 1 := hk; subst hk; rw [HX3.out] at h; simp at h) he⟩
    | ok xi =>
      obtain ⟨xs, i⟩ := xi
      rw [hrd] at hcase
      obtain ⟨lo, lc, rfl, hrs⟩ := hcase
      have HRS := Lib.hid hrs
      have HRR : Hid (stands vr kr ⟨⟨6, ty, n, s, raw⟩, ps⟩ d [] = .ok (.mk 6 [] false 0 [] xs i [])) := Lib.hid (by rw [HST.out, hrd])
      clear hrs hrd
      go_wp2_with fail
      have hu := (Upd.set w3 ⟨g + 1, 5, none⟩ (.slice lo xs.length lc)).trans (Upd.set _ ⟨g + 1, 6, none⟩ (.string ⟨i.toArray⟩))
      have hua : Upd (fun k => k = g + 1) w3 _ := hu.trans (val_upd8 _ (g + 1) (.int .i64 6) (.string ⟨#[]⟩) (.bool false) (.int .u64 0) (.slice none 0 0) (.slice lo xs.length lc) (.string ⟨i.toArray⟩) (.string ⟨#[]⟩))
      refine body_cell2v rfl rfl (load_val (val_set8 (row_set (row_set HX3.out 5 (.slice lo xs.length lc)) 6 (.string ⟨i.toArray⟩)) _ _ _ _ _ _ _ _) rfl) rfl ?_
      refine ⟨HB3.out.trans (hua.below (by have := HB3.out.size; omega) (fun k _ h => by have h : k = g + 1 := h; have := HGG.out; omega)), ?_⟩
      rw [HRR.out]
      refine ⟨[.int .i64 6, strV [], .bool false, .int .u64 0, .slice none 0 0, .slice lo xs.length lc, strV i, strV []], rfl, ?_⟩
      rw [VRel]
      exact ⟨none, 0, lo, lc, rfl, by rw [VRels]; trivial, KRels.upd hua (fun k hk h => by have h : k = g + 1 := h; have := HS2.out; omega) (fun k hk => by have := HB2.out.size; omega) _ _ _ HRS.out⟩
  have d1 : ((num : Int) == (1 : Int)) = false := by rw [beq_eq_false_iff_ne]; omega
  have d7 : ((num : Int) == (7 : Int)) = false := by rw [beq_eq_false_iff_ne]; omega
  have d2 : ((num : Int) == (2 : Int)) = false := by rw [beq_eq_false_iff_ne]; omega
  have d3 : ((num : Int) == (3 : Int)) = false := by rw [beq_eq_false_iff_ne]; omega
  have d4 : ((num : Int) == (4 : Int)) = false := by rw [beq_eq_false_iff_ne]; omega
  have d5 : ((num : Int) == (5 : Int)) = false := by rw [beq_eq_false_iff_ne]; omega
  have d6 : ((num : Int) == (6 : Int)) = false := by rw [beq_eq_false_iff_ne]; omega
  have HST : Hid (stands vr kr ⟨⟨num, ty, n, s, raw⟩, ps⟩ d [] = .ok (.mk num [] false 0 [] [] [] [])) := Lib.hid (by unfold stands; simp [h1, h2, h3, h4, h5, h6, h7])
  clear h1 h2 h3 h4 h5 h6 h7
  go_enter Tryz.func152, Tryz.ntmps152
  go_wp2_with fail
  refine body_cell2v rfl rfl (load_val (new_two_c hg _ _) rfl) rfl ?_
  refine ⟨below_step (below_new _ _) (below_new _ _), ?_⟩
  rw [HST.out]
  exact ⟨[.int .i64 (num : Int), strV [], .bool false, .int .u64 0, .slice none 0 0, .slice none 0 0, strV [], strV []], rfl, vrel_plain _ _ _ _ _ _⟩
end Go.Proofs.YtandoppfbilhbaaGreatDoor

