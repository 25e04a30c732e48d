/-
  exph.Unmarshal of one side that is empty: the whole call.
-/
import Derived.Test.YtdokbooggbiciaaExpFirst
import Derived.Test.YtdokbooggbiciaaRetCell
namespace Go.Proofs.Ytdokbooggbiciaa
open Go.RowKit

set_option maxRecDepth 1000000 in
set_option maxHeartbeats 4000000 in
theorem etakes8 (w : World) : Calls Try.prog 35 #[.int .i64 8, .int .i64 2] w fun e w' => e = .returned (.bool true) ∧ w = w' := by
  go_enter Try.func35, Try.ntmps35
  go_wp2_with fail
  go_ret
  exact ⟨rfl, rfl⟩
set_option maxRecDepth 1000000 in
set_option maxHeartbeats 4000000 in
theorem whole_none (num d : Int) (w : World) : Calls Try.prog 38 #[.agg #[.slice none 0 0], .int .i64 num, .int .i64 d, .func (.func 13) #[] #[]] w fun e w' => e = .returned (.tuple #[bukV ⟨0, []⟩ (.slice none 0 0) [], .bool false, .nilIface]) ∧ Below w.heap.size w w' := by
  obtain ⟨g, hg⟩ : ∃ g, w.heap.size = g := ⟨_, rfl⟩
  obtain ⟨W0, hW0⟩ : ∃ W0, ((w.alloc (.cells #[.slice none 0 0] 76)).alloc (.cells #[.int .i32 0, .slice none 0 0, .string ⟨#[]⟩] 24)).alloc (.cells #[.int .i32 0, .slice none 0 0, .string ⟨#[]⟩] 24) = W0 := ⟨_, rfl⟩
  have HB0 : Hid (Below w.heap.size w W0) := Lib.hid (by rw [← hW0]; exact below_step (below_step (below_new _ _) (below_new _ _)) (below_new _ _))
  have HP : Hid (W0.heap[g]? = some (.cells #[.slice none 0 0] 76 (0, 0))) := Lib.hid (by rw [← hW0, ← hg]; exact (Below.heap_alloc _ _ _ (by simp; omega)).trans ((Below.heap_alloc _ _ _ (by simp)).trans (heap_alloc_new w _)))
  have HA : Hid (W0.heap[g + 1]? = some (.cells #[.int .i32 0, .slice none 0 0, .string ⟨#[]⟩] 24 (0, 0))) := Lib.hid (by rw [← hW0, ← hg]; exact (Below.heap_alloc _ _ _ (by simp)).trans (new_two_b _ _ _))
  have HC : Hid (W0.heap[g + 2]? = some (.cells #[.int .i32 0, .slice none 0 0, .string ⟨#[]⟩] 24 (0, 0))) := Lib.hid (by
    rw [← hW0, ← hg]
    have := heap_alloc_new ((w.alloc (.cells #[.slice none 0 0] 76)).alloc (.cells #[.int .i32 0, .slice none 0 0, .string ⟨#[]⟩] 24)) (.cells #[.int .i32 0, .slice none 0 0, .string ⟨#[]⟩] 24)
    rwa [show ((w.alloc (.cells #[.slice none 0 0] 76)).alloc (.cells #[.int .i32 0, .slice none 0 0, .string ⟨#[]⟩] 24)).heap.size = w.heap.size + 2 by simp] at this)
  have HW0 := Lib.hid hW0
  have HG := Lib.hid hg
  clear hW0
  go_enter Try.func38, Try.ntmps38
  go_wp2_with fail
  rw [HW0.out]
  refine (phas_any (cs := #[.slice none 0 0]) (T := 76) g 0 none 0 0 W0 HP rfl).mono ?_; rintro e w' ⟨rfl, rfl⟩
  have hc0 : W0.cell? ⟨g + 2, 0, none⟩ = some (.int .i32 0) := row_cell HC.out (j := 0) rfl
  have hc1 : W0.cell? ⟨g + 2, 1, none⟩ = some (.slice none 0 0) := row_cell HC.out (j := 1) rfl
  have hc2 : W0.cell? ⟨g + 2, 2, none⟩ = some (.string ⟨#[]⟩) := row_cell HC.out (j := 2) rfl
  have ha0 : W0.cell? ⟨g + 1, 0, none⟩ = some (.int .i32 0) := row_cell HA.out (j := 0) rfl
  have ha1 : W0.cell? ⟨g + 1, 1, none⟩ = some (.slice none 0 0) := row_cell HA.out (j := 1) rfl
  have ha2 : W0.cell? ⟨g + 1, 2, none⟩ = some (.string ⟨#[]⟩) := row_cell HA.out (j := 2) rfl
  have hf0 : W0.frozen? ⟨g + 1, 0, none⟩ = false := row_thaw HA.out 0
  have hf1 : W0.frozen? ⟨g + 1, 1, none⟩ = false := row_thaw HA.out 1
  have hf2 : W0.frozen? ⟨g + 1, 2, none⟩ = false := row_thaw HA.out 2
  have d0 : decide ((0 : Nat) < 0) = false := rfl
  go_wp2_with fail
  have hu3 := upd_three W0 (g + 1) (.int .i32 0) (.slice none 0 0) (.string ⟨#[]⟩)
  refine body_cell3 rfl rfl (load_buk (set_three HA.out _ _ _) rfl) rfl ?_
  exact ⟨rfl, HB0.out.trans (hu3.below (by have := HB0.out.size; omega) (fun k _ h => by have := HG.out; omega))⟩
set_option maxRecDepth 1000000 in
set_option maxHeartbeats 8000000 in
theorem whole_ok (num d : Int) (v : Value) (ps : List (List UInt8)) (B : Nat) (x : Bk) (u : List UInt8) (w : World) (hown : Hid (w.ownsRow B 9 1 v ps.length (ps.map strV))) (h0 : 0 < ps.length) (hl : ps.length ≤ 1000) (hf : ps.flatten.length ≤ 100000) (hbr : Hid (bread ps.flatten d = .ok (x, u))) :
    Calls Try.prog 38 #[.agg #[v], .int .i64 num, .int .i64 d, .func (.func 13) #[] #[]] w fun e w' => ∃ vs, e = .returned (.tuple #[bukV x vs u, .bool true, .nilIface]) ∧ Below w.heap.size w w' ∧ w'.ownsRow w.heap.size 38 1 vs x.cs.length (nats64 x.cs) := by
  obtain ⟨ao, cap, rfl⟩ := own_slice hown.out
  obtain ⟨g, hg⟩ : ∃ g, w.heap.size = g := ⟨_, rfl⟩
  obtain ⟨W0, hW0⟩ : ∃ W0, ((w.alloc (.cells #[.slice ao ps.length cap] 76)).alloc (.cells #[.int .i32 0, .slice none 0 0, .string ⟨#[]⟩] 24)).alloc (.cells #[.int .i32 0, .slice none 0 0, .string ⟨#[]⟩] 24) = W0 := ⟨_, rfl⟩
  have HB0 : Hid (Below w.heap.size w W0) := Lib.hid (by rw [← hW0]; exact below_step (below_step (below_new _ _) (below_new _ _)) (below_new _ _))
  have HP : Hid (W0.heap[g]? = some (.cells #[.slice ao ps.length cap] 76 (0, 0))) := Lib.hid (by rw [← hW0, ← hg]; exact (Below.heap_alloc _ _ _ (by simp; omega)).trans ((Below.heap_alloc _ _ _ (by simp)).trans (heap_alloc_new w _)))
  have HA : Hid (W0.heap[g + 1]? = some (.cells #[.int .i32 0, .slice none 0 0, .string ⟨#[]⟩] 24 (0, 0))) := Lib.hid (by rw [← hW0, ← hg]; exact (Below.heap_alloc _ _ _ (by simp)).trans (new_two_b _ _ _))
  have HO0 : Hid (W0.ownsRow B 9 1 (.slice ao ps.length cap) ps.length (ps.map strV)) := Lib.hid (own_below hown.out HB0.out)
  have HW0 := Lib.hid hW0
  have HG := Lib.hid hg
  clear hW0
  have d0 : decide (0 < ps.length) = true := decide_eq_true h0
  go_enter Try.func38, Try.ntmps38
  go_wp2_with fail
  rw [HW0.out]
  refine (phas_any (cs := #[.slice ao ps.length cap]) (T := 76) g 0 ao ps.length cap W0 HP rfl).mono ?_; rintro e w' ⟨rfl, rfl⟩
  rw [d0]
  go_wp2_with fail
  refine (pbytes_any (cs := #[.slice ao ps.length cap]) (T := 76) g 0 _ ps B W0 HP rfl HO0 (by omega) (by omega)).mono ?_; rintro e w1 ⟨rfl, hb1⟩
  have HB1 := Lib.hid (HB0.out.trans (hb1.mono HB0.out.size))
  have HA1 : Hid (w1.heap[g + 1]? = some (.cells #[.int .i32 0, .slice none 0 0, .string ⟨#[]⟩] 24 (0, 0))) := Lib.hid ((hb1.block _ (row_lt HA.out)).trans HA.out)
  obtain ⟨X, hX⟩ : ∃ X : ByteArray, (⟨ps.flatten.toArray⟩ : ByteArray) = X := ⟨_, rfl⟩
  have hXs : X.size = ps.flatten.length := by rw [← hX]; simp [ByteArray.size]
  have HXD : Hid (X.data.toList = ps.flatten) := Lib.hid (by rw [← hX])
  rw [hX]
  clear hb1 hX
  go_wp2_with fail
  refine (ub_any X d w1 (by omega)).mono ?_; intro e w2 hpost
  obtain ⟨hb2, hcase⟩ := hpost
  rw [HXD.out, hbr.out] at hcase
  obtain ⟨vs, rfl, hown2⟩ := hcase
  obtain ⟨vo, vc, rfl⟩ := own_slice hown2
  have HB2 := Lib.hid (HB1.out.trans (hb2.mono HB1.out.size))
  have HA2 : Hid (w2.heap[g + 1]? = some (.cells #[.int .i32 0, .slice none 0 0, .string ⟨#[]⟩] 24 (0, 0))) := Lib.hid ((hb2.block _ (row_lt HA1.out)).trans HA1.out)
  have HO2 := Lib.hid (own_base_m hown2 HB1.out.size)
  have hs12 := HB1.out.size
  have ha1w := row_lt HA1.out
  have HLO : Hid (∀ k, (Value.slice vo x.cs.length vc).ownBlock = some k → g + 1 < k ∧ k < w2.heap.size) := Lib.hid (fun k hk => by have := hown2.lt k hk; omega)
  clear hb2 hown2
  unfold bukV
  obtain ⟨W3, hW3⟩ : ∃ W3, w2.alloc (.cells #[.int .i32 x.off, .slice vo x.cs.length vc, .string ⟨u.toArray⟩] 24) = W3 := ⟨_, rfl⟩
  have HB3 : Hid (Below w2.heap.size w2 W3) := Lib.hid (by rw [← hW3]; exact below_new _ _)
  have HX3 : Hid (W3.heap[w2.heap.size]? = some (.cells #[.int .i32 x.off, .slice vo x.cs.length vc, .string ⟨u.toArray⟩] 24 (0, 0))) := Lib.hid (by rw [← hW3]; exact heap_alloc_new w2 _)
  have HA3 : Hid (W3.heap[g + 1]? = some (.cells #[.int .i32 0, .slice none 0 0, .string ⟨#[]⟩] 24 (0, 0))) := Lib.hid ((HB3.out.block _ (row_lt HA2.out)).trans HA2.out)
  have HW3 := Lib.hid hW3
  have hf0 : w2.frozen? ⟨g + 1, 0, none⟩ = false := row_thaw HA2.out 0
  have hf1 : w2.frozen? ⟨g + 1, 1, none⟩ = false := row_thaw HA2.out 1
  have hf2 : w2.frozen? ⟨g + 1, 2, none⟩ = false := row_thaw HA2.out 2
  have hc0 : w2.cell? ⟨g + 1, 0, none⟩ = some (.int .i32 0) := row_cell HA2.out (j := 0) rfl
  have hc1 : w2.cell? ⟨g + 1, 1, none⟩ = some (.slice none 0 0) := row_cell HA2.out (j := 1) rfl
  have hc2 : w2.cell? ⟨g + 1, 2, none⟩ = some (.string ⟨#[]⟩) := row_cell HA2.out (j := 2) rfl
  have hgw : g + 1 < w2.heap.size := row_lt HA2.out
  have hfz0 : (w2.alloc (.cells #[.int .i32 x.off, .slice vo x.cs.length vc, .string ⟨u.toArray⟩] 24)).frozen? ⟨g + 1, 0, none⟩ = false := by rw [hW3]; exact row_thaw HA3.out 0
  have hfz1 : (w2.alloc (.cells #[.int .i32 x.off, .slice vo x.cs.length vc, .string ⟨u.toArray⟩] 24)).frozen? ⟨g + 1, 1, none⟩ = false := by rw [hW3]; exact row_thaw HA3.out 1
  have hfz2 : (w2.alloc (.cells #[.int .i32 x.off, .slice vo x.cs.length vc, .string ⟨u.toArray⟩] 24)).frozen? ⟨g + 1, 2, none⟩ = false := by rw [hW3]; exact row_thaw HA3.out 2
  clear hW3
  go_wp2_with fail
  have hu3 := upd_three w2 (g + 1) (.int .i32 x.off) (.slice vo x.cs.length vc) (.string ⟨u.toArray⟩)
  have h3 := set_three HA2.out (.int .i32 x.off) (.slice vo x.cs.length vc) (.string ⟨u.toArray⟩)
  refine body_cell3 rfl rfl (load_buk ((Below.heap_alloc _ _ _ (row_lt h3)).trans h3) rfl) rfl ?_
  have hu4 := hu3.trans (Upd.alloc _ _ (.cells #[.int .i32 x.off, .slice vo x.cs.length vc, .string ⟨u.toArray⟩] 24))
  refine ⟨_, rfl, HB2.out.trans (hu4.below (by have := HB2.out.size; omega) (fun k _ h => by have := HG.out; omega)), ?_⟩
  exact hu4.own HO2.out (fun k hk h => by have := (HLO.out k hk).1; omega)
end Go.Proofs.Ytdokbooggbiciaa
