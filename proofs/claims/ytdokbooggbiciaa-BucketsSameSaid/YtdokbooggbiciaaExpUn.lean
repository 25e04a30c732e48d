/-
  exph.Unmarshal of one side that is empty: the whole call; hyglaw14.first.
-/
import Derived.Test.YtdokbooggbiciaaExpWhole
import Derived.Deep.Cut
import Derived.Deep.MidRow
import Derived.Laws.Tables
import Derived.Laws.CopyOwn
namespace Go.Proofs.Ytdokbooggbiciaa
open Go.RowKit

theorem nats_two (w : World) (a b : Nat) : Nats .u64 (w.alloc (.cells #[.int .u64 (a : Int), .int .u64 (b : Int)] 38)) (some ⟨w.heap.size, 0, none⟩) [a, b] := fun _ => by
  refine ⟨w.heap.size, 0, rfl, by simp, fun j hj => ?_⟩
  have : j = 0 ∨ j = 1 := by simp at hj; omega
  rcases this with rfl | rfl
  · exact row_cell (heap_alloc_new w _) (j := 0) rfl
  · exact row_cell (heap_alloc_new w _) (j := 1) rfl
/-- what comes of it -/
def exp8 (vs : Value) : Array Value := #[.slice none 0 0, .int .u64 0, .int .u64 0, .int .u64 0, .bool false, .int .u64 0, .bool false, .int .u64 0, .bool false, .int .u64 0, .int .i32 0, .int .u64 0, .bool true, .int .i32 0, vs, .string ⟨#[]⟩, .bool false, .int .i32 0, .slice none 0 0, .string ⟨#[]⟩, .slice none 0 0, .int .u32 0, .int .u64 0, .string ⟨#[]⟩]
set_option maxRecDepth 1000000 in
set_option maxHeartbeats 16000000 in
theorem eu_any (w : World) : Calls Try.prog 17 #[.string ⟨#[66, 0]⟩, .int .i64 1] w fun e w' => Below w.heap.size w w' ∧ ∃ E so sc, E = .agg (exp8 (.slice so 0 sc)) ∧ e = .returned (.tuple #[E, .nilIface]) := by
  obtain ⟨g, hg⟩ : ∃ g, w.heap.size = g := ⟨_, rfl⟩
  have HG := Lib.hid hg
  obtain ⟨W0, hW0⟩ : ∃ W0, ((w.alloc (.cells #[.int .i64 1] 3)).alloc (.cells #[.slice none 0 0, .int .u64 0, .int .u64 0, .int .u64 0, .bool false, .int .u64 0, .bool false, .int .u64 0, .bool false, .int .u64 0, .int .i32 0, .int .u64 0, .bool false, .int .i32 0, .slice none 0 0, .string ⟨#[]⟩, .bool false, .int .i32 0, .slice none 0 0, .string ⟨#[]⟩, .slice none 0 0, .int .u32 0, .int .u64 0, .string ⟨#[]⟩] 48)).alloc (.cells (readRow (.slice none 0 0)) 78) = W0 := ⟨_, rfl⟩
  have HB0 : Hid (Below w.heap.size w W0) := Lib.hid (by rw [← hW0]; exact below_step (below_step (below_new _ _) (below_new _ _)) (below_new _ _))
  have HD0 : Hid (W0.heap[g]? = some (.cells #[.int .i64 1] 3 (0, 0))) := Lib.hid (by rw [← hW0, ← hg]; exact (Below.heap_alloc _ _ _ (by simp; omega)).trans ((Below.heap_alloc _ _ _ (by simp)).trans (heap_alloc_new w _)))
  have HR0 : Hid (W0.heap[g + 1]? = some (.cells #[.slice none 0 0, .int .u64 0, .int .u64 0, .int .u64 0, .bool false, .int .u64 0, .bool false, .int .u64 0, .bool false, .int .u64 0, .int .i32 0, .int .u64 0, .bool false, .int .i32 0, .slice none 0 0, .string ⟨#[]⟩, .bool false, .int .i32 0, .slice none 0 0, .string ⟨#[]⟩, .slice none 0 0, .int .u32 0, .int .u64 0, .string ⟨#[]⟩] 48 (0, 0))) := Lib.hid (by rw [← hW0, ← hg]; exact (Below.heap_alloc _ _ _ (by simp)).trans (new_two_b _ _ _))
  have HX0 : Hid (W0.heap[g + 2]? = some (.cells (readRow (.slice none 0 0)) 78 (0, 0))) := Lib.hid (by
    rw [← hW0, ← hg]
    have := heap_alloc_new ((w.alloc (.cells #[.int .i64 1] 3)).alloc (.cells #[.slice none 0 0, .int .u64 0, .int .u64 0, .int .u64 0, .bool false, .int .u64 0, .bool false, .int .u64 0, .bool false, .int .u64 0, .int .i32 0, .int .u64 0, .bool false, .int .i32 0, .slice none 0 0, .string ⟨#[]⟩, .bool false, .int .i32 0, .slice none 0 0, .string ⟨#[]⟩, .slice none 0 0, .int .u32 0, .int .u64 0, .string ⟨#[]⟩] 48)) (.cells (readRow (.slice none 0 0)) 78)
    rwa [show ((w.alloc (.cells #[.int .i64 1] 3)).alloc (.cells #[.slice none 0 0, .int .u64 0, .int .u64 0, .int .u64 0, .bool false, .int .u64 0, .bool false, .int .u64 0, .bool false, .int .u64 0, .int .i32 0, .int .u64 0, .bool false, .int .i32 0, .slice none 0 0, .string ⟨#[]⟩, .bool false, .int .i32 0, .slice none 0 0, .string ⟨#[]⟩, .slice none 0 0, .int .u32 0, .int .u64 0, .string ⟨#[]⟩] 48)).heap.size = w.heap.size + 2 by simp] at this)
  have HW0 := Lib.hid (by have h := hW0; unfold readRow at h; exact h)
  have HTK : Hid ((expTaker (g + 2) g).rel 0 (fun k => k = g + 2 ∨ k = g ∨ (Value.slice none 0 0).ownBlock = some k) W0) := Lib.hid ⟨by omega, HD0.out, _, HX0.out, World.ownsRow_nil _ _ _ _, rfl⟩
  have HE1 := Lib.hid (enters_of Try.func35 (by kernel_rfl) rfl)
  have HE2 := Lib.hid (enters_of Try.func36 (by kernel_rfl) rfl)
  have HMR : Hid (mread (fun r => r.num == 8) estep 0 (⟨#[66, 0]⟩ : ByteArray).data.toList 1 = .ok (1, [])) := Lib.hid (by rfl)
  have HTT : Hid (∀ (r : Rec) (w : World), (∀ rs, wall (⟨#[66, 0]⟩ : ByteArray).data.toList 1 = .ok rs → r ∈ rs) → Calls Try.prog 35 #[.int .i64 (r.num : Int), .int .i64 (r.ty : Int)] w fun e w' => e = .returned (.bool (r.num == 8)) ∧ w = w') := Lib.hid (fun r w hm => by
    have hr := List.mem_singleton.1 (hm _ wall8)
    subst hr
    exact etakes8 w)
  have HKK : Hid (∀ (r : Rec) (st : Nat) (P : Nat → Prop) (w : World), (r.num == 8) = true → IsRec 1 r → r.raw.length ≤ (⟨#[66, 0]⟩ : ByteArray).size → (∀ rs, wall (⟨#[66, 0]⟩ : ByteArray).data.toList 1 = .ok rs → r ∈ rs) → (∃ pre : List Rec, (∀ x ∈ pre, IsRec 1 x) ∧ mfold (fun r => r.num == 8) estep 0 pre = .ok st ∧ (pre.flatMap Rec.raw).length + r.raw.length ≤ (⟨#[66, 0]⟩ : ByteArray).size) → (expTaker (g + 2) g).rel st P w → Calls Try.prog 36 (#[recV r] ++ #[.pointer (some ⟨g + 2, 0, none⟩), .pointer (some ⟨g, 0, none⟩)]) w (TakePost (expTaker (g + 2) g) estep st P r w)) := Lib.hid (fun r st P w _ hir _ hm hpre h => by
    have hr := List.mem_singleton.1 (hm _ wall8)
    subst hr
    refine eclo_any (g + 2) g st P w (Lib.hid h) ?_
    obtain ⟨pre, h1, h2, h3⟩ := hpre
    have h4 : pre = [] := by
      cases pre with
      | nil => rfl
      | cons a pre =>
        exfalso
        have := (isrec_facts (h1 a (List.mem_cons_self ..))).2.2.1
        have h9 : (rec8.raw).length = 2 := rfl
        have h8 : (⟨#[66, 0]⟩ : ByteArray).size = 2 := rfl
        rw [List.flatMap_cons, List.length_append] at h3
        omega
    subst h4
    simp only [mfold, Except.ok.injEq] at h2
    omega)
  clear hW0
  go_enter Try.func17, Try.ntmps17
  go_wp2_with fail
  rw [HW0.out]
  refine (mread_any (expTaker (g + 2) g) (fun r => r.num == 8) estep 35 36 #[.pointer (some ⟨g + 2, 0, none⟩), .pointer (some ⟨g, 0, none⟩)] 0 ⟨#[66, 0]⟩ 1 W0 (by decide) HE1.out HE2.out HTT.out HKK.out _ HTK.out).mono ?_; intro e w1 hpost
  obtain ⟨hu, hcase⟩ := hpost
  rw [HMR.out] at hcase
  obtain ⟨rfl, P', ⟨_, hd1, v, hx1, ho1, rfl⟩, hp⟩ := hcase
  obtain ⟨vo, vc, rfl⟩ := own_slice ho1
  have hu1 : Upd (fun k => k = g + 2 ∨ k = g) W0 w1 := hu.mono (fun k _ h => by
    rcases h with h | h | h
    · exact .inl h
    · exact .inr h
    · simp [Value.ownBlock] at h)
  have HR1 : Hid (w1.heap[g + 1]? = some (.cells #[.slice none 0 0, .int .u64 0, .int .u64 0, .int .u64 0, .bool false, .int .u64 0, .bool false, .int .u64 0, .bool false, .int .u64 0, .int .i32 0, .int .u64 0, .bool false, .int .i32 0, .slice none 0 0, .string ⟨#[]⟩, .bool false, .int .i32 0, .slice none 0 0, .string ⟨#[]⟩, .slice none 0 0, .int .u32 0, .int .u64 0, .string ⟨#[]⟩] 48 (0, 0))) := Lib.hid ((hu1.block (g + 1) (row_lt HR0.out) (by omega)).trans HR0.out)
  have HD1 := Lib.hid hd1
  have HX1 := Lib.hid hx1
  have HO1 := Lib.hid ho1
  have HB1 : Hid (Below w.heap.size w w1) := Lib.hid (HB0.out.trans (hu1.below (by have := HB0.out.size; omega) (fun k _ h => by have := HG.out; omega)))
  have hdc : w1.cell? ⟨g, 0, none⟩ = some (.int .i64 1) := row_cell hd1 (j := 0) rfl
  have hpc : w1.cell? ⟨g + 2, 24, none⟩ = some (.slice vo 1 vc) := row_cell hx1 (j := 24) rfl
  have hpc' : w1.cell? ⟨g + 1 + 1, 24, none⟩ = some (.slice vo 1 vc) := row_cell hx1 (j := 24) rfl
  clear hu hu1 hd1 hx1 ho1 hp
  go_wp2_with fail
  have HBR : Hid (bread ([[]] : List (List UInt8)).flatten 0 = .ok (⟨0, []⟩, [])) := Lib.hid (by rfl)
  refine (whole_ok 8 0 (.slice vo 1 vc) [[]] (g + 3) ⟨0, []⟩ [] w1 HO1 (by decide) (by decide) (by decide) HBR).mono ?_; rintro e w2 ⟨vs, rfl, hb2, ho2⟩
  obtain ⟨so, sc, rfl⟩ := own_slice ho2
  have HB2 := Lib.hid (HB1.out.trans (hb2.mono HB1.out.size))
  have HR2 : Hid (w2.heap[g + 1]? = some (.cells #[.slice none 0 0, .int .u64 0, .int .u64 0, .int .u64 0, .bool false, .int .u64 0, .bool false, .int .u64 0, .bool false, .int .u64 0, .int .i32 0, .int .u64 0, .bool false, .int .i32 0, .slice none 0 0, .string ⟨#[]⟩, .bool false, .int .i32 0, .slice none 0 0, .string ⟨#[]⟩, .slice none 0 0, .int .u32 0, .int .u64 0, .string ⟨#[]⟩] 48 (0, 0))) := Lib.hid ((hb2.block _ (row_lt HR1.out)).trans HR1.out)
  have HD2 : Hid (w2.heap[g]? = some (.cells #[.int .i64 1] 3 (0, 0))) := Lib.hid ((hb2.block _ (row_lt HD1.out)).trans HD1.out)
  have HX2 : Hid (w2.heap[g + 1 + 1]? = some (.cells (readRow (.slice vo 1 vc)) 78 (0, 0))) := Lib.hid ((hb2.block _ (row_lt HX1.out)).trans HX1.out)
  clear hb2 ho2 hdc hpc hpc'
  have hdc : w2.cell? ⟨g, 0, none⟩ = some (.int .i64 1) := row_cell HD2.out (j := 0) rfl
  have hp25 : w2.cell? ⟨g + 1 + 1, 25, none⟩ = some (.slice none 0 0) := row_cell HX2.out (j := 25) rfl
  have hc12 : w2.cell? ⟨g + 1 + 1, 12, none⟩ = some (.bool false) := row_cell HX2.out (j := 12) rfl
  have hf12 : w2.frozen? ⟨g + 1 + 1, 12, none⟩ = false := row_thaw HX2.out 12
  have hc13 : w2.cell? ⟨g + 1 + 1, 13, none⟩ = some (.int .i32 0) := row_cell HX2.out (j := 13) rfl
  have hf13 : w2.frozen? ⟨g + 1 + 1, 13, none⟩ = false := row_thaw HX2.out 13
  have hc14 : w2.cell? ⟨g + 1 + 1, 14, none⟩ = some (.slice none 0 0) := row_cell HX2.out (j := 14) rfl
  have hf14 : w2.frozen? ⟨g + 1 + 1, 14, none⟩ = false := row_thaw HX2.out 14
  have hc15 : w2.cell? ⟨g + 1 + 1, 15, none⟩ = some (.string ⟨#[]⟩) := row_cell HX2.out (j := 15) rfl
  have hf15 : w2.frozen? ⟨g + 1 + 1, 15, none⟩ = false := row_thaw HX2.out 15
  unfold bukV
  go_wp2_with fail
  obtain ⟨W3, hW3⟩ : ∃ W3, ((((w2.setCell ⟨g + 1 + 1, 13, none⟩ (.int .i32 0)).setCell ⟨g + 1 + 1, 14, none⟩ (.slice so 0 sc)).setCell ⟨g + 1 + 1, 15, none⟩ (.string ⟨#[]⟩)).setCell ⟨g + 1 + 1, 12, none⟩ (.bool true)) = W3 := ⟨_, rfl⟩
  have hu3 : Upd (fun k => k = g + 1 + 1) w2 W3 := by
    rw [← hW3]
    exact (((Upd.set w2 ⟨g + 1 + 1, 13, none⟩ _).trans (Upd.set _ ⟨g + 1 + 1, 14, none⟩ _)).trans (Upd.set _ ⟨g + 1 + 1, 15, none⟩ _)).trans (Upd.set _ ⟨g + 1 + 1, 12, none⟩ _)
  have HX3 : Hid (W3.heap[g + 1 + 1]? = some (.cells #[.slice none 0 0, .int .u64 0, .int .u64 0, .int .u64 0, .bool false, .int .u64 0, .bool false, .int .u64 0, .bool false, .int .u64 0, .int .i32 0, .int .u64 0, .bool true, .int .i32 0, .slice so 0 sc, .string ⟨#[]⟩, .bool false, .int .i32 0, .slice none 0 0, .string ⟨#[]⟩, .slice none 0 0, .int .u32 0, .int .u64 0, .string ⟨#[]⟩, .slice vo 1 vc, .slice none 0 0] 78 (0, 0))) := Lib.hid (by
    rw [← hW3]
    exact row_set (row_set (row_set (row_set HX2.out 13 _) 14 _) 15 _) 12 _)
  have HR3 : Hid (W3.heap[g + 1]? = some (.cells #[.slice none 0 0, .int .u64 0, .int .u64 0, .int .u64 0, .bool false, .int .u64 0, .bool false, .int .u64 0, .bool false, .int .u64 0, .int .i32 0, .int .u64 0, .bool false, .int .i32 0, .slice none 0 0, .string ⟨#[]⟩, .bool false, .int .i32 0, .slice none 0 0, .string ⟨#[]⟩, .slice none 0 0, .int .u32 0, .int .u64 0, .string ⟨#[]⟩] 48 (0, 0))) := Lib.hid ((hu3.block _ (row_lt HR2.out) (by omega)).trans HR2.out)
  have HB3 : Hid (Below w.heap.size w W3) := Lib.hid (HB2.out.trans (hu3.below HB2.out.size (fun k _ h => by have := HG.out; omega)))
  rw [hW3]
  clear hW3 hu3 hdc hp25 hc12 hc13 hc14 hc15 hf12 hf13 hf14 hf15
  refine (whole_none 9 0 W3).mono ?_; rintro e w4 ⟨rfl, hb4⟩
  have HB4 := Lib.hid (HB3.out.trans (hb4.mono HB3.out.size))
  have HR4 : Hid (w4.heap[g + 1]? = some (.cells #[.slice none 0 0, .int .u64 0, .int .u64 0, .int .u64 0, .bool false, .int .u64 0, .bool false, .int .u64 0, .bool false, .int .u64 0, .int .i32 0, .int .u64 0, .bool false, .int .i32 0, .slice none 0 0, .string ⟨#[]⟩, .bool false, .int .i32 0, .slice none 0 0, .string ⟨#[]⟩, .slice none 0 0, .int .u32 0, .int .u64 0, .string ⟨#[]⟩] 48 (0, 0))) := Lib.hid ((hb4.block _ (row_lt HR3.out)).trans HR3.out)
  have HX4 : Hid (w4.heap[g + 1 + 1]? = some (.cells #[.slice none 0 0, .int .u64 0, .int .u64 0, .int .u64 0, .bool false, .int .u64 0, .bool false, .int .u64 0, .bool false, .int .u64 0, .int .i32 0, .int .u64 0, .bool true, .int .i32 0, .slice so 0 sc, .string ⟨#[]⟩, .bool false, .int .i32 0, .slice none 0 0, .string ⟨#[]⟩, .slice none 0 0, .int .u32 0, .int .u64 0, .string ⟨#[]⟩, .slice vo 1 vc, .slice none 0 0] 78 (0, 0))) := Lib.hid ((hb4.block _ (row_lt HX3.out)).trans HX3.out)
  clear hb4
  have hf16 : w4.frozen? ⟨g + 1 + 1, 16, none⟩ = false := row_thaw HX4.out 16
  have hf17 : w4.frozen? ⟨g + 1 + 1, 17, none⟩ = false := row_thaw HX4.out 17
  have hf18 : w4.frozen? ⟨g + 1 + 1, 18, none⟩ = false := row_thaw HX4.out 18
  have hf19 : w4.frozen? ⟨g + 1 + 1, 19, none⟩ = false := row_thaw HX4.out 19
  have hf23 : w4.frozen? ⟨g + 1 + 1, 23, none⟩ = false := row_thaw HX4.out 23
  have hc16 : w4.cell? ⟨g + 1 + 1, 16, none⟩ = some (.bool false) := row_cell HX4.out (j := 16) rfl
  have hc17 : w4.cell? ⟨g + 1 + 1, 17, none⟩ = some (.int .i32 0) := row_cell HX4.out (j := 17) rfl
  have hc18 : w4.cell? ⟨g + 1 + 1, 18, none⟩ = some (.slice none 0 0) := row_cell HX4.out (j := 18) rfl
  have hc19 : w4.cell? ⟨g + 1 + 1, 19, none⟩ = some (.string ⟨#[]⟩) := row_cell HX4.out (j := 19) rfl
  have hc23 : w4.cell? ⟨g + 1 + 1, 23, none⟩ = some (.string ⟨#[]⟩) := row_cell HX4.out (j := 23) rfl
  unfold bukV
  go_upto_region 10 with fail
  obtain ⟨W5, hW5⟩ : ∃ W5, (((((w4.setCell ⟨g + 1 + 1, 17, none⟩ (.int .i32 0)).setCell ⟨g + 1 + 1, 18, none⟩ (.slice none 0 0)).setCell ⟨g + 1 + 1, 19, none⟩ (.string ⟨#[]⟩)).setCell ⟨g + 1 + 1, 16, none⟩ (.bool false)).setCell ⟨g + 1 + 1, 23, none⟩ (.string ⟨#[]⟩)) = W5 := ⟨_, rfl⟩
  have hu5 : Upd (fun k => k = g + 1 + 1) w4 W5 := by
    rw [← hW5]
    exact ((((Upd.set w4 ⟨g + 1 + 1, 17, none⟩ _).trans (Upd.set _ ⟨g + 1 + 1, 18, none⟩ _)).trans (Upd.set _ ⟨g + 1 + 1, 19, none⟩ _)).trans (Upd.set _ ⟨g + 1 + 1, 16, none⟩ _)).trans (Upd.set _ ⟨g + 1 + 1, 23, none⟩ _)
  have HX5 : Hid (W5.heap[g + 1 + 1]? = some (.cells #[.slice none 0 0, .int .u64 0, .int .u64 0, .int .u64 0, .bool false, .int .u64 0, .bool false, .int .u64 0, .bool false, .int .u64 0, .int .i32 0, .int .u64 0, .bool true, .int .i32 0, .slice so 0 sc, .string ⟨#[]⟩, .bool false, .int .i32 0, .slice none 0 0, .string ⟨#[]⟩, .slice none 0 0, .int .u32 0, .int .u64 0, .string ⟨#[]⟩, .slice vo 1 vc, .slice none 0 0] 78 (0, 0))) := Lib.hid (by
    rw [← hW5]
    exact row_set (row_set (row_set (row_set (row_set HX4.out 17 _) 18 _) 19 _) 16 _) 23 _)
  have HR5 : Hid (W5.heap[g + 1]? = some (.cells #[.slice none 0 0, .int .u64 0, .int .u64 0, .int .u64 0, .bool false, .int .u64 0, .bool false, .int .u64 0, .bool false, .int .u64 0, .int .i32 0, .int .u64 0, .bool false, .int .i32 0, .slice none 0 0, .string ⟨#[]⟩, .bool false, .int .i32 0, .slice none 0 0, .string ⟨#[]⟩, .slice none 0 0, .int .u32 0, .int .u64 0, .string ⟨#[]⟩] 48 (0, 0))) := Lib.hid ((hu5.block _ (row_lt HR4.out) (by omega)).trans HR4.out)
  have HB5 : Hid (Below w.heap.size w W5) := Lib.hid (HB4.out.trans (hu5.below HB4.out.size (fun k _ h => by have := HG.out; omega)))
  rw [hW5]
  clear hW5 hu5 hf16 hf17 hf18 hf19 hf23 hc16 hc17 hc18 hc19 hc23
  refine wp_region_lit ?_
  refine wpList_plain rfl (fun K hK => ?_)
  go_simp
  refine hK _ _ ?_
  clear hK K
  refine wpList_load_mid rfl 48 (.tmp 53) rfl (g + 1 + 1) 0 rfl [.slice none 0 0, .int .u64 0, .int .u64 0, .int .u64 0, .bool false, .int .u64 0, .bool false, .int .u64 0, .bool false, .int .u64 0, .int .i32 0, .int .u64 0, .bool true, .int .i32 0, .slice so 0 sc, .string ⟨#[]⟩, .bool false, .int .i32 0, .slice none 0 0, .string ⟨#[]⟩, .slice none 0 0, .int .u32 0, .int .u64 0, .string ⟨#[]⟩] _ (fun j u hj => ?_) Try.underlying48 rfl (by kernel_rfl) ?_
  · rw [Nat.zero_add, row_cell HX5.out (j := j) (u := u)]
    have hj24 : j < 24 := (List.getElem?_eq_some_iff.1 hj).1
    rw [← hj]
    match j, hj24 with
    | 0, _ => rfl
    | 1, _ => rfl
    | 2, _ => rfl
    | 3, _ => rfl
    | 4, _ => rfl
    | 5, _ => rfl
    | 6, _ => rfl
    | 7, _ => rfl
    | 8, _ => rfl
    | 9, _ => rfl
    | 10, _ => rfl
    | 11, _ => rfl
    | 12, _ => rfl
    | 13, _ => rfl
    | 14, _ => rfl
    | 15, _ => rfl
    | 16, _ => rfl
    | 17, _ => rfl
    | 18, _ => rfl
    | 19, _ => rfl
    | 20, _ => rfl
    | 21, _ => rfl
    | 22, _ => rfl
    | 23, _ => rfl
  refine wpList_store_row rfl 48 (.tmp 4) (.tmp 54) rfl (g + 1) #[.slice none 0 0, .int .u64 0, .int .u64 0, .int .u64 0, .bool false, .int .u64 0, .bool false, .int .u64 0, .bool false, .int .u64 0, .int .i32 0, .int .u64 0, .bool true, .int .i32 0, .slice so 0 sc, .string ⟨#[]⟩, .bool false, .int .i32 0, .slice none 0 0, .string ⟨#[]⟩, .slice none 0 0, .int .u32 0, .int .u64 0, .string ⟨#[]⟩] rfl rfl 48 #[.slice none 0 0, .int .u64 0, .int .u64 0, .int .u64 0, .bool false, .int .u64 0, .bool false, .int .u64 0, .bool false, .int .u64 0, .int .i32 0, .int .u64 0, .bool false, .int .i32 0, .slice none 0 0, .string ⟨#[]⟩, .bool false, .int .i32 0, .slice none 0 0, .string ⟨#[]⟩, .slice none 0 0, .int .u32 0, .int .u64 0, .string ⟨#[]⟩] HR5.out (by kernel_rfl) rfl (by simp [Value.oneCell']) ?_
  have HS : Hid ((W5.setRow (g + 1) #[.slice none 0 0, .int .u64 0, .int .u64 0, .int .u64 0, .bool false, .int .u64 0, .bool false, .int .u64 0, .bool false, .int .u64 0, .int .i32 0, .int .u64 0, .bool true, .int .i32 0, .slice so 0 sc, .string ⟨#[]⟩, .bool false, .int .i32 0, .slice none 0 0, .string ⟨#[]⟩, .slice none 0 0, .int .u32 0, .int .u64 0, .string ⟨#[]⟩]).heap[g + 1]? = some (.cells #[.slice none 0 0, .int .u64 0, .int .u64 0, .int .u64 0, .bool false, .int .u64 0, .bool false, .int .u64 0, .bool false, .int .u64 0, .int .i32 0, .int .u64 0, .bool true, .int .i32 0, .slice so 0 sc, .string ⟨#[]⟩, .bool false, .int .i32 0, .slice none 0 0, .string ⟨#[]⟩, .slice none 0 0, .int .u32 0, .int .u64 0, .string ⟨#[]⟩] 48 (0, 0))) := Lib.hid (setRow_heap _ _ _ _ _ _ HR5.out)
  have HBS : Hid (Below w.heap.size w (W5.setRow (g + 1) #[.slice none 0 0, .int .u64 0, .int .u64 0, .int .u64 0, .bool false, .int .u64 0, .bool false, .int .u64 0, .bool false, .int .u64 0, .int .i32 0, .int .u64 0, .bool true, .int .i32 0, .slice so 0 sc, .string ⟨#[]⟩, .bool false, .int .i32 0, .slice none 0 0, .string ⟨#[]⟩, .slice none 0 0, .int .u32 0, .int .u64 0, .string ⟨#[]⟩])) := Lib.hid (below_setRow HB5.out (by have := HG.out; omega) _)
  obtain ⟨W6, hW6⟩ : ∃ W6, W5.setRow (g + 1) #[.slice none 0 0, .int .u64 0, .int .u64 0, .int .u64 0, .bool false, .int .u64 0, .bool false, .int .u64 0, .bool false, .int .u64 0, .int .i32 0, .int .u64 0, .bool true, .int .i32 0, .slice so 0 sc, .string ⟨#[]⟩, .bool false, .int .i32 0, .slice none 0 0, .string ⟨#[]⟩, .slice none 0 0, .int .u32 0, .int .u64 0, .string ⟨#[]⟩] = W6 := ⟨_, rfl⟩
  rw [hW6] at HS HBS ⊢
  clear hW6
  go_wp2_with fail
  refine body_cell2 rfl rfl (run_loadVar_row W6 (g + 1) 48 48 _ (0, 0) _ HS.out Try.underlying48 rfl (by kernel_rfl)) rfl ?_
  exact ⟨HBS.out, _, so, sc, rfl, rfl⟩
end Go.Proofs.Ytdokbooggbiciaa
