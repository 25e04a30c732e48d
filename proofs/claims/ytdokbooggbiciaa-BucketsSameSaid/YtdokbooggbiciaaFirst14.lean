/-
  hyglaw14.first.
-/
import Derived.Test.YtdokbooggbiciaaExpUn
import Derived.Deep.WholeRow
import Derived.Deep.Cut
import Derived.Laws.Tables
import Derived.Laws.CopyOwn
namespace Go.Proofs.Ytdokbooggbiciaa
open Go.RowKit

set_option maxRecDepth 1000000 in
set_option maxHeartbeats 4000000 in
theorem first14 (w : World) : Calls Try.prog 8 #[] w fun e w' => e = .returned (.bool true) ∧ Below w.heap.size w w' := by
  have HN : Hid (Nats .u64 (w.alloc (.cells #[.int .u64 1, .int .u64 300] 38)) (some ⟨w.heap.size, 0, none⟩) [1, 300]) := Lib.hid (nats_two w 1 300)
  have HK : Hid (BkOk ⟨-1, [1, 300]⟩) := Lib.hid ⟨by decide, by decide, by decide⟩
  have HP : Hid (bput ⟨-1, [1, 300]⟩ [] = [8, 1, 18, 3, 1, 172, 2]) := Lib.hid (by decide +kernel)
  have HM : Hid (bmay [] 0 = true) := Lib.hid (by rfl)
  go_enter Try.func8, Try.ntmps8
  go_wp2_with fail
  refine (mb_any ⟨-1, [1, 300]⟩ [] (some ⟨w.heap.size, 0, none⟩) 2 ⟨#[]⟩ 0 _ HK HN (by decide) (by decide) (Lib.hid rfl)).mono ?_; rintro e w1 ⟨hb1, ⟨_, rfl⟩ | ⟨hf, _⟩⟩
  case inr => rw [HM.out] at hf; cases hf
  rw [HP.out]
  have HB1 := Lib.hid (below_step (below_new w _) hb1)
  clear hb1
  go_upto_region 2 with fail
  refine wp_region_lit ?_
  refine wpList_plain rfl (fun K hK => ?_)
  go_simp
  refine (eu_any w1).mono ?_; rintro e w2 ⟨hb2, E, so, sc, hE, rfl⟩
  have HB2 := Lib.hid (below_step HB1.out hb2)
  have HE := Lib.hid hE
  clear hb2 hE
  refine hK _ _ ?_
  clear hK K
  refine wpList_plain rfl (fun K hK => ?_); go_simp; refine hK _ _ ?_; clear hK K
  refine wpList_plain rfl (fun K hK => ?_); go_simp; refine hK _ _ ?_; clear hK K
  refine wpList_plain rfl (fun K hK => ?_); go_simp; refine hK _ _ ?_; clear hK K
  refine wpList_plain rfl (fun K hK => ?_); go_simp; refine hK _ _ ?_; clear hK K
  have HZ := heap_alloc_new w2 (.cells #[.slice none 0 0, .int .u64 0, .int .u64 0, .int .u64 0, .bool false, .int .u64 0, .bool false, .int .u64 0, .bool false, .int .u64 0, .int .i32 0, .int .u64 0, .bool false, .int .i32 0, .slice none 0 0, .string ⟨#[]⟩, .bool false, .int .i32 0, .slice none 0 0, .string ⟨#[]⟩, .slice none 0 0, .int .u32 0, .int .u64 0, .string ⟨#[]⟩] 48)
  refine wpList_store_row rfl 48 (.tmp 3) (.tmp 13) rfl w2.heap.size (exp8 (.slice so 0 sc)) rfl (by show E = _; exact HE.out) 48 _ HZ (by kernel_rfl) rfl (by simp [exp8, Value.oneCell']) ?_
  have HX3 : Hid (((w2.alloc (.cells #[.slice none 0 0, .int .u64 0, .int .u64 0, .int .u64 0, .bool false, .int .u64 0, .bool false, .int .u64 0, .bool false, .int .u64 0, .int .i32 0, .int .u64 0, .bool false, .int .i32 0, .slice none 0 0, .string ⟨#[]⟩, .bool false, .int .i32 0, .slice none 0 0, .string ⟨#[]⟩, .slice none 0 0, .int .u32 0, .int .u64 0, .string ⟨#[]⟩] 48)).setRow w2.heap.size (exp8 (.slice so 0 sc))).heap[w2.heap.size]? = some (.cells (exp8 (.slice so 0 sc)) 48 (0, 0))) := Lib.hid (setRow_heap _ _ _ _ _ _ HZ)
  have HB3 : Hid (Below w.heap.size w ((w2.alloc (.cells #[.slice none 0 0, .int .u64 0, .int .u64 0, .int .u64 0, .bool false, .int .u64 0, .bool false, .int .u64 0, .bool false, .int .u64 0, .int .i32 0, .int .u64 0, .bool false, .int .i32 0, .slice none 0 0, .string ⟨#[]⟩, .bool false, .int .i32 0, .slice none 0 0, .string ⟨#[]⟩, .slice none 0 0, .int .u32 0, .int .u64 0, .string ⟨#[]⟩] 48)).setRow w2.heap.size (exp8 (.slice so 0 sc)))) := Lib.hid (below_setRow (below_step HB2.out (below_new _ _)) HB2.out.size _)
  obtain ⟨W3, hW3⟩ : ∃ W3, (w2.alloc (.cells #[.slice none 0 0, .int .u64 0, .int .u64 0, .int .u64 0, .bool false, .int .u64 0, .bool false, .int .u64 0, .bool false, .int .u64 0, .int .i32 0, .int .u64 0, .bool false, .int .i32 0, .slice none 0 0, .string ⟨#[]⟩, .bool false, .int .i32 0, .slice none 0 0, .string ⟨#[]⟩, .slice none 0 0, .int .u32 0, .int .u64 0, .string ⟨#[]⟩] 48)).setRow w2.heap.size (exp8 (.slice so 0 sc)) = W3 := ⟨_, rfl⟩
  rw [hW3] at HX3 HB3 ⊢
  have h12 : W3.cell? ⟨w2.heap.size, 12, none⟩ = some (.bool true) := row_cell HX3.out (j := 12) rfl
  have h16 : W3.cell? ⟨w2.heap.size, 16, none⟩ = some (.bool false) := row_cell HX3.out (j := 16) rfl
  clear hW3 HZ HE
  go_wp2_with fail
  go_ret
  exact ⟨rfl, HB3.out⟩
end Go.Proofs.Ytdokbooggbiciaa
