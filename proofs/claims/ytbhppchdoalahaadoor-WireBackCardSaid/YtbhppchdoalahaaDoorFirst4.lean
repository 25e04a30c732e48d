/-
  hyglaw4.first: what the chapter's examples fix.
-/
import Derived.Test.YtbhppchdoalahaaDoorWireR5
import Derived.Test.YtbhppchdoalahaaDoorWireW
namespace Go.Proofs.YtbhppchdoalahaaDoor
open Go.RowKit

set_option maxRecDepth 100000 in
set_option maxHeartbeats 2000000 in
theorem first4 (w : World) : Calls Tryd.prog 19 #[] w fun e w' => e = .returned (.bool true) ∧ Below w.heap.size w w' := by
  have HN : Hid (wnx ((ByteArray.mk #[8, 172, 2]).data.toList.drop 0) 0 = .ok (⟨1, 0, 300, [], [8, 172, 2]⟩, 3)) := Lib.hid (by rfl)
  have HV : Hid (wrec 1 0 (vput 300) = [8, 172, 2]) := Lib.hid (by decide)
  have HY : Hid (wrec 2 2 (vput (ByteArray.mk #[97]).size ++ (ByteArray.mk #[97]).data.toList) = [18, 1, 97]) := Lib.hid (by decide)
  go_enter Tryd.func19, Tryd.ntmps19
  go_wp2_with fail
  refine (next_any ⟨#[8, 172, 2]⟩ 0 0 w (by decide) (by decide)).mono ?_; intro e w1 hp
  unfold NextPost at hp
  rw [HN.out] at hp
  obtain ⟨rfl, hb1⟩ := hp
  have HB1 := Lib.hid hb1
  clear hb1
  unfold recV
  go_wp2_with fail
  refine (wvarint_any 1 300 _ (by omega) (by omega) (by decide)).mono ?_; rintro e w2 ⟨rfl, hb2⟩
  rw [HV.out]
  have HR := Lib.hid ((RecRow.new w1 #[.int .i64 1, .int .i64 0, .int .u64 300, .string ⟨#[]⟩, .string ⟨#[8, 172, 2]⟩]).below hb2)
  have q0 : w2.cell? ⟨w1.heap.size, 0, none⟩ = some (.int .i64 1) := row_cell HR.out.row (j := 0) rfl
  have q1 : w2.cell? ⟨w1.heap.size, 1, none⟩ = some (.int .i64 0) := row_cell HR.out.row (j := 1) rfl
  have q2 : w2.cell? ⟨w1.heap.size, 2, none⟩ = some (.int .u64 300) := row_cell HR.out.row (j := 2) rfl
  have q4 : w2.cell? ⟨w1.heap.size, 4, none⟩ = some (.string ⟨#[8, 172, 2]⟩) := row_cell HR.out.row (j := 4) rfl
  have HB2 := Lib.hid (below_step (below_step HB1.out (below_new _ _)) hb2)
  clear hb2
  go_wp2_with fail
  refine (wbytes_any 2 ⟨#[97]⟩ _ (by omega) (by omega) (by decide)).mono ?_; rintro e w3 ⟨rfl, hb3⟩
  rw [HY.out]
  have HB3 := Lib.hid (below_step HB2.out hb3)
  clear hb3
  go_wp2_with fail
  go_ret
  exact ⟨rfl, HB3.out⟩
end Go.Proofs.YtbhppchdoalahaaDoor
