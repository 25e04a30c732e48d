/-
  wire.Fixed: eight bytes, the least first.
-/
import Derived.Test.YteknippgiljgeaaGreatDoorWireW
import Derived.Test.YteknippgiljgeaaGreatDoorUpd
import Derived.Deep.LoopGhost
namespace Go.Proofs.YteknippgiljgeaaGreatDoor
open Go.RowKit

/-- a number's bytes, the least first -/
def eight : Nat → Nat → List UInt8
  | 0, _ => []
  | k + 1, n => UInt8.ofNat (n % 256) :: eight k (n / 256)
theorem eight_8 (n : Nat) : eight 8 n = [UInt8.ofNat (n % 256), UInt8.ofNat (n / 256 % 256), UInt8.ofNat (n / 65536 % 256), UInt8.ofNat (n / 16777216 % 256), UInt8.ofNat (n / 4294967296 % 256), UInt8.ofNat (n / 1099511627776 % 256), UInt8.ofNat (n / 281474976710656 % 256), UInt8.ofNat (n / 72057594037927936 % 256)] := by
  simp only [eight, Nat.div_div_eq_div_mul]
theorem ofNat_val (x : Nat) (v : Int) (h : v = ((x % 256 : Nat) : Int)) : ((UInt8.ofNat x).toNat : Int) = v := by
  rw [h]; simp
theorem conv_eight (n : Nat) (w : World) (hn : n < 2 ^ 64) :
    (convert 153 9 (.slice (some ⟨w.heap.size, 0, none⟩) 8 8)).run Tryz.prog (w.alloc (.cells #[.int .u8 ((n : Int) % 256), .int .u8 ((n : Int) / 256 % 256), .int .u8 ((n : Int) / 65536 % 256), .int .u8 ((n : Int) / 16777216 % 256), .int .u8 ((n : Int) / 4294967296 % 256), .int .u8 ((n : Int) / 1099511627776 % 256), .int .u8 ((n : Int) / 281474976710656 % 256), .int .u8 ((n : Int) / 72057594037927936)] 171)) = .ok (.string ⟨(eight 8 n).toArray⟩) (w.alloc (.cells #[.int .u8 ((n : Int) % 256), .int .u8 ((n : Int) / 256 % 256), .int .u8 ((n : Int) / 65536 % 256), .int .u8 ((n : Int) / 16777216 % 256), .int .u8 ((n : Int) / 4294967296 % 256), .int .u8 ((n : Int) / 1099511627776 % 256), .int .u8 ((n : Int) / 281474976710656 % 256), .int .u8 ((n : Int) / 72057594037927936)] 171)) := by
  rw [eight_8]
  refine run_convert_bytes_back _ 153 9 5 ⟨w.heap.size, 0, none⟩ 8 [UInt8.ofNat (n % 256), UInt8.ofNat (n / 256 % 256), UInt8.ofNat (n / 65536 % 256), UInt8.ofNat (n / 16777216 % 256), UInt8.ofNat (n / 4294967296 % 256), UInt8.ofNat (n / 1099511627776 % 256), UInt8.ofNat (n / 281474976710656 % 256), UInt8.ofNat (n / 72057594037927936 % 256)] Tryz.underlying153 Tryz.underlying5 Tryz.underlying9 fun j hj => ?_
  have hadd : (⟨w.heap.size, 0, none⟩ : Addr).add j = ⟨w.heap.size, j, none⟩ := by unfold Addr.add; split <;> simp_all
  rw [hadd, World.cell?_alloc_at _ _ _ _ rfl]
  have hj8 : j < 8 := hj
  rcases (by omega : j = 0 ∨ j = 1 ∨ j = 2 ∨ j = 3 ∨ j = 4 ∨ j = 5 ∨ j = 6 ∨ j = 7) with rfl | rfl | rfl | rfl | rfl | rfl | rfl | rfl
  all_goals simp
  all_goals omega
set_option maxRecDepth 100000 in
set_option maxHeartbeats 4000000 in
theorem wfixed_any (num : Int) (n : Nat) (w : World) (h1 : -9223372036854775808 ≤ num) (h2 : num ≤ 9223372036854775807) (hn : n < 2 ^ 64) :
    Calls Tryz.prog 91 #[.int .i64 num, .int .u64 (n : Int)] w fun e w' => e = .returned (.string ⟨(wrec num 1 (eight 8 n)).toArray⟩) ∧ Below w.heap.size w w' := by
  have hcv := conv_eight n w hn
  go_enter Tryz.func91, Tryz.ntmps91
  go_wp2_with fail
  refine wp_loop_rounds 9 ?_
  iterate 9 (rw [rounds_succ]; go_wp2_with fail)
  refine (record_any num 1 (eight 8 n) _ h1 h2 (by omega) (by omega) (by rw [eight_8]; simp)).mono ?_; rintro e w1 ⟨rfl, hb1⟩
  have HB1 := Lib.hid (((Below.refl _ w).alloc (Nat.le_refl _) _).trans (hb1.mono (by simp)))
  clear hb1
  go_wp2_with fail
  go_ret
  exact ⟨rfl, HB1.out⟩
end Go.Proofs.YteknippgiljgeaaGreatDoor
