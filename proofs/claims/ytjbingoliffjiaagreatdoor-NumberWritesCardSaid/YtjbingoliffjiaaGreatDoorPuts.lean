/-
 hygref8.PutNum, if1, PutText; hygref2.Fixed.
-/
import Derived.Test.YtjbingoliffjiaaGreatDoorRefOut
import Derived.Test.YtjbingoliffjiaaGreatDoorPartK
set_option maxRecDepth 1000000
set_option maxHeartbeats 16000000
namespace Go.Proofs.YtjbingoliffjiaaGreatDoor
open Go.RowKit
theorem fixed8_any (num n : Nat) (w : World) (h1 : 1 ≤ num) (h2 : num ≤ 536870911) (_ : n < 18446744073709551616) : Calls Tryz.prog 76 #[.int .i64 (num : Int), .int .u64 (n : Int)] w (RoPost (rF num n).raw w) :=
 (rfixedr_any (num : Int) n w (by omega) (by omega)).mono fun _ _ h => ⟨h.2, _, h.1, Lib.hid (rF_wrec h1 h2 n)⟩
theorem putnum8_any (num n : Nat) (w : World) (h1 : 1 ≤ num) (h2 : num ≤ 536870911) (hn : n < 18446744073709551616) : Calls Tryz.prog 74 #[.int .i64 (num : Int), .int .u64 (n : Int)] w (RoPost (if n = 0 then [] else (rF num n).raw) w) := by
 by_cases h0 : n = 0
 ·subst h0
  go_enter Tryz.func74, Tryz.ntmps74
  go_wp2_with fail
  go_ret
  exact ⟨Below.refl _ _, _, rfl, Lib.hid rfl⟩
 ·have d1 : ((n : Int) == 0) = false := by rw [beq_eq_false_iff_ne]; omega
  have HF := Lib.hid (fixed8_any num n w h1 h2 hn)
  rw [if_neg h0]
  clear h0
  go_enter Tryz.func74, Tryz.ntmps74
  go_wp2_with fail
  refine HF.out.mono ?_; rintro e w1 ⟨hb, R, rfl, hR⟩
  have HB := Lib.hid hb
  clear hb
  go_wp2_with fail
  go_ret
  exact ⟨HB.out, R, rfl, hR⟩
theorem if18_any (c : Prop) [Decidable c] (b : Bool) (X : ByteArray) (t : List UInt8) (w : World) (hb : b = true ↔ c) (hX : Hid (X.data.toList = t)) : Calls Tryz.prog 75 #[.bool b, .string X] w (RoPost (if c then t else []) w) := by
 cases b with
 | true =>
  rw [if_pos (hb.1 rfl)]
  clear hb
  go_enter Tryz.func75, Tryz.ntmps75
  go_wp2_with fail
  go_ret
  exact ⟨Below.refl _ _, _, rfl, hX⟩
 | false =>
  rw [if_neg (fun h => by have := hb.2 h; cases this)]
  clear hb
  go_enter Tryz.func75, Tryz.ntmps75
  go_wp2_with fail
  go_ret
  exact ⟨Below.refl _ _, _, rfl, Lib.hid rfl⟩
theorem puttext8r_any (num : Nat) (X : ByteArray) (t : List UInt8) (w : World) (h1 : 1 ≤ num) (h2 : num ≤ 536870911) (hX : Hid (X.data.toList = t)) (ht : t.length ≤ 1000000) : Calls Tryz.prog 142 #[.int .i64 (num : Int), .string X] w (RoPost (if t = [] then [] else (rB num t).raw) w) :=
 (puttext8_any num X t w h2 hX ht).mono fun _ _ h => ⟨h.2, _, h.1, Lib.hid (wbytesP_raw num h1 h2 t)⟩
end Go.Proofs.YtjbingoliffjiaaGreatDoor
