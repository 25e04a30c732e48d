/-
  Exemplars as a part of lists.
-/
import Derived.Test.YthpngihcjbmmkaaGreatDoorRowL
import Derived.Test.YthpngihcjbmmkaaGreatDoorExBack
namespace Go.Proofs.YthpngihcjbmmkaaGreatDoor
open Go.RowKit

theorem rF_len9 {num : Nat} (hn : num ≤ 15) (n : Nat) : (rF num n).raw.length ≤ 9 := by
  show (vput (8 * num + 1) ++ eight 8 n).length ≤ 9
  rw [List.length_append, vput_one (by omega)]; have := eight_len 8 n; omega
theorem num_seg9 {num : Nat} (hn : num ≤ 15) (n : Nat) : (if n = 0 then [] else (rF num n).raw).length ≤ 9 := by
  split
  · simp
  · exact rF_len9 hn n
theorem ExRel.form {w : World} {P : Nat → Prop} : ∀ {x : Ex} {c : List Value}, ExRel w P x c → ∃ (lo : Option Addr) (llo lc : Nat) (jt : Int) (jk : Int) (jn : Int) (Xa : ByteArray) (Xb : ByteArray) (Xu : ByteArray), c = [.slice lo llo lc, .int .u64 jt, .int .i64 jk, .int .u64 jn, .string Xa, .string Xb, .string Xu]
  | ((t, (((k, n), (a, b)), l)), u), c, h => by
    obtain ⟨lo, lc, rfl, _⟩ := h
    exact ⟨_, _, _, _, _, _, _, _, _, rfl⟩
end Go.Proofs.YthpngihcjbmmkaaGreatDoor

