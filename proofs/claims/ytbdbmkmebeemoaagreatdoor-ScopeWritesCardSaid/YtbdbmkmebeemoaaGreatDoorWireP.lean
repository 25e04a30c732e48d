/-
  wire.Tag, record, Varint, Bytes: what they write.
-/
/-
  wire.Fixed: eight bytes, the least first.
-/
/-
  wire.Fixeds, wire.Varints: packed numbers.
-/
import Derived.Test.YtbdbmkmebeemoaaGreatDoorWireMath
import Derived.Test.YtbdbmkmebeemoaaGreatDoorGet
import Derived.Test.YtbdbmkmebeemoaaGreatDoorNums
import Derived.Test.YtbdbmkmebeemoaaGreatDoorUpd
import Derived.Deep.LoopGhost
import Derived.Test.YtbdbmkmebeemoaaGreatDoorWireR5
namespace Go.Proofs.YtbdbmkmebeemoaaGreatDoor
open Go.RowKit

def wtag (num kind : Int) : List UInt8 := if num < 1 ∨ 536870911 < num ∨ kind < 0 ∨ 5 < kind then [] else vput (8 * num.toNat + kind.toNat)
theorem wtag_bad {num kind : Int} (h : num < 1 ∨ 536870911 < num ∨ kind < 0 ∨ 5 < kind) : wtag num kind = [] := if_pos h
theorem wtag_ok {num kind : Nat} (h1 : 1 ≤ num) (h2 : num ≤ 536870911) (h3 : kind ≤ 5) : wtag num kind = vput (8 * num + kind) := by
  unfold wtag; rw [if_neg (by omega)]; simp
theorem tag_or {num kind : Nat} (h2 : num ≤ 536870911) (h3 : kind ≤ 5) : bits .or .u64 ((num : Int) * 8) (kind : Int) = ((8 * num + kind : Nat) : Int) := by
  have e : (num : Int) * 8 = ((num * 8 : Nat) : Int) := by simp
  rw [e, u64_or_nat _ _ (by omega) (by omega), nat_join 3 (num * 8) kind (by omega) (by omega)]
  congr 1
  omega
set_option maxRecDepth 100000 in
set_option maxHeartbeats 2000000 in
theorem tag_any (num kind : Int) (w : World) (h1 : -9223372036854775808 ≤ num) (h2 : num ≤ 9223372036854775807) (h3 : -9223372036854775808 ≤ kind) (h4 : kind ≤ 9223372036854775807) :
    Calls Tryz.prog 30 #[.int .i64 num, .int .i64 kind] w fun e w' => e = .returned (.string ⟨(wtag num kind).toArray⟩) ∧ Below w.heap.size w w' := by
  by_cases hb : num < 1 ∨ 536870911 < num ∨ kind < 0 ∨ 5 < kind
  · have HF := Lib.hid (wtag_bad hb)
    rcases (by omega : num < 1 ∨ (1 ≤ num ∧ 536870911 < num) ∨ (1 ≤ num ∧ num ≤ 536870911 ∧ kind < 0) ∨ (1 ≤ num ∧ num ≤ 536870911 ∧ 0 ≤ kind ∧ 5 < kind)) with h | ⟨h, h'⟩ | ⟨h, h', h''⟩ | ⟨h, h', h'', h'''⟩
    all_goals clear hb
    all_goals go_enter Tryz.func30, Tryz.ntmps30
    all_goals go_wp2
    all_goals go_ret
    all_goals exact ⟨by rw [HF.out]; rfl, Below.refl _ _⟩
  · obtain ⟨n, rfl⟩ := Int.eq_ofNat_of_zero_le (show 0 ≤ num by omega)
    obtain ⟨k, rfl⟩ := Int.eq_ofNat_of_zero_le (show 0 ≤ kind by omega)
    have hn1 : 1 ≤ n := by omega
    have hn2 : n ≤ 536870911 := by omega
    have hk : k ≤ 5 := by omega
    have HF := Lib.hid (wtag_ok hn1 hn2 hk)
    have hor := tag_or hn2 hk
    have HP := Lib.hid (put_start (n := 8 * n + k) (by omega))
    clear hb h1 h2 h3 h4
    go_enter Tryz.func30, Tryz.ntmps30
    have hput := fun w => put_any (8 * n + k) w HP.out
    rw [show ((8 * n + k : Nat) : Int) = 8 * (n : Int) + (k : Int) by simp] at hput
    have HPUT := Lib.hid hput
    clear hput
    go_wp2_with fail
    refine (HPUT.out w).mono ?_; rintro e w' ⟨rfl, hb⟩
    have HB := Lib.hid hb
    clear hb
    go_wp2_with fail
    go_ret
    exact ⟨by rw [HF.out]; rfl, HB.out⟩
def wrec (num kind : Int) (rest : List UInt8) : List UInt8 := if wtag num kind = [] then [] else wtag num kind ++ rest
theorem vput_ne (n : Nat) : vput n ≠ [] := by
  intro h
  have := (vput_length n).1
  rw [h] at this
  simp at this
theorem vput_len (n : Nat) : (vput n).length ≤ 10 := (vput_length n).2
theorem wtag_len (num kind : Int) : (wtag num kind).length ≤ 10 := by
  unfold wtag
  split
  · simp
  · exact vput_len _
set_option maxRecDepth 100000 in
set_option maxHeartbeats 2000000 in
theorem record_any (num kind : Int) (rest : List UInt8) (w : World) (h1 : -9223372036854775808 ≤ num) (h2 : num ≤ 9223372036854775807) (h3 : -9223372036854775808 ≤ kind) (h4 : kind ≤ 9223372036854775807) (hr : rest.length ≤ 1000000000) :
    Calls Tryz.prog 112 #[.int .i64 num, .int .i64 kind, .string ⟨rest.toArray⟩] w fun e w' => e = .returned (.string ⟨(wrec num kind rest).toArray⟩) ∧ Below w.heap.size w w' := by
  cases ht : wtag num kind with
  | nil =>
    have HF : Hid (wrec num kind rest = []) := Lib.hid (by unfold wrec; rw [if_pos ht])
    have HT := Lib.hid ht
    clear ht
    go_enter Tryz.func112, Tryz.ntmps112
    go_wp2_with fail
    refine (tag_any num kind w h1 h2 h3 h4).mono ?_; rintro e w' ⟨rfl, hb⟩
    have HB := Lib.hid hb
    rw [HT.out]
    clear hb
    go_wp2_with fail
    go_ret
    exact ⟨by rw [HF.out]; rfl, HB.out⟩
  | cons b t =>
    have HF : Hid (wrec num kind rest = (b :: t) ++ rest) := Lib.hid (by unfold wrec; rw [if_neg (by rw [ht]; simp), ht])
    have hlen : t.length ≤ 9 := by have := wtag_len num kind; rw [ht] at this; simp at this; omega
    have HT := Lib.hid ht
    clear ht
    go_enter Tryz.func112, Tryz.ntmps112
    go_wp2_with fail
    refine (tag_any num kind w h1 h2 h3 h4).mono ?_; rintro e w' ⟨rfl, hb⟩
    have HB := Lib.hid hb
    rw [HT.out]
    clear hb
    go_wp2_with fail
    go_ret
    exact ⟨by rw [HF.out]; exact ret_str (ba_append _ _), HB.out⟩
set_option maxRecDepth 100000 in
set_option maxHeartbeats 2000000 in
theorem wvarint_any (num : Int) (n : Nat) (w : World) (h1 : -9223372036854775808 ≤ num) (h2 : num ≤ 9223372036854775807) (hn : n < 2 ^ 64) :
    Calls Tryz.prog 81 #[.int .i64 num, .int .u64 (n : Int)] w fun e w' => e = .returned (.string ⟨(wrec num 0 (vput n)).toArray⟩) ∧ Below w.heap.size w w' := by
  have HP := Lib.hid (put_start hn)
  have HV := Lib.hid (vput_len n)
  clear hn
  go_enter Tryz.func81, Tryz.ntmps81
  go_wp2_with fail
  refine (put_any n w HP.out).mono ?_; rintro e w1 ⟨rfl, hb1⟩
  have HB1 := Lib.hid hb1
  clear hb1
  go_wp2_with fail
  refine (record_any num 0 (vput n) w1 h1 h2 (by omega) (by omega) (by have := HV.out; omega)).mono ?_; rintro e w2 ⟨rfl, hb2⟩
  have HB2 := Lib.hid hb2
  clear hb2
  go_wp2_with fail
  go_ret
  exact ⟨rfl, HB1.out.trans (HB2.out.mono HB1.out.size)⟩
set_option maxRecDepth 100000 in
set_option maxHeartbeats 2000000 in
theorem wbytes_any (num : Int) (s : ByteArray) (w : World) (h1 : -9223372036854775808 ≤ num) (h2 : num ≤ 9223372036854775807) (hs : s.size ≤ 1000000) :
    Calls Tryz.prog 108 #[.int .i64 num, .string s] w fun e w' => e = .returned (.string ⟨(wrec num 2 (vput s.size ++ s.data.toList)).toArray⟩) ∧ Below w.heap.size w w' := by
  have HP := Lib.hid (put_start (n := s.size) (by omega))
  have hv := vput_len s.size
  have HL := Lib.hid (show s.data.toList.length = s.size by simp)
  have HS : Hid ((ByteArray.mk (vput s.size).toArray) ++ s = ByteArray.mk (vput s.size ++ s.data.toList).toArray) := Lib.hid (by rw [← ba_append])
  go_enter Tryz.func108, Tryz.ntmps108
  go_wp2_with fail
  refine (put_any s.size w HP.out).mono ?_; rintro e w1 ⟨rfl, hb1⟩
  have HB1 := Lib.hid hb1
  clear hb1
  go_wp2_with fail
  rw [HS.out]
  refine (record_any num 2 (vput s.size ++ s.data.toList) w1 h1 h2 (by omega) (by omega) (by simp; have := HL.out; omega)).mono ?_; rintro e w2 ⟨rfl, hb2⟩
  have HB2 := Lib.hid hb2
  clear hb2
  go_wp2_with fail
  go_ret
  exact ⟨rfl, HB1.out.trans (HB2.out.mono HB1.out.size)⟩
end Go.Proofs.YtbdbmkmebeemoaaGreatDoor
namespace Go.Proofs.YtbdbmkmebeemoaaGreatDoor
open Go.RowKit

/-- a number's bytes, the least first -/
def eight : Nat → Nat → List UInt8
  | 0, _ => []
  | k + 1, n => UInt8.ofNat (n % 256) :: eight k (n / 256)
theorem eight_8 (n : Nat) : eight 8 n = [UInt8.ofNat (n % 256), UInt8.ofNat (n / 256 % 256), UInt8.ofNat (n / 65536 % 256), UInt8.ofNat (n / 16777216 % 256), UInt8.ofNat (n / 4294967296 % 256), UInt8.ofNat (n / 1099511627776 % 256), UInt8.ofNat (n / 281474976710656 % 256), UInt8.ofNat (n / 72057594037927936 % 256)] := by
  simp only [eight, Nat.div_div_eq_div_mul]
theorem ofNat_val (x : Nat) (v : Int) (h : v = ((x % 256 : Nat) : Int)) : ((UInt8.ofNat x).toNat : Int) = v := by
  rw [h]; simp
theorem conv_eight (n : Nat) (w : World) (hn : n < 2 ^ 64) :
    (convert 153 9 (.slice (some ⟨w.heap.size, 0, none⟩) 8 8)).run Tryz.prog (w.alloc (.cells #[.int .u8 ((n : Int) % 256), .int .u8 ((n : Int) / 256 % 256), .int .u8 ((n : Int) / 65536 % 256), .int .u8 ((n : Int) / 16777216 % 256), .int .u8 ((n : Int) / 4294967296 % 256), .int .u8 ((n : Int) / 1099511627776 % 256), .int .u8 ((n : Int) / 281474976710656 % 256), .int .u8 ((n : Int) / 72057594037927936)] 219)) = .ok (.string ⟨(eight 8 n).toArray⟩) (w.alloc (.cells #[.int .u8 ((n : Int) % 256), .int .u8 ((n : Int) / 256 % 256), .int .u8 ((n : Int) / 65536 % 256), .int .u8 ((n : Int) / 16777216 % 256), .int .u8 ((n : Int) / 4294967296 % 256), .int .u8 ((n : Int) / 1099511627776 % 256), .int .u8 ((n : Int) / 281474976710656 % 256), .int .u8 ((n : Int) / 72057594037927936)] 219)) := by
  rw [eight_8]
  refine run_convert_bytes_back _ 153 9 5 ⟨w.heap.size, 0, none⟩ 8 [UInt8.ofNat (n % 256), UInt8.ofNat (n / 256 % 256), UInt8.ofNat (n / 65536 % 256), UInt8.ofNat (n / 16777216 % 256), UInt8.ofNat (n / 4294967296 % 256), UInt8.ofNat (n / 1099511627776 % 256), UInt8.ofNat (n / 281474976710656 % 256), UInt8.ofNat (n / 72057594037927936 % 256)] Tryz.underlying153 Tryz.underlying5 Tryz.underlying9 fun j hj => ?_
  have hadd : (⟨w.heap.size, 0, none⟩ : Addr).add j = ⟨w.heap.size, j, none⟩ := by unfold Addr.add; split <;> simp_all
  rw [hadd, World.cell?_alloc_at _ _ _ _ rfl]
  have hj8 : j < 8 := hj
  rcases (by omega : j = 0 ∨ j = 1 ∨ j = 2 ∨ j = 3 ∨ j = 4 ∨ j = 5 ∨ j = 6 ∨ j = 7) with rfl | rfl | rfl | rfl | rfl | rfl | rfl | rfl
  all_goals simp
  all_goals omega
set_option maxRecDepth 100000 in
set_option maxHeartbeats 4000000 in
theorem wfixed_any (num : Int) (n : Nat) (w : World) (h1 : -9223372036854775808 ≤ num) (h2 : num ≤ 9223372036854775807) (hn : n < 2 ^ 64) :
    Calls Tryz.prog 137 #[.int .i64 num, .int .u64 (n : Int)] w fun e w' => e = .returned (.string ⟨(wrec num 1 (eight 8 n)).toArray⟩) ∧ Below w.heap.size w w' := by
  have hcv := conv_eight n w hn
  go_enter Tryz.func137, Tryz.ntmps137
  go_wp2_with fail
  refine wp_loop_rounds 9 ?_
  iterate 9 (rw [rounds_succ]; go_wp2_with fail)
  refine (record_any num 1 (eight 8 n) _ h1 h2 (by omega) (by omega) (by rw [eight_8]; simp)).mono ?_; rintro e w1 ⟨rfl, hb1⟩
  have HB1 := Lib.hid (((Below.refl _ w).alloc (Nat.le_refl _) _).trans (hb1.mono (by simp)))
  clear hb1
  go_wp2_with fail
  go_ret
  exact ⟨rfl, HB1.out⟩
end Go.Proofs.YtbdbmkmebeemoaaGreatDoor
namespace Go.Proofs.YtbdbmkmebeemoaaGreatDoor
open Go.RowKit

end Go.Proofs.YtbdbmkmebeemoaaGreatDoor

