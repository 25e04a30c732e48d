/-
  hyglaw3.UtfSigns: for every number, every text and every cut the law returns true.
-/
import Derived.Test.YtbhppchdoalahaaUtfMath2
import Derived.Test.YtbhppchdoalahaaUtfClips
namespace Go.Proofs.Ytbhppchdoalahaa
open Go.RowKit

theorem or_and_63 (n : Nat) (h : n < 65536) : bits .or .i64 128 (bits .and .i64 (n : Int) 63) % 256 = ((UInt8.ofNat (128 + n % 64)).toNat : Int) := by
  have e1 : bits .and .i64 (n : Int) 63 = ((n % 64 : Nat) : Int) := by
    show IntKind.i64.wrap ((BitVec.ofInt 64 (n : Int) &&& BitVec.ofInt 64 63).toNat : Int) = _
    rw [BitVec.toNat_and, ofInt_u64 n (by omega), show (BitVec.ofInt 64 63).toNat = 63 from by decide, nat_mask6]
    simp [IntKind.wrap, IntKind.bits, IntKind.signed]
    omega
  rw [e1]
  have e2 : bits .or .i64 128 ((n % 64 : Nat) : Int) = ((128 + n % 64 : Nat) : Int) := by
    show IntKind.i64.wrap ((BitVec.ofInt 64 128 ||| BitVec.ofInt 64 ((n % 64 : Nat) : Int)).toNat : Int) = _
    rw [BitVec.toNat_or, ofInt_u64 (n % 64) (by omega), show (BitVec.ofInt 64 128).toNat = 128 from by decide, nat_join 7 128 (n % 64) (by decide) (by omega)]
    simp [IntKind.wrap, IntKind.bits, IntKind.signed]
    omega
  rw [e2]
  simp
set_option maxRecDepth 1000000 in
set_option maxHeartbeats 4000000 in
theorem signs_surr (c : Nat) (s : ByteArray) (cut : Int) (w : World) (hs : s.size ≤ 4000) (hc1 : 55296 ≤ c) (hc2 : c ≤ 57343) (hcut0 : 0 ≤ cut) :
    Calls Try.prog 3 #[.int .i64 c, .string s, .int .i64 cut] w fun e w' => e = .returned (.bool true) ∧ Below w.heap.size w w' := by
  have hd1 : decide (4000 < (s.size : Int)) = false := by simp; omega
  have hd2 : decide ((c : Int) < 0) = false := by simp
  have hd3 : decide (1114111 < (c : Int)) = false := by simp; omega
  have hd4 : decide (cut < 0) = false := by simp; omega
  go_enter Try.func3, Try.ntmps3
  go_wp2_with fail
  refine (first3 w).mono ?_; rintro e w1 ⟨rfl, rfl⟩
  have hadd : ∀ j : Nat, (⟨w.heap.size, 0, none⟩ : Addr).add j = ⟨w.heap.size, j, none⟩ := by intro j; unfold Addr.add; split <;> simp_all
  have b1 : bits .or .i64 128 (bits .and .i64 ((c : Int) / 64) 63) % 256 = ((UInt8.ofNat (128 + c / 64 % 64)).toNat : Int) := by
    rw [show ((c : Int) / 64) = ((c / 64 : Nat) : Int) by omega]
    exact or_and_63 (c / 64) (by omega)
  have b2 : bits .or .i64 128 (bits .and .i64 (c : Int) 63) % 256 = ((UInt8.ofNat (128 + c % 64)).toNat : Int) := or_and_63 c (by omega)
  have HS := Lib.hid (surrogate c ⟨hc1, hc2⟩)
  generalize UInt8.ofNat (128 + c / 64 % 64) = x1 at b1 HS
  generalize UInt8.ofNat (128 + c % 64) = x2 at b2 HS
  have hcv := fun (W : World) (h : ∀ j (hj : j < 3), W.cell? ((⟨w.heap.size, 0, none⟩ : Addr).add j) = some (.int .u8 (([237, x1, x2][j]'hj).toNat : Int))) =>
    run_convert_bytes_back (P := Try.prog) W 24 9 5 ⟨w.heap.size, 0, none⟩ 3 [237, x1, x2] Try.underlying24 Try.underlying5 Try.underlying9 h
  have hcv2 := hcv (w.alloc (.cells #[.int .u8 237, .int .u8 (bits .or .i64 128 (bits .and .i64 ((c : Int) / 64) 63) % 256), .int .u8 (bits .or .i64 128 (bits .and .i64 (c : Int) 63) % 256)] 5)) (fun j hj => by
    rw [hadd j, World.cell?_alloc_at _ _ _ _ rfl, b1, b2]
    rcases (by omega : j = 0 ∨ j = 1 ∨ j = 2) with rfl | rfl | rfl <;> rfl)
  clear hcv b1 b2 hadd
  simp only [List.length_cons, List.length_nil, Nat.zero_add, Nat.reduceAdd] at hcv2
  go_wp2_with fail
  refine (first3 _).mono ?_; rintro e w2 ⟨rfl, rfl⟩
  go_wp2_with fail
  refine (valid_any _ _ (by simp [ByteArray.size])).mono ?_; rintro e w3 ⟨rfl, rfl⟩
  have hv : uvalid [237, x1, x2] = false := uvalid_bad HS.out (by simp)
  have hb : ubad [237, x1, x2] = 0 := ubad_zero HS.out (by simp)
  simp only [hv]
  go_wp2_with fail
  refine (bad_any _ _ (by simp [ByteArray.size])).mono ?_; rintro e w4 ⟨rfl, rfl⟩
  simp only [hb]
  go_wp2_with fail
  go_ret
  exact ⟨rfl, (Below.refl _ _).alloc (Nat.le_refl _) _⟩
end Go.Proofs.Ytbhppchdoalahaa
