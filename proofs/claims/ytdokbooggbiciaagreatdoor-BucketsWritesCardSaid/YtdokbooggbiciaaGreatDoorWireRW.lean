/-
  The reference's fixed, Eight, Tag, Num, Fixed, Bytes, Fixeds, Varints.
-/
import Derived.Test.YtdokbooggbiciaaGreatDoorWireNumMath
import Derived.Test.YtdokbooggbiciaaGreatDoorRefGet
namespace Go.Proofs.YtdokbooggbiciaaGreatDoor
open Go.RowKit

theorem wlit_drop (s : ByteArray) (i : Nat) (h : i < s.size) : wlit (s.data.toList.drop i) = (s[i]'h).toNat + 256 * wlit (s.data.toList.drop (i + 1)) := by
  have hl : i < s.data.toList.length := by simpa using h
  rw [List.drop_eq_getElem_cons hl]; rfl
theorem wlit_dlt (s : ByteArray) (i : Nat) (hs : s.size ≤ 8) (hi : 1 ≤ i) : wlit (s.data.toList.drop i) < 256 ^ 7 := by
  refine Nat.lt_of_lt_of_le (wlit_lt _) (Nat.pow_le_pow_right (by omega) ?_)
  simp; omega
theorem rfix_or (m : Nat) (c : UInt8) (hm : m < 256 ^ 7) : bits .or .u64 ((m : Int) * 256) (c.toNat : Int) = ((c.toNat + 256 * m : Nat) : Int) := by
  have hc := c.toNat_lt
  have e : (m : Int) * 256 = ((m * 256 : Nat) : Int) := by simp
  rw [e, u64_or_nat _ _ (by omega) (by omega), nat_join 8 (m * 256) c.toNat (by omega) (by omega)]
  congr 1
  omega
set_option maxRecDepth 100000 in
set_option maxHeartbeats 2000000 in
theorem rfixed_any (s : ByteArray) (w : World) (hs : s.size ≤ 8) :
    Calls Tryz.prog 106 #[.string s] w fun e w' => e = .returned (.int .u64 (wlit s.data.toList : Nat)) ∧ w = w' := by
  have HL := Lib.hid (show s.data.toList.length = s.size by simp)
  go_enter Tryz.func106, Tryz.ntmps106
  go_wp2
  go_loopg [3, 4] s.size (fun k n i wr => k ≤ s.size ∧ i = .int .i64 ((k : Int) - 1) ∧ n = .int .u64 (wlit (s.data.toList.drop k) : Nat) ∧ wr = w)
  case atStart => exact ⟨Nat.le_refl _, rfl, by rw [List.drop_eq_nil_of_le (by have := HL.out; omega)]; rfl, rfl⟩
  case round =>
    obtain ⟨hk, rfl, rfl, rfl⟩ := hrel
    match gk, hk with
    | 0, hk =>
      go_wp2
      go_ret
      exact ⟨rfl, rfl⟩
    | k + 1, hk =>
      have HW := Lib.hid (wlit_drop s k (by omega))
      obtain ⟨m, HM⟩ : ∃ m, Hid (m = wlit (s.data.toList.drop (k + 1))) := ⟨_, Lib.hid rfl⟩
      have hm7 : m < 72057594037927936 := by rw [HM.out]; exact wlit_dlt s (k + 1) hs (by omega)
      have hor := rfix_or m (s[k]'(by omega)) hm7
      have hwb : IntKind.u64.wrap ((s[k]'(by omega)).toNat : Int) = ((s[k]'(by omega)).toNat : Int) := by have := (s[k]'(by omega)).toNat_lt; exact u64_wrap_id (by omega) (by omega)
      rw [← HM.out]
      have hkk : ((k : Int) + 1 - 1) = k := by omega
      go_wp2
      go_roundg k
      case measure => omega
      case rel => exact ⟨by omega, by simp, by rw [HW.out, ← HM.out]; first | rfl | simp | simp [hwb, hor], rfl⟩
set_option maxRecDepth 100000 in
set_option maxHeartbeats 2000000 in
theorem rtag_any (num kind : Int) (w : World) (h1 : -9223372036854775808 ≤ num) (h2 : num ≤ 9223372036854775807) (h3 : -9223372036854775808 ≤ kind) (h4 : kind ≤ 9223372036854775807) :
    Calls Tryz.prog 89 #[.int .i64 num, .int .i64 kind] w fun e w' => e = .returned (.string ⟨(wtag num kind).toArray⟩) ∧ Below w.heap.size w w' := by
  by_cases hb : num < 1 ∨ 536870911 < num ∨ kind < 0 ∨ 5 < kind
  · have HF := Lib.hid (wtag_bad hb)
    rcases (by omega : num < 1 ∨ (1 ≤ num ∧ 536870911 < num) ∨ (1 ≤ num ∧ num ≤ 536870911 ∧ kind < 0) ∨ (1 ≤ num ∧ num ≤ 536870911 ∧ 0 ≤ kind ∧ 5 < kind)) with h | ⟨h, h'⟩ | ⟨h, h', h''⟩ | ⟨h, h', h'', h'''⟩
    all_goals clear hb
    all_goals go_enter Tryz.func89, Tryz.ntmps89
    all_goals go_wp2
    all_goals go_ret
    all_goals exact ⟨by rw [HF.out]; rfl, Below.refl _ _⟩
  · obtain ⟨n, rfl⟩ := Int.eq_ofNat_of_zero_le (show 0 ≤ num by omega)
    obtain ⟨k, rfl⟩ := Int.eq_ofNat_of_zero_le (show 0 ≤ kind by omega)
    have hn1 : 1 ≤ n := by omega
    have hn2 : n ≤ 536870911 := by omega
    have hk : k ≤ 5 := by omega
    have HF := Lib.hid (wtag_ok hn1 hn2 hk)
    have hor := tag_or hn2 hk
    have hlt64 : 8 * n + k < 2 ^ 64 := by omega
    have HP := Lib.hid (put_start (n := 8 * n + k) (by omega))
    clear hb h1 h2 h3 h4
    have hn3 : ¬ (536870912 : Int) ≤ (n : Int) := by omega
    go_enter Tryz.func89, Tryz.ntmps89
    have hput := fun w => refput_any (8 * n + k) w HP.out (Lib.hid hlt64)
    rw [show ((8 * n + k : Nat) : Int) = 8 * (n : Int) + (k : Int) by simp] at hput
    have HPUT := Lib.hid hput
    clear hput
    go_wp2_with fail
    refine (HPUT.out w).mono ?_; rintro e w' ⟨rfl, hb⟩
    have HB := Lib.hid hb
    clear hb
    go_wp2_with fail
    go_ret
    exact ⟨by rw [HF.out]; rfl, HB.out⟩
set_option maxRecDepth 100000 in
set_option maxHeartbeats 2000000 in
theorem rnum_any (num : Int) (n : Nat) (w : World) (h1 : -9223372036854775808 ≤ num) (h2 : num ≤ 9223372036854775807) (hn : n < 2 ^ 64) :
    Calls Tryz.prog 65 #[.int .i64 num, .int .u64 (n : Int)] w fun e w' => e = .returned (.string ⟨(wrec num 0 (vput n)).toArray⟩) ∧ Below w.heap.size w w' := by
  have HP := Lib.hid (put_start hn)
  have HN := Lib.hid hn
  have hv := vput_len n
  clear hn
  cases ht : wtag num 0 with
  | nil =>
    have HF : Hid (wrec num 0 (vput n) = []) := Lib.hid (by unfold wrec; rw [if_pos ht])
    have HT := Lib.hid ht
    clear ht
    go_enter Tryz.func65, Tryz.ntmps65
    go_wp2_with fail
    refine (rtag_any num 0 w h1 h2 (by omega) (by omega)).mono ?_; rintro e w' ⟨rfl, hb⟩
    have HB := Lib.hid hb
    rw [HT.out]
    clear hb
    go_wp2_with fail
    go_ret
    exact ⟨by rw [HF.out]; rfl, HB.out⟩
  | cons b t =>
    have HF : Hid (wrec num 0 (vput n) = (b :: t) ++ (vput n)) := Lib.hid (by unfold wrec; rw [if_neg (by rw [ht]; simp), ht])
    have hlen : t.length ≤ 9 := by have := wtag_len num 0; rw [ht] at this; simp at this; omega
    have HT := Lib.hid ht
    clear ht
    go_enter Tryz.func65, Tryz.ntmps65
    go_wp2_with fail
    refine (rtag_any num 0 w h1 h2 (by omega) (by omega)).mono ?_; rintro e w' ⟨rfl, hb⟩
    have HB := Lib.hid hb
    rw [HT.out]
    clear hb
    go_wp2_with fail
    refine (refput_any n w' HP.out HN).mono ?_; rintro e w2 ⟨rfl, hb2⟩
    have HB2 := Lib.hid (below_step HB.out hb2)
    clear hb2
    go_wp2_with fail
    go_ret
    exact ⟨by rw [HF.out]; exact ret_str (ba_append _ _), HB2.out⟩
set_option maxRecDepth 100000 in
set_option maxHeartbeats 2000000 in
theorem rbytes_any (num : Int) (s : ByteArray) (w : World) (h1 : -9223372036854775808 ≤ num) (h2 : num ≤ 9223372036854775807) (hs : s.size ≤ 1000000) :
    Calls Tryz.prog 90 #[.int .i64 num, .string s] w fun e w' => e = .returned (.string ⟨(wrec num 2 (vput s.size ++ s.data.toList)).toArray⟩) ∧ Below w.heap.size w w' := by
  have hlt : s.size < 2 ^ 64 := by omega
  have HP := Lib.hid (put_start hlt)
  have HN := Lib.hid hlt
  have hv := vput_len s.size
  clear hlt
  cases ht : wtag num 2 with
  | nil =>
    have HF : Hid (wrec num 2 (vput s.size ++ s.data.toList) = []) := Lib.hid (by unfold wrec; rw [if_pos ht])
    have HT := Lib.hid ht
    clear ht
    go_enter Tryz.func90, Tryz.ntmps90
    go_wp2_with fail
    refine (rtag_any num 2 w h1 h2 (by omega) (by omega)).mono ?_; rintro e w' ⟨rfl, hb⟩
    have HB := Lib.hid hb
    rw [HT.out]
    clear hb
    go_wp2_with fail
    go_ret
    exact ⟨by rw [HF.out]; rfl, HB.out⟩
  | cons b t =>
    have HF : Hid (wrec num 2 (vput s.size ++ s.data.toList) = (b :: t) ++ (vput s.size ++ s.data.toList)) := Lib.hid (by unfold wrec; rw [if_neg (by rw [ht]; simp), ht])
    have hlen : t.length ≤ 9 := by have := wtag_len num 2; rw [ht] at this; simp at this; omega
    have HT := Lib.hid ht
    clear ht
    go_enter Tryz.func90, Tryz.ntmps90
    go_wp2_with fail
    refine (rtag_any num 2 w h1 h2 (by omega) (by omega)).mono ?_; rintro e w' ⟨rfl, hb⟩
    have HB := Lib.hid hb
    rw [HT.out]
    clear hb
    go_wp2_with fail
    refine (refput_any s.size w' HP.out HN).mono ?_; rintro e w2 ⟨rfl, hb2⟩
    have HB2 := Lib.hid (below_step HB.out hb2)
    clear hb2
    go_wp2_with fail
    go_ret
    exact ⟨by rw [HF.out]; rw [← List.append_assoc, ← ba_append, ← ba_append]; simp, HB2.out⟩
end Go.Proofs.YtdokbooggbiciaaGreatDoor
