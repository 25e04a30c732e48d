/-
  hygref2.GetVarint, with every answer that it can give.
-/
/-
  The reference's fixed, Eight, Tag, Num, Fixed, Bytes, Fixeds, Varints.
-/
/-
  The reference's Fixeds, Varints.
-/
import Derived.Test.YtandoppfbilhbaaGreatDoorNums
import Derived.Test.YtandoppfbilhbaaGreatDoorMsgMath
namespace Go.Proofs.YtandoppfbilhbaaGreatDoor
open Go.RowKit

/-- what the reference answers -/
def RefPost (r : Except Nat (Nat × Nat)) (w : World) (e : Ending) (w' : World) : Prop :=
  w = w' ∧ e = .returned (match r with
  | .ok (n, q) => .tuple #[.int .u64 n, .int .i64 q, .int .i64 0]
  | .error c => .tuple #[.int .u64 0, .int .i64 0, .int .i64 c])
theorem refPost_err {r : Except Nat (Nat × Nat)} {c : Nat} (h : r = .error c) {w : World} {c' : Int} (hc : c' = c) :
    RefPost r w (.returned (.tuple #[.int .u64 0, .int .i64 0, .int .i64 c'])) w := by
  subst h; subst hc; exact ⟨rfl, rfl⟩
theorem refPost_ok {r : Except Nat (Nat × Nat)} {n q : Nat} (h : r = .ok (n, q)) {w : World} {n' q' : Int} (hn : n' = n) (hq : q' = q) :
    RefPost r w (.returned (.tuple #[.int .u64 n', .int .i64 q', .int .i64 0])) w := by
  subst h; subst hn; subst hq; exact ⟨rfl, rfl⟩

set_option maxRecDepth 1000000 in
set_option maxHeartbeats 1000000 in
theorem refget_in (s : ByteArray) (p : Nat) (w : World) (hs : s.size ≤ 4611686018427387904) (hp : p ≤ s.size) :
    Calls Tryz.prog 153 #[.string s, .int .i64 p] w (RefPost (vget s.data.toList p) w) := by
  have hlen : s.data.toList.length = s.size := by simp
  have HL := Lib.hid hlen
  have hpl := Lib.hid (show p ≤ s.data.toList.length by omega)
  clear hlen
  have hst := get_start s.data.toList p (by have := HL.out; omega)
  have hd1 : decide (s.size < p) = false := by simp; omega
  have hd2 : decide ((p : Int) < 0) = false := by simp
  go_enter Tryz.func153, Tryz.ntmps153
  go_wp2
  go_loop [7, 8] (fun n i => ∃ (k m : Nat), n = .int .u64 m ∧ i = .int .i64 k ∧ GetRel s.data.toList p k m) (fun _ i => 12 - (intOf i).toNat)
  case atStart => exact ⟨0, 0, rfl, rfl, hst⟩
  case round =>
    obtain ⟨k, m, rfl, rfl, HR⟩ := hrel
    have hk : p + k ≤ s.size := by have := HR.2.2.2; have := HL.out; omega
    have hk' : k ≤ 10 := HR.2.2.1
    by_cases h10 : k < 10
    · by_cases hsh : p + k = s.size
      · have HE := Lib.hid (get_short HR h10 (by have := HL.out; omega) hpl.out)
        have hsh' : s.size ≤ p + k := by omega
        clear hsh
        go_wp2
        go_ret3
        exact refPost_err HE.out rfl
      · have hlt : p + k < s.size := by omega
        have HC := Lib.hid (byte_at s (p + k) hlt)
        rcases (by omega : k = 9 ∨ k < 9) with h9 | h9
        · subst h9
          have hg : ∀ h1 : (s[p + 9]'hlt).toNat ≤ 1, Hid (vget s.data.toList p = .ok (m + (s[p + 9]'hlt).toNat * 128 ^ 9, p + 9 + 1)) := fun h1 => Lib.hid (get_done HR (by omega) hpl.out HC.out (fun _ => h1) (by omega))
          have hbig : ∀ h1 : 1 < (s[p + 9]'hlt).toNat, Hid (vget s.data.toList p = .error 4) := fun h1 => Lib.hid (get_big HR rfl hpl.out HC.out h1)
          have hm := Lib.hid HR.2.1
          go_wp2
          · go_ret3
            exact refPost_err (hbig (by omega)).out rfl
          · go_ret3
            have h1 : (s[p + 9]'hlt).toNat ≤ 1 := by omega
            exact refPost_ok (hg h1).out (by rw [get_or9 m _ hm.out h1, Nat.mod_eq_of_lt (by omega)]) (by omega)
        · have hg : ∀ h2 : (s[p + k]'hlt).toNat < 128, Hid (vget s.data.toList p = .ok (m + (s[p + k]'hlt).toNat * 128 ^ k, p + k + 1)) := fun h2 => Lib.hid (get_done HR h10 hpl.out HC.out (by omega) h2)
          have hmo : ∀ h2 : 128 ≤ (s[p + k]'hlt).toNat, Hid (GetRel s.data.toList p (k + 1) (m + ((s[p + k]'hlt).toNat - 128) * 128 ^ k)) := fun h2 => Lib.hid (get_more HR h10 HC.out (by omega) h2).2
          have hm := Lib.hid HR.2.1
          go_wp2
          · go_ret3
            have h2 : (s[p + k]'hlt).toNat < 128 := by omega
            exact refPost_ok (hg h2).out (by rw [get_or m k _ hm.out h10 (by omega), Nat.mod_eq_of_lt (by omega)]) (by omega)
          · have h2 : 128 ≤ (s[p + k]'hlt).toNat := by omega
            have hb := (s[p + k]'hlt).toNat_lt
            have R := (hmo h2).out
            rw [show (s[p + k]'hlt).toNat - 128 = (s[p + k]'hlt).toNat % 128 by omega] at R
            exact ⟨⟨k + 1, _, by rw [get_or m k _ hm.out h10 (by omega)], by simp, R⟩, by simp [intOf]; omega⟩
    · obtain rfl : k = 10 := by omega
      have HE := Lib.hid (get_ten HR hpl.out)
      go_wp2
      go_ret3
      exact refPost_err HE.out rfl
theorem refget_any (s : ByteArray) (p : Int) (w : World) (hs : s.size ≤ 4611686018427387904) :
    Calls Tryz.prog 153 #[.string s, .int .i64 p] w (RefPost (vget s.data.toList p) w) := by
  by_cases h : p < 0 ∨ s.size < p
  · have HE := Lib.hid (get_out (l := s.data.toList) (p := p) (by simpa using h))
    by_cases h0 : p < 0
    · go_enter Tryz.func153, Tryz.ntmps153
      go_wp2
      go_ret3
      exact refPost_err HE.out rfl
    · obtain ⟨q, rfl⟩ := Int.eq_ofNat_of_zero_le (by omega : 0 ≤ p)
      have h1 : s.size < q := by omega
      go_enter Tryz.func153, Tryz.ntmps153
      go_wp2
      go_ret3
      exact refPost_err HE.out rfl
  · obtain ⟨q, rfl⟩ := Int.eq_ofNat_of_zero_le (by omega : 0 ≤ p)
    exact refget_in s q w hs (by omega)
end Go.Proofs.YtandoppfbilhbaaGreatDoor
namespace Go.Proofs.YtandoppfbilhbaaGreatDoor
open Go.RowKit

theorem wlit_drop (s : ByteArray) (i : Nat) (h : i < s.size) : wlit (s.data.toList.drop i) = (s[i]'h).toNat + 256 * wlit (s.data.toList.drop (i + 1)) := by
  have hl : i < s.data.toList.length := by simpa using h
  rw [List.drop_eq_getElem_cons hl]; rfl
theorem wlit_dlt (s : ByteArray) (i : Nat) (hs : s.size ≤ 8) (hi : 1 ≤ i) : wlit (s.data.toList.drop i) < 256 ^ 7 := by
  refine Nat.lt_of_lt_of_le (wlit_lt _) (Nat.pow_le_pow_right (by omega) ?_)
  simp; omega
theorem rfix_or (m : Nat) (c : UInt8) (hm : m < 256 ^ 7) : bits .or .u64 ((m : Int) * 256) (c.toNat : Int) = ((c.toNat + 256 * m : Nat) : Int) := by
  have hc := c.toNat_lt
  have e : (m : Int) * 256 = ((m * 256 : Nat) : Int) := by simp
  rw [e, u64_or_nat _ _ (by omega) (by omega), nat_join 8 (m * 256) c.toNat (by omega) (by omega)]
  congr 1
  omega
set_option maxRecDepth 100000 in
set_option maxHeartbeats 2000000 in
theorem rfixed_any (s : ByteArray) (w : World) (hs : s.size ≤ 8) :
    Calls Tryz.prog 154 #[.string s] w fun e w' => e = .returned (.int .u64 (wlit s.data.toList : Nat)) ∧ w = w' := by
  have HL := Lib.hid (show s.data.toList.length = s.size by simp)
  go_enter Tryz.func154, Tryz.ntmps154
  go_wp2
  go_loopg [3, 4] s.size (fun k n i wr => k ≤ s.size ∧ i = .int .i64 ((k : Int) - 1) ∧ n = .int .u64 (wlit (s.data.toList.drop k) : Nat) ∧ wr = w)
  case atStart => exact ⟨Nat.le_refl _, rfl, by rw [List.drop_eq_nil_of_le (by have := HL.out; omega)]; rfl, rfl⟩
  case round =>
    obtain ⟨hk, rfl, rfl, rfl⟩ := hrel
    match gk, hk with
    | 0, hk =>
      go_wp2
      go_ret
      exact ⟨rfl, rfl⟩
    | k + 1, hk =>
      have HW := Lib.hid (wlit_drop s k (by omega))
      obtain ⟨m, HM⟩ : ∃ m, Hid (m = wlit (s.data.toList.drop (k + 1))) := ⟨_, Lib.hid rfl⟩
      have hm7 : m < 72057594037927936 := by rw [HM.out]; exact wlit_dlt s (k + 1) hs (by omega)
      have hor := rfix_or m (s[k]'(by omega)) hm7
      have hwb : IntKind.u64.wrap ((s[k]'(by omega)).toNat : Int) = ((s[k]'(by omega)).toNat : Int) := by have := (s[k]'(by omega)).toNat_lt; exact u64_wrap_id (by omega) (by omega)
      rw [← HM.out]
      have hkk : ((k : Int) + 1 - 1) = k := by omega
      go_wp2
      go_roundg k
      case measure => omega
      case rel => exact ⟨by omega, by simp, by rw [HW.out, ← HM.out]; first | rfl | simp | simp [hwb, hor], rfl⟩
set_option maxRecDepth 100000 in
set_option maxHeartbeats 2000000 in
theorem rtag_any (num kind : Int) (w : World) (h1 : -9223372036854775808 ≤ num) (h2 : num ≤ 9223372036854775807) (h3 : -9223372036854775808 ≤ kind) (h4 : kind ≤ 9223372036854775807) :
    Calls Tryz.prog 99 #[.int .i64 num, .int .i64 kind] w fun e w' => e = .returned (.string ⟨(wtag num kind).toArray⟩) ∧ Below w.heap.size w w' := by
  by_cases hb : num < 1 ∨ 536870911 < num ∨ kind < 0 ∨ 5 < kind
  · have HF := Lib.hid (wtag_bad hb)
    rcases (by omega : num < 1 ∨ (1 ≤ num ∧ 536870911 < num) ∨ (1 ≤ num ∧ num ≤ 536870911 ∧ kind < 0) ∨ (1 ≤ num ∧ num ≤ 536870911 ∧ 0 ≤ kind ∧ 5 < kind)) with h | ⟨h, h'⟩ | ⟨h, h', h''⟩ | ⟨h, h', h'', h'''⟩
    all_goals clear hb
    all_goals go_enter Tryz.func99, Tryz.ntmps99
    all_goals go_wp2
    all_goals go_ret
    all_goals exact ⟨by rw [HF.out]; rfl, Below.refl _ _⟩
  · obtain ⟨n, rfl⟩ := Int.eq_ofNat_of_zero_le (show 0 ≤ num by omega)
    obtain ⟨k, rfl⟩ := Int.eq_ofNat_of_zero_le (show 0 ≤ kind by omega)
    have hn1 : 1 ≤ n := by omega
    have hn2 : n ≤ 536870911 := by omega
    have hk : k ≤ 5 := by omega
    have HF := Lib.hid (wtag_ok hn1 hn2 hk)
    have hor := tag_or hn2 hk
    have hlt64 : 8 * n + k < 2 ^ 64 := by omega
    have HP := Lib.hid (put_start (n := 8 * n + k) (by omega))
    clear hb h1 h2 h3 h4
    have hn3 : ¬ (536870912 : Int) ≤ (n : Int) := by omega
    go_enter Tryz.func99, Tryz.ntmps99
    have hput := fun w => refput_any (8 * n + k) w HP.out (Lib.hid hlt64)
    rw [show ((8 * n + k : Nat) : Int) = 8 * (n : Int) + (k : Int) by simp] at hput
    have HPUT := Lib.hid hput
    clear hput
    go_wp2_with fail
    refine (HPUT.out w).mono ?_; rintro e w' ⟨rfl, hb⟩
    have HB := Lib.hid hb
    clear hb
    go_wp2_with fail
    go_ret
    exact ⟨by rw [HF.out]; rfl, HB.out⟩
set_option maxRecDepth 100000 in
set_option maxHeartbeats 2000000 in
theorem reight_any (n : Nat) (w : World) :
    Calls Tryz.prog 100 #[.int .u64 (n : Int)] w fun e w' => e = .returned (.string ⟨(eight 8 n).toArray⟩) ∧ Below w.heap.size w w' := by
  have HE8 := Lib.hid (eight_8 n)
  go_enter Tryz.func100, Tryz.ntmps100
  go_wp2_with fail
  go_loopg [3, 4] 8 (fun k v i wr => ∃ j : Nat, j + k = 8 ∧ i = .int .i64 (j : Int) ∧ wr.ownsRow w.heap.size 5 1 v j (bys ((eight 8 n).take j)) ∧ Below w.heap.size w wr)
  case atStart => exact ⟨0, by omega, rfl, World.ownsRow_nil _ _ _ _, Below.refl _ _⟩
  case round =>
    obtain ⟨j, hj, rfl, hown, hb⟩ := hrel
    have HJ := Lib.hid hj
    have HB := Lib.hid hb
    have hbs := hb.size
    have hj8 : j ≤ 8 := by omega
    clear hj hb
    by_cases hlt : j < 8
    · have hmin : min (8 * j) 64 = 8 * j := by omega
      have hmin2 : min (8 * (j : Int)) 64 = 8 * j := by omega
      have hl : j < (eight 8 n).length := by rw [eight_len]; exact hlt
      have hbyte : ((n : Int) / 2 ^ (8 * j)) % 256 = (((eight 8 n)[j]'hl).toNat : Int) := by
        have e : (eight 8 n)[j]? = some (UInt8.ofNat (n / 256 ^ j)) := by
          rw [HE8.out]
          rcases (by omega : j = 0 ∨ j = 1 ∨ j = 2 ∨ j = 3 ∨ j = 4 ∨ j = 5 ∨ j = 6 ∨ j = 7) with rfl | rfl | rfl | rfl | rfl | rfl | rfl | rfl
          all_goals simp
          all_goals apply UInt8.toNat_inj.1
          all_goals simp
        have e2 : (eight 8 n)[j]'hl = UInt8.ofNat (n / 256 ^ j) := by
          rw [List.getElem?_eq_getElem hl] at e
          exact Option.some.inj e
        rw [e2, ofNat_val (n / 256 ^ j) (((n / 256 ^ j % 256 : Nat)) : Int) rfl]
        rw [show 256 = 2 ^ 8 from rfl, ← Nat.pow_mul]
        simp
      go_wp2_with (at_builtin; refine wpList_app1 rfl _ _ 109 rfl Tryz.elU8 (by decide) hown rfl rfl rfl (by simp [Value.oneCell']) (by unfold maxLen; omega) (by omega) hbs ?_; intro v' w1 hown' hgrow)
      have HO2 : Hid (w1.ownsRow w.heap.size 5 1 v' (j + 1) (bys ((eight 8 n).take (j + 1)))) := Lib.hid (by
        rw [List.take_succ_eq_append_getElem hl, bys_snoc]; exact hown')
      have HB2 : Hid (Below w.heap.size w w1) := Lib.hid (HB.out.grown hgrow hbs (fun k hk => (hown.lt _ hk).1))
      have hj := HJ.out
      go_roundg (gk - 1)
      case measure => omega
      case rel => exact ⟨j + 1, by omega, by simp, HO2.out, HB2.out⟩
    · obtain rfl : j = 8 := by omega
      rw [List.take_of_length_le (by rw [eight_len]; omega)] at hown
      have hcv := run_conv_own (P := Tryz.prog) (src := 109) (dst := 9) Tryz.underlying109 Tryz.underlying5 Tryz.underlying9 hown
      clear hown
      go_wp2_with fail
      go_ret
      exact ⟨rfl, HB.out⟩
set_option maxRecDepth 100000 in
set_option maxHeartbeats 2000000 in
theorem rnum_any (num : Int) (n : Nat) (w : World) (h1 : -9223372036854775808 ≤ num) (h2 : num ≤ 9223372036854775807) (hn : n < 2 ^ 64) :
    Calls Tryz.prog 113 #[.int .i64 num, .int .u64 (n : Int)] w fun e w' => e = .returned (.string ⟨(wrec num 0 (vput n)).toArray⟩) ∧ Below w.heap.size w w' := by
  have HP := Lib.hid (put_start hn)
  have HN := Lib.hid hn
  have hv := vput_len n
  clear hn
  cases ht : wtag num 0 with
  | nil =>
    have HF : Hid (wrec num 0 (vput n) = []) := Lib.hid (by unfold wrec; rw [if_pos ht])
    have HT := Lib.hid ht
    clear ht
    go_enter Tryz.func113, Tryz.ntmps113
    go_wp2_with fail
    refine (rtag_any num 0 w h1 h2 (by omega) (by omega)).mono ?_; rintro e w' ⟨rfl, hb⟩
    have HB := Lib.hid hb
    rw [HT.out]
    clear hb
    go_wp2_with fail
    go_ret
    exact ⟨by rw [HF.out]; rfl, HB.out⟩
  | cons b t =>
    have HF : Hid (wrec num 0 (vput n) = (b :: t) ++ (vput n)) := Lib.hid (by unfold wrec; rw [if_neg (by rw [ht]; simp), ht])
    have hlen : t.length ≤ 9 := by have := wtag_len num 0; rw [ht] at this; simp at this; omega
    have HT := Lib.hid ht
    clear ht
    go_enter Tryz.func113, Tryz.ntmps113
    go_wp2_with fail
    refine (rtag_any num 0 w h1 h2 (by omega) (by omega)).mono ?_; rintro e w' ⟨rfl, hb⟩
    have HB := Lib.hid hb
    rw [HT.out]
    clear hb
    go_wp2_with fail
    refine (refput_any n w' HP.out HN).mono ?_; rintro e w2 ⟨rfl, hb2⟩
    have HB2 := Lib.hid (below_step HB.out hb2)
    clear hb2
    go_wp2_with fail
    go_ret
    exact ⟨by rw [HF.out]; exact ret_str (ba_append _ _), HB2.out⟩
set_option maxRecDepth 100000 in
set_option maxHeartbeats 2000000 in
theorem rfixedr_any (num : Int) (n : Nat) (w : World) (h1 : -9223372036854775808 ≤ num) (h2 : num ≤ 9223372036854775807) :
    Calls Tryz.prog 64 #[.int .i64 num, .int .u64 (n : Int)] w fun e w' => e = .returned (.string ⟨(wrec num 1 (eight 8 n)).toArray⟩) ∧ Below w.heap.size w w' := by
  have hv := eight_len 8 n
  cases ht : wtag num 1 with
  | nil =>
    have HF : Hid (wrec num 1 (eight 8 n) = []) := Lib.hid (by unfold wrec; rw [if_pos ht])
    have HT := Lib.hid ht
    clear ht
    go_enter Tryz.func64, Tryz.ntmps64
    go_wp2_with fail
    refine (rtag_any num 1 w h1 h2 (by omega) (by omega)).mono ?_; rintro e w' ⟨rfl, hb⟩
    have HB := Lib.hid hb
    rw [HT.out]
    clear hb
    go_wp2_with fail
    go_ret
    exact ⟨by rw [HF.out]; rfl, HB.out⟩
  | cons b t =>
    have HF : Hid (wrec num 1 (eight 8 n) = (b :: t) ++ (eight 8 n)) := Lib.hid (by unfold wrec; rw [if_neg (by rw [ht]; simp), ht])
    have hlen : t.length ≤ 9 := by have := wtag_len num 1; rw [ht] at this; simp at this; omega
    have HT := Lib.hid ht
    clear ht
    go_enter Tryz.func64, Tryz.ntmps64
    go_wp2_with fail
    refine (rtag_any num 1 w h1 h2 (by omega) (by omega)).mono ?_; rintro e w' ⟨rfl, hb⟩
    have HB := Lib.hid hb
    rw [HT.out]
    clear hb
    go_wp2_with fail
    refine (reight_any n w').mono ?_; rintro e w2 ⟨rfl, hb2⟩
    have HB2 := Lib.hid (below_step HB.out hb2)
    clear hb2
    go_wp2_with fail
    go_ret
    exact ⟨by rw [HF.out]; exact ret_str (ba_append _ _), HB2.out⟩
set_option maxRecDepth 100000 in
set_option maxHeartbeats 2000000 in
theorem rbytes_any (num : Int) (s : ByteArray) (w : World) (h1 : -9223372036854775808 ≤ num) (h2 : num ≤ 9223372036854775807) (hs : s.size ≤ 1000000) :
    Calls Tryz.prog 101 #[.int .i64 num, .string s] w fun e w' => e = .returned (.string ⟨(wrec num 2 (vput s.size ++ s.data.toList)).toArray⟩) ∧ Below w.heap.size w w' := by
  have hlt : s.size < 2 ^ 64 := by omega
  have HP := Lib.hid (put_start hlt)
  have HN := Lib.hid hlt
  have hv := vput_len s.size
  clear hlt
  cases ht : wtag num 2 with
  | nil =>
    have HF : Hid (wrec num 2 (vput s.size ++ s.data.toList) = []) := Lib.hid (by unfold wrec; rw [if_pos ht])
    have HT := Lib.hid ht
    clear ht
    go_enter Tryz.func101, Tryz.ntmps101
    go_wp2_with fail
    refine (rtag_any num 2 w h1 h2 (by omega) (by omega)).mono ?_; rintro e w' ⟨rfl, hb⟩
    have HB := Lib.hid hb
    rw [HT.out]
    clear hb
    go_wp2_with fail
    go_ret
    exact ⟨by rw [HF.out]; rfl, HB.out⟩
  | cons b t =>
    have HF : Hid (wrec num 2 (vput s.size ++ s.data.toList) = (b :: t) ++ (vput s.size ++ s.data.toList)) := Lib.hid (by unfold wrec; rw [if_neg (by rw [ht]; simp), ht])
    have hlen : t.length ≤ 9 := by have := wtag_len num 2; rw [ht] at this; simp at this; omega
    have HT := Lib.hid ht
    clear ht
    go_enter Tryz.func101, Tryz.ntmps101
    go_wp2_with fail
    refine (rtag_any num 2 w h1 h2 (by omega) (by omega)).mono ?_; rintro e w' ⟨rfl, hb⟩
    have HB := Lib.hid hb
    rw [HT.out]
    clear hb
    go_wp2_with fail
    refine (refput_any s.size w' HP.out HN).mono ?_; rintro e w2 ⟨rfl, hb2⟩
    have HB2 := Lib.hid (below_step HB.out hb2)
    clear hb2
    go_wp2_with fail
    go_ret
    exact ⟨by rw [HF.out]; rw [← List.append_assoc, ← ba_append, ← ba_append]; simp, HB2.out⟩
end Go.Proofs.YtandoppfbilhbaaGreatDoor
namespace Go.Proofs.YtandoppfbilhbaaGreatDoor
open Go.RowKit

def RFixedsPost (s : ByteArray) (w : World) (e : Ending) (w' : World) : Prop :=
  if s.size % 8 = 0 then ∃ u, e = .returned (.tuple #[u, .bool true]) ∧ w'.ownsRow w.heap.size 24 1 u (s.size / 8) (nats64 (fixs s.data.toList (s.size / 8))) ∧ Below w.heap.size w w'
  else e = .returned (.tuple #[.slice none 0 0, .bool false]) ∧ Below w.heap.size w w'
theorem rfixeds_ok {s : ByteArray} {w w' : World} {u : Value} {K : Nat} (h : s.size = 8 * K) (ho : w'.ownsRow w.heap.size 24 1 u K (nats64 (fixs s.data.toList K))) (hB : Below w.heap.size w w') : RFixedsPost s w (.returned (.tuple #[u, .bool true])) w' := by
  have e : s.size / 8 = K := by omega
  unfold RFixedsPost; rw [if_pos (by omega), e]; exact ⟨u, rfl, ho, hB⟩
def RVarsPost (s : ByteArray) (w : World) (e : Ending) (w' : World) : Prop := match wvars s.data.toList with
  | .error c => e = .returned (.tuple #[.slice none 0 0, .int .i64 (c : Int)]) ∧ Below w.heap.size w w'
  | .ok ns => ∃ u, e = .returned (.tuple #[u, .int .i64 0]) ∧ w'.ownsRow w.heap.size 24 1 u ns.length (nats64 ns) ∧ ns.length ≤ s.size ∧ Below w.heap.size w w'
theorem rvars_no {s : ByteArray} {c : Nat} {w w' : World} (h : wvars s.data.toList = .error c) (hB : Below w.heap.size w w') : RVarsPost s w (.returned (.tuple #[.slice none 0 0, .int .i64 (c : Int)])) w' := by
  unfold RVarsPost; rw [h]; exact ⟨rfl, hB⟩
theorem rvars_ok {s : ByteArray} {ns : List Nat} {w w' : World} {u : Value} (h : wvars s.data.toList = .ok ns) (ho : w'.ownsRow w.heap.size 24 1 u ns.length (nats64 ns)) (hl : ns.length ≤ s.size) (hB : Below w.heap.size w w') : RVarsPost s w (.returned (.tuple #[u, .int .i64 0])) w' := by
  unfold RVarsPost; rw [h]; exact ⟨u, rfl, ho, hl, hB⟩
theorem rget_ok (s : ByteArray) (p : Int) (w : World) (hs : s.size ≤ 1000000000) {n q : Nat} (h : vget s.data.toList p = .ok (n, q)) :
    Calls Tryz.prog 153 #[.string s, .int .i64 p] w fun e w' => e = .returned (.tuple #[.int .u64 n, .int .i64 q, .int .i64 0]) ∧ w = w' :=
  (refget_any s p w (by omega)).mono fun e w' ⟨h1, h2⟩ => by rw [h] at h2; exact ⟨h2, h1⟩
theorem rget_err (s : ByteArray) (p : Int) (w : World) (hs : s.size ≤ 1000000000) {c : Nat} (h : vget s.data.toList p = .error c) :
    Calls Tryz.prog 153 #[.string s, .int .i64 p] w fun e w' => e = .returned (.tuple #[.int .u64 0, .int .i64 0, .int .i64 c]) ∧ w = w' :=
  (refget_any s p w (by omega)).mono fun e w' ⟨h1, h2⟩ => by rw [h] at h2; exact ⟨h2, h1⟩
end Go.Proofs.YtandoppfbilhbaaGreatDoor
