/-
  The reference's Lead and Trail, and its Reader.
-/
import Derived.Test.YtihoemimiplhfaaDoorBitsNum
import Derived.Test.YtihoemimiplhfaaDoorBitsAt
namespace Go.Proofs.YtihoemimiplhfaaDoor
open Go.RowKit

theorem lead_bit {n k : Nat} (hn : n < 2 ^ 64) (hk : k < 64) (h : k ≤ 64 - blen n) : (n / 2 ^ (63 - k) % 2 = 0 → k + 1 ≤ 64 - blen n) ∧ (n / 2 ^ (63 - k) % 2 = 1 → k = 64 - blen n) := by
  obtain ⟨h1, h2, h3⟩ := blen_bound hn
  have hlt : n < 2 ^ (63 - k + 1) := by
    have : 2 ^ blen n ≤ 2 ^ (63 - k + 1) := Nat.pow_le_pow_right (by omega) (by omega)
    omega
  have hd : n / 2 ^ (63 - k) < 2 := by rw [Nat.div_lt_iff_lt_mul (Nat.pow_pos (by omega)), Nat.mul_comm, ← Nat.pow_succ]; exact hlt
  constructor
  · intro h0
    have hz : n / 2 ^ (63 - k) = 0 := by generalize n / 2 ^ (63 - k) = X at h0 hd; omega
    have h4 : n < 2 ^ (63 - k) := Nat.lt_of_div_eq_zero (Nat.pow_pos (by omega)) hz
    rcases Nat.lt_or_ge (blen n) (64 - k) with hh | hh
    · omega
    · exfalso
      have h5 := (h3 (by
        rcases Nat.eq_zero_or_pos n with e | e
        · subst e
          have : blen 0 = 0 := rfl
          omega
        · exact e)).1
      have : 2 ^ (63 - k) ≤ 2 ^ (blen n - 1) := Nat.pow_le_pow_right (by omega) (by omega)
      omega
  · intro h0
    have hz : n / 2 ^ (63 - k) = 1 := by generalize n / 2 ^ (63 - k) = X at h0 hd; omega
    have h4 : 2 ^ (63 - k) ≤ n := by
      have := Nat.div_mul_le_self n (2 ^ (63 - k))
      rw [hz] at this; omega
    rcases Nat.lt_or_ge (63 - k) (blen n) with hh | hh
    · omega
    · exfalso
      have : 2 ^ blen n ≤ 2 ^ (63 - k) := Nat.pow_le_pow_right (by omega) hh
      omega
def tzz (n : Nat) : Nat := if n = 0 then 64 else tz n
theorem tz_below : ∀ (f n k : Nat), 0 < n → n < 2 ^ f → k ≤ tzF f n → (n / 2 ^ k % 2 = 0 → k + 1 ≤ tzF f n) ∧ (n / 2 ^ k % 2 = 1 → k = tzF f n)
  | 0, n, k, h0, h, _ => by simp at h; omega
  | f + 1, n, k, h0, h, hk => by
    by_cases ho : n % 2 = 1
    · rw [tzF, if_pos ho] at hk ⊢
      obtain rfl : k = 0 := by omega
      simp [ho]
    · rw [tzF, if_neg ho] at hk ⊢
      cases k with
      | zero => simp; omega
      | succ k =>
        have ih := tz_below f (n / 2) k (by omega) (by rw [Nat.pow_succ] at h; omega) (by omega)
        have e : n / 2 ^ (k + 1) = n / 2 / 2 ^ k := by rw [Nat.pow_succ, Nat.mul_comm, ← Nat.div_div_eq_div_mul]
        rw [e]
        exact ⟨fun hh => by have := ih.1 hh; omega, fun hh => by have := ih.2 hh; omega⟩
theorem trail_bit {n k : Nat} (hn : n < 2 ^ 64) (hk : k < 64) (h : k ≤ tzz n) : (n / 2 ^ k % 2 = 0 → k + 1 ≤ tzz n) ∧ (n / 2 ^ k % 2 = 1 → k = tzz n) := by
  unfold tzz at h ⊢
  split at h
  · rename_i h0
    subst h0
    rw [if_pos rfl]
    simp; omega
  · rename_i h0
    rw [if_neg h0]
    exact tz_below 64 n k (by omega) hn h
theorem tzz_le {n : Nat} (hn : n < 2 ^ 64) : tzz n ≤ 64 := by
  unfold tzz
  split
  · omega
  · have := (tz_spec (by omega : 0 < n) hn).1; omega
theorem shr_and1 (n k : Nat) : bits .and .u64 ((n : Int) / 2 ^ k) 1 = ((n / 2 ^ k % 2 : Nat) : Int) := by
  have e : (n : Int) / 2 ^ k = ((n / 2 ^ k : Nat) : Int) := by simp
  rw [e, u64_and_one]
set_option maxRecDepth 1000000 in
set_option maxHeartbeats 1000000 in
theorem rlead_any (n : Nat) (w : World) (hn : Hid (n < 2 ^ 64)) :
    Calls Tryd.prog 35 #[.int .u64 n] w fun e w' => e = .returned (.int .i64 ((64 - blen n : Nat) : Int)) ∧ w = w' := by
  have hb := (blen_bound hn.out).2.1
  go_enter Tryd.func35, Tryd.ntmps35
  go_wp2
  go_loop [3] (fun x => ∃ k : Nat, x = .int .i64 (k : Int) ∧ k ≤ 64 - blen n) (fun x => 64 - (intOf x).toNat)
  case atStart => exact ⟨0, rfl, by omega⟩
  case round =>
    obtain ⟨k, rfl, hk⟩ := hrel
    by_cases hlt : k < 64
    · have hbit := lead_bit hn.out hlt hk
      have ha := shr_and1 n (63 - k)
      rcases (by omega : n / 2 ^ (63 - k) % 2 = 0 ∨ n / 2 ^ (63 - k) % 2 = 1) with h0 | h0
      · have hk2 := hbit.1 h0
        rw [h0] at ha
        have ha2 : bits .and .u64 ((n : Int) / 2 ^ (63 - k)) 1 = 0 := ha
        clear ha h0 hbit
        go_wp2
        exact ⟨⟨k + 1, by simp, hk2⟩, by simp [intOf]; omega⟩
      · have hk2 := hbit.2 h0
        rw [h0] at ha
        have ha2 : bits .and .u64 ((n : Int) / 2 ^ (63 - k)) 1 = 1 := ha
        have HK := Lib.hid hk2
        clear ha h0 hbit hk2 hk
        go_wp2
        go_ret
        exact ⟨ret_int (by rw [← HK.out]), rfl⟩
    · obtain rfl : k = 64 := by omega
      have HK := Lib.hid (show 64 - blen n = 64 by omega)
      go_wp2
      go_ret
      exact ⟨ret_int (by rw [HK.out]; rfl), rfl⟩
set_option maxRecDepth 1000000 in
set_option maxHeartbeats 1000000 in
theorem rtrail_any (n : Nat) (w : World) (hn : Hid (n < 2 ^ 64)) :
    Calls Tryd.prog 36 #[.int .u64 n] w fun e w' => e = .returned (.int .i64 (tzz n : Nat)) ∧ w = w' := by
  have hb := tzz_le hn.out
  go_enter Tryd.func36, Tryd.ntmps36
  go_wp2
  go_loop [3] (fun x => ∃ k : Nat, x = .int .i64 (k : Int) ∧ k ≤ tzz n) (fun x => 64 - (intOf x).toNat)
  case atStart => exact ⟨0, rfl, by omega⟩
  case round =>
    obtain ⟨k, rfl, hk⟩ := hrel
    by_cases hlt : k < 64
    · have hbit := trail_bit hn.out hlt hk
      have ha := shr_and1 n k
      rcases (by omega : n / 2 ^ k % 2 = 0 ∨ n / 2 ^ k % 2 = 1) with h0 | h0
      · have hk2 := hbit.1 h0
        rw [h0] at ha
        have ha2 : bits .and .u64 ((n : Int) / 2 ^ k) 1 = 0 := ha
        clear ha h0 hbit
        go_wp2
        exact ⟨⟨k + 1, by simp, hk2⟩, by simp [intOf]; omega⟩
      · have hk2 := hbit.2 h0
        rw [h0] at ha
        have ha2 : bits .and .u64 ((n : Int) / 2 ^ k) 1 = 1 := ha
        have HK := Lib.hid hk2
        clear ha h0 hbit hk2 hk
        go_wp2
        go_ret
        exact ⟨ret_int (by rw [← HK.out]), rfl⟩
    · obtain rfl : k = 64 := by omega
      have HK := Lib.hid (show tzz n = 64 by omega)
      go_wp2
      go_ret
      exact ⟨ret_int (by rw [HK.out]; rfl), rfl⟩
theorem trailz_any (n : Nat) (w : World) (hn : Hid (n < 2 ^ 64)) :
    Calls Tryd.prog 59 #[.int .u64 n] w fun e w' => e = .returned (.int .i64 (tzz n : Nat)) ∧ w = w' := by
  unfold tzz
  rcases Nat.eq_zero_or_pos n with rfl | h
  · exact trail_zero w
  · rw [if_neg (by omega)]; exact trail_any n w h hn
/-- the reference's Reader at block p -/
def RRAt (w : World) (p : Nat) (s : ByteArray) (i : Nat) : Prop := w.heap[p]? = some (.cells #[.string s, .int .i64 (i : Int)] 84 (0, 0))
theorem bit_get (x k : Nat) (hk : k < 8) : bits .and .u8 ((x : Int) / 2 ^ (7 - k)) 1 = ((x * 2 ^ k % 256 / 2 ^ (8 - 1) : Nat) : Int) := by
  have e : (x : Int) / 2 ^ (7 - k) = ((x / 2 ^ (7 - k) : Nat) : Int) := by simp
  have h1 : bits .and .u8 ((x / 2 ^ (7 - k) : Nat) : Int) 1 = ((x / 2 ^ (7 - k) % 2 : Nat) : Int) := by
    show IntKind.u8.wrap ((BitVec.ofInt 8 ((x / 2 ^ (7 - k) : Nat) : Int) &&& BitVec.ofInt 8 1).toNat : Int) = _
    rw [BitVec.toNat_and, show (BitVec.ofInt 8 1).toNat = 1 from by decide, Nat.and_one_is_mod, BitVec.toNat_ofInt]
    simp [IntKind.wrap, IntKind.bits, IntKind.signed]
    omega
  rw [e, h1]
  congr 1
  have h2 : 256 = 2 ^ (8 - k) * 2 ^ k := by rw [← Nat.pow_add, show 8 - k + k = 8 by omega]
  rw [h2, Nat.mul_mod_mul_right, show 8 - 1 = (7 - k) + k by omega, Nat.pow_add, Nat.mul_div_mul_right _ _ (Nat.pow_pos (by omega))]
  rw [show 8 - k = (7 - k) + 1 by omega, Nat.pow_succ, Nat.mod_mul_right_div_self]
theorem rget_step (s : ByteArray) (i m k b : Nat) (hb : b = m / 8) (hk : k = m % 8) (hbs : b < s.size) (him : i ≤ m) (h64 : m - i + 1 ≤ 64) (h8 : m + 1 ≤ 8 * s.size) :
    bits .or .u64 (IntKind.u64.wrap ((getB s.data.toList i (m - i) : Nat) * 2)) (IntKind.u64.wrap (bits .and .u8 (((s[b]'hbs).toNat : Int) / 2 ^ (7 - k)) 1)) = ((getB s.data.toList i (m + 1 - i) : Nat) : Int) := by
  have h := get_step s i m 1 k b hb hk hbs him (by omega) h64 h8
  rw [bit_get _ k (by omega)]
  rw [Int.pow_one] at h
  have e : (((s[b]'hbs).toNat : Int) * 2 ^ k % 256 / 2 ^ (8 - 1)) = (((s[b]'hbs).toNat * 2 ^ k % 256 / 2 ^ (8 - 1) : Nat) : Int) := by simp
  rw [e] at h
  exact h
def RGet (s : ByteArray) (i : Nat) (c : Int) (p : Nat) (w : World) (e : Ending) (w' : World) : Prop :=
  if c < 0 ∨ 64 < c then e = .returned (.tuple #[.int .u64 0, .int .i64 9]) ∧ Upd (fun k => k = p) w w' ∧ RRAt w' p s i
  else if 8 * (s.size : Int) - i < c then e = .returned (.tuple #[.int .u64 0, .int .i64 1]) ∧ Upd (fun k => k = p) w w' ∧ RRAt w' p s i
  else e = .returned (.tuple #[.int .u64 (getB s.data.toList i c.toNat : Nat), .int .i64 0]) ∧ Upd (fun k => k = p) w w' ∧ RRAt w' p s (i + c.toNat)
theorem rrat_step {wr : World} {p m nq : Nat} {s : ByteArray} (h : RRAt wr p s m) (M : Int) (q : Nat) (hM : M = (q : Int)) : RRAt ((wr.drewN nq).setCell ⟨p, 1, none⟩ (.int .i64 M)) p s q ∧ Upd (fun k => k = p) wr ((wr.drewN nq).setCell ⟨p, 1, none⟩ (.int .i64 M)) := by
  subst hM
  refine ⟨?_, (Upd.drewN _ wr nq).trans (Upd.set _ ⟨p, 1, none⟩ _)⟩
  unfold RRAt
  rw [row_set (cs := #[.string s, .int .i64 (m : Int)]) (T := 84) (by rw [(drewN_heap wr nq).1]; exact h)]
  rfl
theorem rrat_drewN {w : World} {p i n : Nat} {s : ByteArray} (h : RRAt w p s i) : RRAt (w.drewN n) p s i := by unfold RRAt; rw [(drewN_heap w n).1]; exact h
set_option maxRecDepth 1000000 in
set_option maxHeartbeats 4000000 in
theorem rget_any (p : Nat) (s : ByteArray) (i : Nat) (c : Int) (w : World) (h : RRAt w p s i) (hs : s.size ≤ 1000000000) (hi : i ≤ 8 * s.size) :
    Calls Tryd.prog 43 #[.pointer (some ⟨p, 0, none⟩), .int .i64 c] w (RGet s i c p w) := by
  have hc0 : w.cell? ⟨p, 0, none⟩ = some (.string s) := row_cell h (j := 0) rfl
  have hc1 : w.cell? ⟨p, 1, none⟩ = some (.int .i64 (i : Int)) := row_cell h (j := 1) rfl
  have H := Lib.hid h
  clear h
  by_cases hneg : c < 0
  · have d1 : decide (c < 0) = true := by simpa using hneg
    have HB := Lib.hid (show c < 0 ∨ 64 < c from .inl hneg)
    clear hneg
    go_enter Tryd.func43, Tryd.ntmps43
    go_wp2_with fail
    go_ret2
    unfold RGet
    rw [if_pos HB.out]
    exact ⟨rfl, Upd.refl _ _, H.out⟩
  · obtain ⟨k, rfl⟩ := Int.eq_ofNat_of_zero_le (show 0 ≤ c by omega)
    have d1 : decide ((k : Int) < 0) = false := by simp
    by_cases hbig : 64 < k
    · have d2 : decide (64 < (k : Int)) = true := by simp; omega
      have HB := Lib.hid (show (k : Int) < 0 ∨ 64 < (k : Int) from .inr (by omega))
      clear hneg hbig
      go_enter Tryd.func43, Tryd.ntmps43
      go_wp2_with fail
      go_ret2
      unfold RGet
      rw [if_pos HB.out]
      exact ⟨rfl, Upd.refl _ _, H.out⟩
    · have d2 : decide (64 < (k : Int)) = false := by simp; omega
      have hk : k ≤ 64 := by omega
      have hb : ¬ ((k : Int) < 0 ∨ 64 < (k : Int)) := by omega
      have HB := Lib.hid (by omega : 0 ≤ (k : Int) ∧ (k : Int) ≤ 64)
      clear hneg hbig hb
      by_cases hl : 8 * (s.size : Int) - i < k
      · have HL := Lib.hid hl
        have d3 : decide (8 * (s.size : Int) - (i : Int) < (k : Int)) = true := by simpa using hl
        clear hl
        go_enter Tryd.func43, Tryd.ntmps43
        go_wp2_with fail
        go_quiet (fail)
        go_wp2_with fail
        go_ret2
        unfold RGet
        rw [if_neg (by have := HB.out; omega), if_pos HL.out]
        exact ⟨rfl, Upd.drewN _ _ _, rrat_drewN H.out⟩
      · have hl' : (k : Int) ≤ 8 * (s.size : Int) - i := by omega
        have d3 : decide (8 * (s.size : Int) - (i : Int) < (k : Int)) = false := by simp; omega
        have HL := Lib.hid hl'
        have hik : i + k ≤ 8 * s.size := by omega
        clear hl
        go_enter Tryd.func43, Tryd.ntmps43
        go_wp2_with fail
        go_quiet (fail)
        go_wp2_with fail
        have HR0 := Lib.hid (rrat_drewN (n := nq) H.out)
        have HU0 := Lib.hid (Upd.drewN (fun k => k = p) w nq)
        go_loopw [6, 7] (fun x y wr => ∃ d : Nat, d ≤ k ∧ y = .int .i64 (d : Int) ∧ x = .int .u64 (getB s.data.toList i d : Nat) ∧ RRAt wr p s (i + d) ∧ Upd (fun k => k = p) w wr) (fun _ y _ => k - (intOf y).toNat)
        case atStart => exact ⟨0, by omega, rfl, by rw [getB_zero]; rfl, HR0.out, HU0.out⟩
        case round =>
          obtain ⟨d, hd, rfl, rfl, hr, hu⟩ := hrel
          have HR := Lib.hid hr
          have HU := Lib.hid hu
          have hc0 : wr.cell? ⟨p, 0, none⟩ = some (.string s) := row_cell hr (j := 0) rfl
          have hc1 : wr.cell? ⟨p, 1, none⟩ = some (.int .i64 ((i + d : Nat) : Int)) := row_cell hr (j := 1) rfl
          have hf1 := row_thaw hr 1
          clear hr hu
          by_cases hlt : d < k
          · obtain ⟨m, hm⟩ : ∃ m, m = i + d := ⟨_, rfl⟩
            rw [← hm] at hc1
            have HM := Lib.hid hm
            have hm8 : m + 1 ≤ 8 * s.size := by omega
            have hdm : d = m - i := by omega
            have hmi : i ≤ m := by omega
            obtain ⟨r, hr⟩ : ∃ r : Nat, (m : Int) % 8 = (r : Int) := ⟨m % 8, by simp⟩
            have hr2 : r = m % 8 := by omega
            have hr8 : r < 8 := by omega
            obtain ⟨b, hb⟩ : ∃ b : Nat, b = m / 8 := ⟨_, rfl⟩
            have q5 : IntKind.i64.wrap ((m : Int) / 8) = (b : Int) := by rw [IntWalk.i64_in _ (by omega)]; omega
            have q6 : (0 : Int) ≤ (b : Int) := by omega
            have q7 : (b : Int) < (s.size : Int) := by omega
            have hbs : b < s.size := by omega
            have q8 : (m : Int).tmod 8 = (r : Int) := by rw [Int.tmod_eq_emod_of_nonneg (by omega)]; exact hr
            have q9 : (0 : Int) ≤ 7 - (r : Int) := by omega
            have q10 : IntKind.i64.wrap (7 - (r : Int)) = 7 - (r : Int) := IntWalk.i64_in _ (by omega)
            have q11 : IntKind.u64.wrap (7 - (r : Int)) = 7 - (r : Int) := by rw [IntKind.wrap_u64]; omega
            have q12 : min (7 - r) 8 = 7 - r := by omega
            have HB2 := Lib.hid hb
            have HR2 := Lib.hid hr2
            have HDM := Lib.hid hdm
            have hd64 : m - i + 1 ≤ 64 := by omega
            clear hm hdm hb hr2
            go_wp2_with fail
            go_quiet (fail)
            have HV := rget_step s i m r b HB2.out HR2.out hbs hmi hd64 hm8
            rw [← HDM.out, show m + 1 - i = d + 1 by have := HDM.out; omega] at HV
            rw [HV]
            clear HV
            go_wp2_with fail
            obtain ⟨r1, r2⟩ := rrat_step (m := m) (by rw [HM.out]; exact HR.out) (nq := nq) ((m : Int) + 1) (m + 1) (by simp)
            have hm1 : RRAt ((wr.drewN nq).setCell ⟨p, 1, none⟩ (.int .i64 ((m : Int) + 1))) p s (i + (d + 1)) := by
              rw [show i + (d + 1) = m + 1 by have := HM.out; omega]; exact r1
            exact ⟨⟨d + 1, by omega, by simp, rfl, hm1, HU.out.trans r2⟩, by simp [intOf]; omega⟩
          · obtain rfl : d = k := by omega
            go_wp2_with fail
            go_ret2
            unfold RGet
            rw [if_neg (by have := HB.out; omega), if_neg (Int.not_lt.2 HL.out)]
            exact ⟨rfl, HU.out, HR.out⟩
end Go.Proofs.YtihoemimiplhfaaDoor
