/-
  bits.Lead, bits.Trail and what the reference says of them.
-/
import Derived.Test.YtihoemimiplhfaaDoorNums
namespace Go.Proofs.YtihoemimiplhfaaDoor
open Go.RowKit

/-! how many 0 bits stand ahead and behind -/
def blenF : Nat → Nat → Nat
  | 0, _ => 0
  | f + 1, n => if n = 0 then 0 else blenF f (n / 2) + 1
def blen (n : Nat) : Nat := blenF 64 n
def tzF : Nat → Nat → Nat
  | 0, _ => 0
  | f + 1, n => if n % 2 = 1 then 0 else tzF f (n / 2) + 1
def tz (n : Nat) : Nat := tzF 64 n
theorem blenF_bound : ∀ (f n : Nat), n < 2 ^ f → n < 2 ^ blenF f n ∧ blenF f n ≤ f ∧ (0 < n → 2 ^ (blenF f n - 1) ≤ n ∧ 1 ≤ blenF f n)
  | 0, n, h => by simp [blenF] at h ⊢; omega
  | f + 1, n, h => by
    rw [blenF]
    split
    · rename_i h0; subst h0; simp
    · obtain ⟨h1, h2, h3⟩ := blenF_bound f (n / 2) (by rw [Nat.pow_succ] at h; omega)
      refine ⟨by rw [Nat.pow_succ]; omega, by omega, fun _ => ⟨?_, by omega⟩⟩
      rw [Nat.add_sub_cancel]
      rcases Nat.eq_zero_or_pos (n / 2) with h4 | h4
      · rw [h4] at h1
        have : blenF f (n / 2) = 0 := by
          rw [h4]
          cases f <;> simp [blenF]
        rw [this]; simp; omega
      · obtain ⟨h5, h6⟩ := h3 h4
        obtain ⟨k, hk⟩ : ∃ k, blenF f (n / 2) = k + 1 := ⟨blenF f (n / 2) - 1, by omega⟩
        rw [hk] at h5 ⊢
        rw [Nat.add_sub_cancel] at h5
        rw [Nat.pow_succ]; omega
theorem blen_bound {n : Nat} (h : n < 2 ^ 64) : n < 2 ^ blen n ∧ blen n ≤ 64 ∧ (0 < n → 2 ^ (blen n - 1) ≤ n ∧ 1 ≤ blen n) := blenF_bound 64 n h
theorem blen_unique {n k : Nat} (h : n < 2 ^ 64) (h1 : n < 2 ^ k) (h2 : 0 < k → 2 ^ (k - 1) ≤ n) : blen n = k := by
  obtain ⟨a, b, c⟩ := blen_bound h
  rcases Nat.lt_trichotomy (blen n) k with hh | hh | hh
  · exfalso
    have := h2 (by omega)
    have : 2 ^ blen n ≤ 2 ^ (k - 1) := Nat.pow_le_pow_right (by omega) (by omega)
    omega
  · exact hh
  · exfalso
    have hn : 0 < n := by
      rcases Nat.eq_zero_or_pos n with h0 | h0
      · subst h0
        have : blen 0 = 0 := rfl
        omega
      · exact h0
    have h3 := (c hn).1
    have : 2 ^ k ≤ 2 ^ (blen n - 1) := Nat.pow_le_pow_right (by omega) (by omega)
    omega
theorem tzF_spec : ∀ (f n : Nat), 0 < n → n < 2 ^ f → tzF f n < f ∧ n / 2 ^ tzF f n % 2 = 1 ∧ n / 2 ^ tzF f n * 2 ^ tzF f n = n
  | 0, n, h0, h => by simp at h; omega
  | f + 1, n, h0, h => by
    rw [tzF]
    split
    · rename_i h1; exact ⟨by omega, by simpa using h1, by simp⟩
    · rename_i h1
      obtain ⟨h2, h3, h4⟩ := tzF_spec f (n / 2) (by omega) (by rw [Nat.pow_succ] at h; omega)
      refine ⟨by omega, ?_, ?_⟩
      · rw [Nat.pow_succ, Nat.mul_comm, ← Nat.div_div_eq_div_mul]; exact h3
      · have e : n / 2 ^ (tzF f (n / 2) + 1) = n / 2 / 2 ^ tzF f (n / 2) := by rw [Nat.pow_succ, Nat.mul_comm, ← Nat.div_div_eq_div_mul]
        rw [e, Nat.pow_succ, ← Nat.mul_assoc, h4]; omega
theorem tz_spec {n : Nat} (h0 : 0 < n) (h : n < 2 ^ 64) : tz n < 64 ∧ n / 2 ^ tz n % 2 = 1 ∧ n / 2 ^ tz n * 2 ^ tz n = n := tzF_spec 64 n h0 h
/-- how Lead goes -/
def LeadRel (n m k : Nat) : Prop := m = n / 2 ^ k ∧ k ≤ blen n
theorem lead_start (n : Nat) : LeadRel n n 0 := ⟨by simp, by omega⟩
theorem lead_step {n m k : Nat} (hn : n < 2 ^ 64) (h : LeadRel n m k) (hm : m ≠ 0) : LeadRel n (m / 2) (k + 1) := by
  obtain ⟨rfl, h2⟩ := h
  refine ⟨by rw [Nat.pow_succ, Nat.div_div_eq_div_mul], ?_⟩
  rcases Nat.lt_or_ge k (blen n) with hh | hh
  · exact hh
  · have := (blen_bound hn).1
    have e : k = blen n := by omega
    rw [e, Nat.div_eq_of_lt this] at hm
    exact absurd rfl hm
theorem lead_end {n m k : Nat} (hn : n < 2 ^ 64) (h : LeadRel n m k) (hm : m = 0) : k = blen n := by
  obtain ⟨rfl, h2⟩ := h
  rcases Nat.lt_or_ge k (blen n) with hh | hh
  · exfalso
    have h3 : n < 2 ^ k := by
      have := Nat.lt_of_div_eq_zero (Nat.pow_pos (by omega)) hm
      exact this
    have h4 : 0 < n := by
      rcases Nat.eq_zero_or_pos n with h0 | h0
      · subst h0
        have : blen 0 = 0 := rfl
        omega
      · exact h0
    have h5 := ((blen_bound hn).2.2 h4).1
    have : 2 ^ k ≤ 2 ^ (blen n - 1) := Nat.pow_le_pow_right (by omega) (by omega)
    omega
  · omega
/-- how Trail goes -/
def TrailRel (n m k : Nat) : Prop := 0 < m ∧ k < 64 ∧ m < 2 ^ (64 - k) ∧ tz n = k + tzF (64 - k) m
theorem trail_start {n : Nat} (h0 : 0 < n) (hn : n < 2 ^ 64) : TrailRel n n 0 := ⟨h0, by omega, hn, by simp [tz]⟩
theorem trail_step {n m k : Nat} (h : TrailRel n m k) (hm : m % 2 = 0) : TrailRel n (m / 2) (k + 1) := by
  obtain ⟨h1, h2, h3, h4⟩ := h
  have h5 : k + 1 < 64 := by
    rcases Nat.lt_or_ge (k + 1) 64 with hh | hh
    · exact hh
    · have e : k = 63 := by omega
      subst e
      simp at h3
      omega
  have e : 64 - k = (64 - (k + 1)) + 1 := by omega
  rw [e, Nat.pow_succ] at h3
  rw [e, tzF, if_neg (by omega)] at h4
  exact ⟨by omega, h5, by omega, by omega⟩
theorem trail_end {n m k : Nat} (h : TrailRel n m k) (hm : m % 2 = 1) : k = tz n := by
  obtain ⟨h1, h2, h3, h4⟩ := h
  have e : 64 - k = (64 - (k + 1)) + 1 := by omega
  rw [e, tzF, if_pos hm] at h4
  omega
set_option maxRecDepth 1000000 in
set_option maxHeartbeats 400000 in
theorem leads_any (n : Nat) (w : World) (hn : Hid (n < 2 ^ 64)) :
    Calls Tryd.prog 58 #[.int .u64 n] w fun e w' => e = .returned (.int .i64 ((64 - blen n : Nat) : Int)) ∧ w = w' := by
  go_enter Tryd.func58, Tryd.ntmps58
  go_wp2
  go_loop [0, 3] (fun v k => ∃ (m j : Nat), v = .int .u64 m ∧ k = .int .i64 (64 - (j : Int)) ∧ LeadRel n m j) (fun v _ => (intOf v).toNat)
  case atStart => exact ⟨n, 0, rfl, rfl, lead_start n⟩
  case round =>
    obtain ⟨m, j, rfl, rfl, HR⟩ := hrel
    have hb := (blen_bound hn.out).2.1
    have hj := HR.2
    by_cases hc : m = 0
    · have HE := Lib.hid (lead_end hn.out HR hc)
      subst hc
      go_wp2
      go_ret
      exact ⟨ret_int (by rw [← HE.out]; omega), rfl⟩
    · have hc1 : ((m : Int) == 0) = false := by simp; omega
      have hc2 : ((m : Int) != 0) = true := by simp; omega
      have R := Lib.hid (lead_step hn.out HR hc)
      clear hc
      go_wp2
      exact ⟨⟨m / 2, j + 1, by simp, by simp; omega, R.out⟩, by have h0 : m ≠ 0 := (by simpa using hc2); simp [intOf]; omega⟩
set_option maxRecDepth 1000000 in
set_option maxHeartbeats 400000 in
theorem trail_zero (w : World) :
    Calls Tryd.prog 59 #[.int .u64 0] w fun e w' => e = .returned (.int .i64 64) ∧ w = w' := by
  go_enter Tryd.func59, Tryd.ntmps59
  go_wp2
  go_ret
  exact ⟨rfl, rfl⟩
set_option maxRecDepth 1000000 in
set_option maxHeartbeats 400000 in
theorem trail_any (n : Nat) (w : World) (h0 : 0 < n) (hn : Hid (n < 2 ^ 64)) :
    Calls Tryd.prog 59 #[.int .u64 n] w fun e w' => e = .returned (.int .i64 (tz n : Nat)) ∧ w = w' := by
  have hz : ((n : Int) == 0) = false := by simp; omega
  go_enter Tryd.func59, Tryd.ntmps59
  go_wp2
  go_loop [0, 3] (fun v k => ∃ (m j : Nat), v = .int .u64 m ∧ k = .int .i64 (j : Int) ∧ TrailRel n m j) (fun v _ => (intOf v).toNat)
  case atStart => exact ⟨n, 0, rfl, rfl, trail_start h0 hn.out⟩
  case round =>
    obtain ⟨m, j, rfl, rfl, HR⟩ := hrel
    have hj := HR.2.1
    have hm := HR.1
    have ha := Lib.hid (u64_and_one m)
    rcases (by omega : m % 2 = 1 ∨ m % 2 = 0) with hc | hc
    · have HE := Lib.hid (trail_end HR hc)
      have ha' : bits .and .u64 (m : Int) 1 = 1 := by rw [ha.out, hc]; rfl
      clear hc
      go_wp2
      go_ret
      exact ⟨ret_int (by rw [← HE.out]), rfl⟩
    · have R := Lib.hid (trail_step HR hc)
      have ha' : bits .and .u64 (m : Int) 1 = 0 := by rw [ha.out, hc]; rfl
      clear hc
      go_wp2
      exact ⟨⟨m / 2, j + 1, by simp, by simp, R.out⟩, by simp [intOf]; omega⟩
end Go.Proofs.YtihoemimiplhfaaDoor
