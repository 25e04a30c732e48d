/-
  hygref2.GetVarint, with every answer that it can give.
-/
import Derived.Test.YtdokbooggbiciaaGreatDoorNums
namespace Go.Proofs.YtdokbooggbiciaaGreatDoor
open Go.RowKit

/-- what the reference answers -/
def RefPost (r : Except Nat (Nat × Nat)) (w : World) (e : Ending) (w' : World) : Prop :=
  w = w' ∧ e = .returned (match r with
  | .ok (n, q) => .tuple #[.int .u64 n, .int .i64 q, .int .i64 0]
  | .error c => .tuple #[.int .u64 0, .int .i64 0, .int .i64 c])
theorem refPost_err {r : Except Nat (Nat × Nat)} {c : Nat} (h : r = .error c) {w : World} {c' : Int} (hc : c' = c) :
    RefPost r w (.returned (.tuple #[.int .u64 0, .int .i64 0, .int .i64 c'])) w := by
  subst h; subst hc; exact ⟨rfl, rfl⟩
theorem refPost_ok {r : Except Nat (Nat × Nat)} {n q : Nat} (h : r = .ok (n, q)) {w : World} {n' q' : Int} (hn : n' = n) (hq : q' = q) :
    RefPost r w (.returned (.tuple #[.int .u64 n', .int .i64 q', .int .i64 0])) w := by
  subst h; subst hn; subst hq; exact ⟨rfl, rfl⟩

set_option maxRecDepth 1000000 in
set_option maxHeartbeats 1000000 in
theorem refget_in (s : ByteArray) (p : Nat) (w : World) (hs : s.size ≤ 4611686018427387904) (hp : p ≤ s.size) :
    Calls Tryz.prog 57 #[.string s, .int .i64 p] w (RefPost (vget s.data.toList p) w) := by
  have hlen : s.data.toList.length = s.size := by simp
  have HL := Lib.hid hlen
  have hpl := Lib.hid (show p ≤ s.data.toList.length by omega)
  clear hlen
  have hst := get_start s.data.toList p (by have := HL.out; omega)
  have hd1 : decide (s.size < p) = false := by simp; omega
  have hd2 : decide ((p : Int) < 0) = false := by simp
  go_enter Tryz.func57, Tryz.ntmps57
  go_wp2
  go_loop [7, 8] (fun n i => ∃ (k m : Nat), n = .int .u64 m ∧ i = .int .i64 k ∧ GetRel s.data.toList p k m) (fun _ i => 12 - (intOf i).toNat)
  case atStart => exact ⟨0, 0, rfl, rfl, hst⟩
  case round =>
    obtain ⟨k, m, rfl, rfl, HR⟩ := hrel
    have hk : p + k ≤ s.size := by have := HR.2.2.2; have := HL.out; omega
    have hk' : k ≤ 10 := HR.2.2.1
    by_cases h10 : k < 10
    · by_cases hsh : p + k = s.size
      · have HE := Lib.hid (get_short HR h10 (by have := HL.out; omega) hpl.out)
        have hsh' : s.size ≤ p + k := by omega
        clear hsh
        go_wp2
        go_ret3
        exact refPost_err HE.out rfl
      · have hlt : p + k < s.size := by omega
        have HC := Lib.hid (byte_at s (p + k) hlt)
        rcases (by omega : k = 9 ∨ k < 9) with h9 | h9
        · subst h9
          have hg : ∀ h1 : (s[p + 9]'hlt).toNat ≤ 1, Hid (vget s.data.toList p = .ok (m + (s[p + 9]'hlt).toNat * 128 ^ 9, p + 9 + 1)) := fun h1 => Lib.hid (get_done HR (by omega) hpl.out HC.out (fun _ => h1) (by omega))
          have hbig : ∀ h1 : 1 < (s[p + 9]'hlt).toNat, Hid (vget s.data.toList p = .error 4) := fun h1 => Lib.hid (get_big HR rfl hpl.out HC.out h1)
          have hm := Lib.hid HR.2.1
          go_wp2
          · go_ret3
            exact refPost_err (hbig (by omega)).out rfl
          · go_ret3
            have h1 : (s[p + 9]'hlt).toNat ≤ 1 := by omega
            exact refPost_ok (hg h1).out (by rw [get_or9 m _ hm.out h1, Nat.mod_eq_of_lt (by omega)]) (by omega)
        · have hg : ∀ h2 : (s[p + k]'hlt).toNat < 128, Hid (vget s.data.toList p = .ok (m + (s[p + k]'hlt).toNat * 128 ^ k, p + k + 1)) := fun h2 => Lib.hid (get_done HR h10 hpl.out HC.out (by omega) h2)
          have hmo : ∀ h2 : 128 ≤ (s[p + k]'hlt).toNat, Hid (GetRel s.data.toList p (k + 1) (m + ((s[p + k]'hlt).toNat - 128) * 128 ^ k)) := fun h2 => Lib.hid (get_more HR h10 HC.out (by omega) h2).2
          have hm := Lib.hid HR.2.1
          go_wp2
          · go_ret3
            have h2 : (s[p + k]'hlt).toNat < 128 := by omega
            exact refPost_ok (hg h2).out (by rw [get_or m k _ hm.out h10 (by omega), Nat.mod_eq_of_lt (by omega)]) (by omega)
          · have h2 : 128 ≤ (s[p + k]'hlt).toNat := by omega
            have hb := (s[p + k]'hlt).toNat_lt
            have R := (hmo h2).out
            rw [show (s[p + k]'hlt).toNat - 128 = (s[p + k]'hlt).toNat % 128 by omega] at R
            exact ⟨⟨k + 1, _, by rw [get_or m k _ hm.out h10 (by omega)], by simp, R⟩, by simp [intOf]; omega⟩
    · obtain rfl : k = 10 := by omega
      have HE := Lib.hid (get_ten HR hpl.out)
      go_wp2
      go_ret3
      exact refPost_err HE.out rfl
theorem refget_any (s : ByteArray) (p : Int) (w : World) (hs : s.size ≤ 4611686018427387904) :
    Calls Tryz.prog 57 #[.string s, .int .i64 p] w (RefPost (vget s.data.toList p) w) := by
  by_cases h : p < 0 ∨ s.size < p
  · have HE := Lib.hid (get_out (l := s.data.toList) (p := p) (by simpa using h))
    by_cases h0 : p < 0
    · go_enter Tryz.func57, Tryz.ntmps57
      go_wp2
      go_ret3
      exact refPost_err HE.out rfl
    · obtain ⟨q, rfl⟩ := Int.eq_ofNat_of_zero_le (by omega : 0 ≤ p)
      have h1 : s.size < q := by omega
      go_enter Tryz.func57, Tryz.ntmps57
      go_wp2
      go_ret3
      exact refPost_err HE.out rfl
  · obtain ⟨q, rfl⟩ := Int.eq_ofNat_of_zero_le (by omega : 0 ≤ p)
    exact refget_in s q w hs (by omega)
end Go.Proofs.YtdokbooggbiciaaGreatDoor
