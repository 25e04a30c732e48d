/-
  Doubles added: the reference's round and parts.
-/
import Derived.Test.YtkpljnfakidjeaaFaddRR
namespace Go.Proofs.Ytkpljnfakidjeaa
open Go.RowKit

theorem pow_lt64 {s : Nat} (h : s ≤ 63) : IntKind.u64.wrap (2 ^ s) = ((2^s : Nat) : Int) := by
  have h1 : 2^s < 2^64 := Nat.pow_lt_pow_right (by decide) (by omega)
  have e : ((2 : Int) ^ s) = ((2^s : Nat) : Int) := by simp
  rw [e, IntKind.wrap_u64]
  generalize 2^s = P at *
  omega
theorem rround_at (neg : Bool) (m j S R : Nat) (e : Int) (w : World) (hK : Fm.K S j m) (hS : 0 < S) (hj : j ≤ 2045) (he : e = (j : Int) - 1084) (hR : Hid ((if neg then 1 else 0) * 2^63 + Fm.rnd S = R)) :
    Calls Try.prog 33 #[.bool neg, .int .u64 m, .int .i64 e] w fun x w' => x = .returned (.int .u64 (R : Nat)) ∧ w = w' := by
  obtain ⟨hm0, hk⟩ := hK.place hS
  have hm := hK.1
  have hL1 : m.log2 < 64 := (Nat.log2_lt (by omega)).2 hm
  have hq := Fm.rne_rk S
  have q1 := @Fm.ref_small S
  have q2 := @Fm.ref_great S
  have q3 := @Fm.ref_mid S
  have rr := @Fm.K.right S j m hK hS
  have ll := @Fm.K.left S j m hK hS
  obtain ⟨k, hkk⟩ : ∃ k, Fm.rk S = k := ⟨_, rfl⟩
  rw [hkk] at hk hq q1 q2 q3 rr ll
  obtain ⟨Q, hQ⟩ : ∃ Q, Fm.rne S k = Q := ⟨_, rfl⟩
  rw [hQ] at hq q1 q2 q3
  obtain ⟨lo, hlo⟩ : ∃ lo : Int, lo = (k : Int) - 1074 := ⟨_, rfl⟩
  have hmax : max (e + (m.log2 : Int) - 52) (-1074) = lo := by omega
  have hQ3 : Q < 4503599627370496 ∨ Q = 9007199254740992 ∨ (4503599627370496 ≤ Q ∧ Q < 9007199254740992) := by omega
  have HL : Hid (m.log2 = m.log2) := Lib.hid rfl
  have HK := Lib.hid hlo
  have hRR := hR.out
  by_cases hs : j < k + 10
  · obtain ⟨s, hse⟩ : ∃ s, s = k + 10 - j := ⟨_, rfl⟩
    have hg := g_rest m s (by omega)
    rw [rr (s := s) (by omega) (by omega), hQ] at hg
    have hqm : m / 2^s ≤ m := Nat.div_le_self _ _
    have e_q : (m : Int) / 2 ^ s = ((m / 2^s : Nat) : Int) := by simp
    have e_m := wrap_mask s (by omega)
    have e_r := mask64 m s hm (by omega) rfl
    have e_h := pow_lt64 (s := s - 1) (by omega)
    have o1 := u64_and_one (m / 2^s)
    generalize m / 2^s = q0 at *
    generalize m % 2^s = r0 at *
    generalize 2^(s-1) = h0 at *
    by_cases d1 : h0 < r0
    · rw [if_pos (.inl d1)] at hg
      cases neg
      · exact rr_b1p m _ Q R k e lo w hm0 hm HL hL1 hmax (by omega) (by omega) (by omega) (by omega) HK hQ3 (Lib.hid fun h => by rw [← hRR, q1 h]; rfl) (Lib.hid fun h => by rw [← hRR, q2 h]; rfl) (Lib.hid fun h => by rw [← hRR, q3 h.2 h.1]; rfl) (s := s) (s1 := s - 1) (by omega) (by omega) (by omega) (by omega) e_q e_m e_r e_h (by omega) d1 (by omega)
      · exact rr_b1n m _ Q R k e lo w hm0 hm HL hL1 hmax (by omega) (by omega) (by omega) (by omega) HK hQ3 (Lib.hid fun h => by rw [← hRR, q1 h]; rfl) (Lib.hid fun h => by rw [← hRR, q2 h]; rfl) (Lib.hid fun h => by rw [← hRR, q3 h.2 h.1]; rfl) (s := s) (s1 := s - 1) (by omega) (by omega) (by omega) (by omega) e_q e_m e_r e_h (by omega) d1 (by omega)
    · by_cases d2 : r0 = h0
      · have d2' : ((r0 : Int) == (h0 : Int)) = true := beq_iff_eq.2 (by omega)
        by_cases d3 : q0 % 2 = 1
        · rw [if_pos (.inr ⟨d2, d3⟩)] at hg
          rw [d3] at o1
          cases neg
          · exact rr_b2p m _ Q R k e lo w hm0 hm HL hL1 hmax (by omega) (by omega) (by omega) (by omega) HK hQ3 (Lib.hid fun h => by rw [← hRR, q1 h]; rfl) (Lib.hid fun h => by rw [← hRR, q2 h]; rfl) (Lib.hid fun h => by rw [← hRR, q3 h.2 h.1]; rfl) (s := s) (s1 := s - 1) (by omega) (by omega) (by omega) (by omega) e_q e_m e_r e_h (by omega) d1 d2' o1 (by omega)
          · exact rr_b2n m _ Q R k e lo w hm0 hm HL hL1 hmax (by omega) (by omega) (by omega) (by omega) HK hQ3 (Lib.hid fun h => by rw [← hRR, q1 h]; rfl) (Lib.hid fun h => by rw [← hRR, q2 h]; rfl) (Lib.hid fun h => by rw [← hRR, q3 h.2 h.1]; rfl) (s := s) (s1 := s - 1) (by omega) (by omega) (by omega) (by omega) e_q e_m e_r e_h (by omega) d1 d2' o1 (by omega)
        · rw [if_neg (by omega), Nat.add_zero] at hg
          have d4 : q0 % 2 = 0 := by omega
          rw [d4, ← hg] at o1
          rw [← hg] at e_q
          cases neg
          · exact rr_b3p m _ Q R k e lo w hm0 hm HL hL1 hmax (by omega) (by omega) (by omega) (by omega) HK hQ3 (Lib.hid fun h => by rw [← hRR, q1 h]; rfl) (Lib.hid fun h => by rw [← hRR, q2 h]; rfl) (Lib.hid fun h => by rw [← hRR, q3 h.2 h.1]; rfl) (s := s) (s1 := s - 1) (by omega) (by omega) (by omega) (by omega) e_q e_m e_r e_h d1 d2' o1
          · exact rr_b3n m _ Q R k e lo w hm0 hm HL hL1 hmax (by omega) (by omega) (by omega) (by omega) HK hQ3 (Lib.hid fun h => by rw [← hRR, q1 h]; rfl) (Lib.hid fun h => by rw [← hRR, q2 h]; rfl) (Lib.hid fun h => by rw [← hRR, q3 h.2 h.1]; rfl) (s := s) (s1 := s - 1) (by omega) (by omega) (by omega) (by omega) e_q e_m e_r e_h d1 d2' o1
      · have d2' : ((r0 : Int) == (h0 : Int)) = false := beq_eq_false_iff_ne.2 (by omega)
        rw [if_neg (by omega), Nat.add_zero] at hg
        rw [← hg] at e_q
        cases neg
        · exact rr_b4p m _ Q R k e lo w hm0 hm HL hL1 hmax (by omega) (by omega) (by omega) (by omega) HK hQ3 (Lib.hid fun h => by rw [← hRR, q1 h]; rfl) (Lib.hid fun h => by rw [← hRR, q2 h]; rfl) (Lib.hid fun h => by rw [← hRR, q3 h.2 h.1]; rfl) (s := s) (s1 := s - 1) (by omega) (by omega) (by omega) (by omega) e_q e_m e_r e_h d1 d2'
        · exact rr_b4n m _ Q R k e lo w hm0 hm HL hL1 hmax (by omega) (by omega) (by omega) (by omega) HK hQ3 (Lib.hid fun h => by rw [← hRR, q1 h]; rfl) (Lib.hid fun h => by rw [← hRR, q2 h]; rfl) (Lib.hid fun h => by rw [← hRR, q3 h.2 h.1]; rfl) (s := s) (s1 := s - 1) (by omega) (by omega) (by omega) (by omega) e_q e_m e_r e_h d1 d2'
  · obtain ⟨t, hte⟩ : ∃ t, t = j - (k + 10) := ⟨_, rfl⟩
    have hg := ll (s := t) (by omega)
    rw [hQ] at hg
    have e_Q : IntKind.u64.wrap ((m : Int) * 2 ^ t) = (Q : Int) := by
      have e : ((m : Int) * 2 ^ t) = ((m * 2^t : Nat) : Int) := by simp
      rw [e, hg, IntKind.wrap_u64]
      omega
    cases neg
    · exact rr_ap m _ Q R k e lo w hm0 hm HL hL1 hmax (by omega) (by omega) (by omega) (by omega) HK hQ3 (Lib.hid fun h => by rw [← hRR, q1 h]; rfl) (Lib.hid fun h => by rw [← hRR, q2 h]; rfl) (Lib.hid fun h => by rw [← hRR, q3 h.2 h.1]; rfl) (t := t) (by omega) (by omega) e_Q
    · exact rr_an m _ Q R k e lo w hm0 hm HL hL1 hmax (by omega) (by omega) (by omega) (by omega) HK hQ3 (Lib.hid fun h => by rw [← hRR, q1 h]; rfl) (Lib.hid fun h => by rw [← hRR, q2 h]; rfl) (Lib.hid fun h => by rw [← hRR, q3 h.2 h.1]; rfl) (t := t) (by omega) (by omega) e_Q
end Go.Proofs.Ytkpljnfakidjeaa
