/-
  Doubles added: the reference's Add, Sub and Sum answer what Fm.add, Fm.sub and sums say.
-/
import Derived.Test.YtkpljnfakidjeaaFaddRAddN
import Derived.Test.YtkpljnfakidjeaaFaddRAdd0
import Derived.Test.YtkpljnfakidjeaaFaddRAdd1
import Derived.Test.YtkpljnfakidjeaaFaddRAdd2
import Derived.Test.YtkpljnfakidjeaaFaddSum
namespace Go.Proofs.Ytkpljnfakidjeaa
open Go.RowKit

theorem low_cases (n d N : Nat) (hn : n < 9007199254740992) (hN : Fm.stk (n * 1024) d = N) :
    (¬ 0 < d ∧ (n : Int) * 1024 = (N : Int)) ∨ (63 < d ∧ 0 < n ∧ bits .or .u64 0 1 = (N : Int)) ∨ (63 < d ∧ ¬ 0 < n ∧ bits .or .u64 0 0 = (N : Int)) ∨
    (0 < d ∧ d ≤ 63 ∧ ∃ q0 r0 : Nat, ∃ M0 : Int, (n : Int) * 1024 / 2 ^ d = (q0 : Int) ∧ IntKind.u64.wrap (IntKind.u64.wrap (2 ^ d) - 1) = M0 ∧ bits .and .u64 ((n : Int) * 1024) M0 = (r0 : Int) ∧ 0 < r0 ∧ bits .or .u64 (q0 : Int) 1 = (N : Int)) ∨
    (0 < d ∧ d ≤ 63 ∧ ∃ q0 r0 : Nat, ∃ M0 : Int, (n : Int) * 1024 / 2 ^ d = (q0 : Int) ∧ IntKind.u64.wrap (IntKind.u64.wrap (2 ^ d) - 1) = M0 ∧ bits .and .u64 ((n : Int) * 1024) M0 = (r0 : Int) ∧ ¬ 0 < r0 ∧ bits .or .u64 (q0 : Int) 0 = (N : Int)) := by
  rcases Nat.eq_zero_or_pos d with h0 | h0
  · subst h0
    left
    rw [Fm.stk_zero] at hN
    exact ⟨by omega, by omega⟩
  · right
    rcases Nat.lt_or_ge 63 d with h1 | h1
    · have hp : 2^64 ≤ 2^d := Nat.pow_le_pow_right (by decide) h1
      have hl : n * 1024 < 2^d := by omega
      unfold Fm.stk at hN
      rw [Nat.mod_eq_of_lt hl, Nat.div_eq_of_lt hl] at hN
      rcases Nat.eq_zero_or_pos n with h2 | h2
      · right; left
        rw [if_pos (by omega)] at hN
        exact ⟨h1, by omega, by rw [← hN]; decide⟩
      · left
        rw [if_neg (by omega)] at hN
        exact ⟨h1, h2, by rw [← hN]; decide⟩
    · right; right
      have e_q : (n : Int) * 1024 / 2 ^ d = ((n * 1024 / 2^d : Nat) : Int) := by simp
      have e_m := wrap_mask d (by omega)
      have e_r := mask64 (n * 1024) d (by omega) (by omega) rfl
      have e_c : ((n * 1024 : Nat) : Int) = (n : Int) * 1024 := by omega
      rw [e_c] at e_r
      have hq : n * 1024 / 2^d < 2^64 := Nat.lt_of_le_of_lt (Nat.div_le_self _ _) (by omega)
      unfold Fm.stk at hN
      generalize n * 1024 / 2^d = q0 at *
      generalize n * 1024 % 2^d = r0 at *
      rcases Nat.eq_zero_or_pos r0 with h2 | h2
      · right
        rw [if_pos h2] at hN
        refine ⟨h0, h1, q0, r0, _, e_q, e_m, e_r, by omega, ?_⟩
        have := or64 q0 0 hq (by decide)
        rw [Nat.or_zero] at this
        rw [← hN]; exact this
      · left
        rw [if_neg (by omega)] at hN
        exact ⟨h0, h1, q0, r0, _, e_q, e_m, e_r, h2, by rw [or_one q0 hq, hN]⟩
theorem stk_le {x d c : Nat} (h : x ≤ 2 * c) : Fm.stk x d ≤ 2 * c := by
  have h1 := Fm.stk_spec x d c
  have h2 : 2 * c * 1 ≤ 2 * c * 2^d := Nat.mul_le_mul_left _ (Nat.two_pow_pos d)
  omega
theorem beq_sign {s t : Nat} (hs : s = 0 ∨ s = 1) (ht : t = 0 ∨ t = 1) : (decide (s = 1) == decide (t = 1)) = decide (s = t) := by
  rcases hs with rfl | rfl <;> rcases ht with rfl | rfl <;> rfl
theorem sign_if {s : Nat} (hs : s = 0 ∨ s = 1) : (if decide (s = 1) = true then 1 else 0) = s := by
  rcases hs with rfl | rfl <;> rfl
theorem radd_path0 (a b R : Nat) (w : World) (ha : a < 2^64) (hb : b < 2^64) (fx : Fm.sz a < Fm.inf) (hR : Fm.fin a b = R)
    {c1 c2 : Int} (C1 : Hid (c1 = (Fm.cls a : Nat))) (C2 : Hid (c2 = (Fm.cls b : Nat))) (e1 : (c1 == 4) = false) (e2 : (c2 == 4) = false) (e3 : (c1 == 3) = false) (e4 : (c2 == 3) = false) (z1 : (((Fm.sz a : Nat) : Int) == 0) = false) (lt : ¬ Fm.sz a < Fm.sz b) (hp : 0 < Fm.sz a) :
    Calls Try.prog 13 #[.int .u64 a, .int .u64 b] w fun e w' => e = .returned (.int .u64 R) ∧ w = w' := by
  have hle : Fm.sz b ≤ Fm.sz a := by omega
  have hi : Fm.inf = 2047 * 2^52 := rfl
  have q1 := Fm.pe_pos (Fm.sz a); have q2 := Fm.pe_pos (Fm.sz b); have q3 := Fm.pe_mono hle
  have q4 : Fm.pe (Fm.sz a) ≤ 2046 := by unfold Fm.pe; split <;> omega
  have lm := Fm.pm_lt (Fm.sz a); have ln := Fm.pm_lt (Fm.sz b)
  have sx := Fm.sg_lt ha; have sy := Fm.sg_lt hb
  have hb1 := beq_sign sx sy
  have hsi := sign_if sx
  have dp : 0 < Fm.dec (Fm.sz a) := by
    have h1 := (Fm.dec_lt (x := 0) (y := Fm.sz a) (by omega) (by omega)).2 hp
    omega
  have KS := Fm.K_sum hle
  have KD := Fm.K_diff (Nat.le_of_lt fx) hle
  have dl := Fm.dec_lt (x := Fm.sz b) (y := Fm.sz a) (by omega) (by omega)
  obtain ⟨N, hN⟩ : ∃ N, Fm.stk (Fm.pm (Fm.sz b) * 1024) (Fm.pe (Fm.sz a) - Fm.pe (Fm.sz b)) = N := ⟨_, rfl⟩
  have hc := low_cases _ _ N ln hN
  have hd : ((Fm.pe (Fm.sz a) : Int) - 1075) - 10 - (((Fm.pe (Fm.sz b) : Int) - 1075) - 10) = ((Fm.pe (Fm.sz a) - Fm.pe (Fm.sz b) : Nat) : Int) := by omega
  rw [hN] at KS KD
  unfold Fm.fin at hR
  by_cases hs : Fm.sg a = Fm.sg b
  · rw [if_pos hs] at hR
    have sn : (decide (Fm.sg a = 1) == decide (Fm.sg b = 1)) = true := by rw [hb1]; exact decide_eq_true hs
    have lN : N ≤ 9223372036854775808 := by rw [← hN]; exact stk_le (c := 4611686018427387904) (by omega)
    have HR : Hid ((if decide (Fm.sg a = 1) = true then 1 else 0) * 2^63 + Fm.rnd (Fm.dec (Fm.sz a) + Fm.dec (Fm.sz b)) = R) := Lib.hid (by rw [hsi]; exact hR)
    rcases hc with ⟨d0, h1⟩ | ⟨d0, h1, h2⟩ | ⟨d0, h1, h2⟩ | ⟨d0, d1, q0, r0, M0, g1, g2, g3, g4, g5⟩ | ⟨d0, d1, q0, r0, M0, g1, g2, g3, g4, g5⟩
    · exact radd_0_0_same a b R w ha hb C1 C2 e1 e2 e3 e4 (Lib.hid rfl) (Lib.hid rfl) z1 lt (Lib.hid rfl) (Lib.hid rfl) (Lib.hid rfl) (Lib.hid rfl) lm ln (by omega) (by omega) (by omega) (by omega) (Lib.hid rfl) (Lib.hid rfl) hd d0 h1 sn lN (Lib.hid KS) (Lib.hid (by omega)) (by omega) (Lib.hid (by omega)) HR
    · exact radd_0_1_same a b R w ha hb C1 C2 e1 e2 e3 e4 (Lib.hid rfl) (Lib.hid rfl) z1 lt (Lib.hid rfl) (Lib.hid rfl) (Lib.hid rfl) (Lib.hid rfl) lm ln (by omega) (by omega) (by omega) (by omega) (Lib.hid rfl) (Lib.hid rfl) hd d0 h1 h2 sn lN (Lib.hid KS) (Lib.hid (by omega)) (by omega) (Lib.hid (by omega)) HR
    · exact radd_0_2_same a b R w ha hb C1 C2 e1 e2 e3 e4 (Lib.hid rfl) (Lib.hid rfl) z1 lt (Lib.hid rfl) (Lib.hid rfl) (Lib.hid rfl) (Lib.hid rfl) lm ln (by omega) (by omega) (by omega) (by omega) (Lib.hid rfl) (Lib.hid rfl) hd d0 h1 h2 sn lN (Lib.hid KS) (Lib.hid (by omega)) (by omega) (Lib.hid (by omega)) HR
    · exact radd_0_3_same a b R w ha hb C1 C2 e1 e2 e3 e4 (Lib.hid rfl) (Lib.hid rfl) z1 lt (Lib.hid rfl) (Lib.hid rfl) (Lib.hid rfl) (Lib.hid rfl) lm ln (by omega) (by omega) (by omega) (by omega) (Lib.hid rfl) (Lib.hid rfl) hd d0 d1 g1 g2 g3 g4 g5 sn lN (Lib.hid KS) (Lib.hid (by omega)) (by omega) (Lib.hid (by omega)) HR
    · exact radd_0_4_same a b R w ha hb C1 C2 e1 e2 e3 e4 (Lib.hid rfl) (Lib.hid rfl) z1 lt (Lib.hid rfl) (Lib.hid rfl) (Lib.hid rfl) (Lib.hid rfl) lm ln (by omega) (by omega) (by omega) (by omega) (Lib.hid rfl) (Lib.hid rfl) hd d0 d1 g1 g2 g3 g4 g5 sn lN (Lib.hid KS) (Lib.hid (by omega)) (by omega) (Lib.hid (by omega)) HR
  · rw [if_neg hs] at hR
    have sn : (decide (Fm.sg a = 1) == decide (Fm.sg b = 1)) = false := by rw [hb1]; exact decide_eq_false hs
    by_cases hz : Fm.sz a = Fm.sz b
    · rw [if_pos hz] at hR
      have hN2 : N = Fm.pm (Fm.sz a) * 1024 := by rw [← hN, ← hz, Nat.sub_self, Fm.stk_zero]
      have ne : (((Fm.pm (Fm.sz a) : Nat) : Int) * 1024 == (N : Int)) = true := beq_iff_eq.2 (by omega)
      have HR : Hid ((0 : Int) = (R : Int)) := Lib.hid (by omega)
      rcases hc with ⟨d0, h1⟩ | ⟨d0, h1, h2⟩ | ⟨d0, h1, h2⟩ | ⟨d0, d1, q0, r0, M0, g1, g2, g3, g4, g5⟩ | ⟨d0, d1, q0, r0, M0, g1, g2, g3, g4, g5⟩
      · exact radd_0_0_null a b R w ha hb C1 C2 e1 e2 e3 e4 (Lib.hid rfl) (Lib.hid rfl) z1 lt (Lib.hid rfl) (Lib.hid rfl) (Lib.hid rfl) (Lib.hid rfl) lm ln (by omega) (by omega) (by omega) (by omega) (Lib.hid rfl) (Lib.hid rfl) hd d0 h1 sn ne HR
      · exact radd_0_1_null a b R w ha hb C1 C2 e1 e2 e3 e4 (Lib.hid rfl) (Lib.hid rfl) z1 lt (Lib.hid rfl) (Lib.hid rfl) (Lib.hid rfl) (Lib.hid rfl) lm ln (by omega) (by omega) (by omega) (by omega) (Lib.hid rfl) (Lib.hid rfl) hd d0 h1 h2 sn ne HR
      · exact radd_0_2_null a b R w ha hb C1 C2 e1 e2 e3 e4 (Lib.hid rfl) (Lib.hid rfl) z1 lt (Lib.hid rfl) (Lib.hid rfl) (Lib.hid rfl) (Lib.hid rfl) lm ln (by omega) (by omega) (by omega) (by omega) (Lib.hid rfl) (Lib.hid rfl) hd d0 h1 h2 sn ne HR
      · exact radd_0_3_null a b R w ha hb C1 C2 e1 e2 e3 e4 (Lib.hid rfl) (Lib.hid rfl) z1 lt (Lib.hid rfl) (Lib.hid rfl) (Lib.hid rfl) (Lib.hid rfl) lm ln (by omega) (by omega) (by omega) (by omega) (Lib.hid rfl) (Lib.hid rfl) hd d0 d1 g1 g2 g3 g4 g5 sn ne HR
      · exact radd_0_4_null a b R w ha hb C1 C2 e1 e2 e3 e4 (Lib.hid rfl) (Lib.hid rfl) z1 lt (Lib.hid rfl) (Lib.hid rfl) (Lib.hid rfl) (Lib.hid rfl) lm ln (by omega) (by omega) (by omega) (by omega) (Lib.hid rfl) (Lib.hid rfl) hd d0 d1 g1 g2 g3 g4 g5 sn ne HR
    · rw [if_neg hz, if_pos (by omega)] at hR
      have SS : 0 < Fm.dec (Fm.sz a) - Fm.dec (Fm.sz b) := by have := dl.2 (by omega); omega
      have hpos := (KD.place SS).1
      have ne : (((Fm.pm (Fm.sz a) : Nat) : Int) * 1024 == (N : Int)) = false := beq_eq_false_iff_ne.2 (by omega)
      have HR : Hid ((if decide (Fm.sg a = 1) = true then 1 else 0) * 2^63 + Fm.rnd (Fm.dec (Fm.sz a) - Fm.dec (Fm.sz b)) = R) := Lib.hid (by rw [hsi]; exact hR)
      rcases hc with ⟨d0, h1⟩ | ⟨d0, h1, h2⟩ | ⟨d0, h1, h2⟩ | ⟨d0, d1, q0, r0, M0, g1, g2, g3, g4, g5⟩ | ⟨d0, d1, q0, r0, M0, g1, g2, g3, g4, g5⟩
      · exact radd_0_0_diff a b R w ha hb C1 C2 e1 e2 e3 e4 (Lib.hid rfl) (Lib.hid rfl) z1 lt (Lib.hid rfl) (Lib.hid rfl) (Lib.hid rfl) (Lib.hid rfl) lm ln (by omega) (by omega) (by omega) (by omega) (Lib.hid rfl) (Lib.hid rfl) hd d0 h1 sn (by omega) ne (Lib.hid KD) (Lib.hid SS) (by omega) (Lib.hid (by omega)) HR
      · exact radd_0_1_diff a b R w ha hb C1 C2 e1 e2 e3 e4 (Lib.hid rfl) (Lib.hid rfl) z1 lt (Lib.hid rfl) (Lib.hid rfl) (Lib.hid rfl) (Lib.hid rfl) lm ln (by omega) (by omega) (by omega) (by omega) (Lib.hid rfl) (Lib.hid rfl) hd d0 h1 h2 sn (by omega) ne (Lib.hid KD) (Lib.hid SS) (by omega) (Lib.hid (by omega)) HR
      · exact radd_0_2_diff a b R w ha hb C1 C2 e1 e2 e3 e4 (Lib.hid rfl) (Lib.hid rfl) z1 lt (Lib.hid rfl) (Lib.hid rfl) (Lib.hid rfl) (Lib.hid rfl) lm ln (by omega) (by omega) (by omega) (by omega) (Lib.hid rfl) (Lib.hid rfl) hd d0 h1 h2 sn (by omega) ne (Lib.hid KD) (Lib.hid SS) (by omega) (Lib.hid (by omega)) HR
      · exact radd_0_3_diff a b R w ha hb C1 C2 e1 e2 e3 e4 (Lib.hid rfl) (Lib.hid rfl) z1 lt (Lib.hid rfl) (Lib.hid rfl) (Lib.hid rfl) (Lib.hid rfl) lm ln (by omega) (by omega) (by omega) (by omega) (Lib.hid rfl) (Lib.hid rfl) hd d0 d1 g1 g2 g3 g4 g5 sn (by omega) ne (Lib.hid KD) (Lib.hid SS) (by omega) (Lib.hid (by omega)) HR
      · exact radd_0_4_diff a b R w ha hb C1 C2 e1 e2 e3 e4 (Lib.hid rfl) (Lib.hid rfl) z1 lt (Lib.hid rfl) (Lib.hid rfl) (Lib.hid rfl) (Lib.hid rfl) lm ln (by omega) (by omega) (by omega) (by omega) (Lib.hid rfl) (Lib.hid rfl) hd d0 d1 g1 g2 g3 g4 g5 sn (by omega) ne (Lib.hid KD) (Lib.hid SS) (by omega) (Lib.hid (by omega)) HR
theorem radd_path1 (a b R : Nat) (w : World) (ha : a < 2^64) (hb : b < 2^64) (fx : Fm.sz b < Fm.inf) (hR : Fm.fin b a = R)
    {c1 c2 : Int} (C1 : Hid (c1 = (Fm.cls a : Nat))) (C2 : Hid (c2 = (Fm.cls b : Nat))) (e1 : (c1 == 4) = false) (e2 : (c2 == 4) = false) (e3 : (c1 == 3) = false) (e4 : (c2 == 3) = false) (z1 : (((Fm.sz a : Nat) : Int) == 0) = false) (lt : Fm.sz a < Fm.sz b) (hp : 0 < Fm.sz b) :
    Calls Try.prog 13 #[.int .u64 a, .int .u64 b] w fun e w' => e = .returned (.int .u64 R) ∧ w = w' := by
  have hle : Fm.sz a ≤ Fm.sz b := by omega
  have hi : Fm.inf = 2047 * 2^52 := rfl
  have q1 := Fm.pe_pos (Fm.sz b); have q2 := Fm.pe_pos (Fm.sz a); have q3 := Fm.pe_mono hle
  have q4 : Fm.pe (Fm.sz b) ≤ 2046 := by unfold Fm.pe; split <;> omega
  have lm := Fm.pm_lt (Fm.sz b); have ln := Fm.pm_lt (Fm.sz a)
  have sx := Fm.sg_lt hb; have sy := Fm.sg_lt ha
  have hb1 := beq_sign sx sy
  have hsi := sign_if sx
  have dp : 0 < Fm.dec (Fm.sz b) := by
    have h1 := (Fm.dec_lt (x := 0) (y := Fm.sz b) (by omega) (by omega)).2 hp
    omega
  have KS := Fm.K_sum hle
  have KD := Fm.K_diff (Nat.le_of_lt fx) hle
  have dl := Fm.dec_lt (x := Fm.sz a) (y := Fm.sz b) (by omega) (by omega)
  obtain ⟨N, hN⟩ : ∃ N, Fm.stk (Fm.pm (Fm.sz a) * 1024) (Fm.pe (Fm.sz b) - Fm.pe (Fm.sz a)) = N := ⟨_, rfl⟩
  have hc := low_cases _ _ N ln hN
  have hd : ((Fm.pe (Fm.sz b) : Int) - 1075) - 10 - (((Fm.pe (Fm.sz a) : Int) - 1075) - 10) = ((Fm.pe (Fm.sz b) - Fm.pe (Fm.sz a) : Nat) : Int) := by omega
  rw [hN] at KS KD
  unfold Fm.fin at hR
  by_cases hs : Fm.sg b = Fm.sg a
  · rw [if_pos hs] at hR
    have sn : (decide (Fm.sg b = 1) == decide (Fm.sg a = 1)) = true := by rw [hb1]; exact decide_eq_true hs
    have lN : N ≤ 9223372036854775808 := by rw [← hN]; exact stk_le (c := 4611686018427387904) (by omega)
    have HR : Hid ((if decide (Fm.sg b = 1) = true then 1 else 0) * 2^63 + Fm.rnd (Fm.dec (Fm.sz b) + Fm.dec (Fm.sz a)) = R) := Lib.hid (by rw [hsi]; exact hR)
    rcases hc with ⟨d0, h1⟩ | ⟨d0, h1, h2⟩ | ⟨d0, h1, h2⟩ | ⟨d0, d1, q0, r0, M0, g1, g2, g3, g4, g5⟩ | ⟨d0, d1, q0, r0, M0, g1, g2, g3, g4, g5⟩
    · exact radd_1_0_same a b R w ha hb C1 C2 e1 e2 e3 e4 (Lib.hid rfl) (Lib.hid rfl) z1 lt (Lib.hid rfl) (Lib.hid rfl) (Lib.hid rfl) (Lib.hid rfl) lm ln (by omega) (by omega) (by omega) (by omega) (Lib.hid rfl) (Lib.hid rfl) hd d0 h1 sn lN (Lib.hid KS) (Lib.hid (by omega)) (by omega) (Lib.hid (by omega)) HR
    · exact radd_1_1_same a b R w ha hb C1 C2 e1 e2 e3 e4 (Lib.hid rfl) (Lib.hid rfl) z1 lt (Lib.hid rfl) (Lib.hid rfl) (Lib.hid rfl) (Lib.hid rfl) lm ln (by omega) (by omega) (by omega) (by omega) (Lib.hid rfl) (Lib.hid rfl) hd d0 h1 h2 sn lN (Lib.hid KS) (Lib.hid (by omega)) (by omega) (Lib.hid (by omega)) HR
    · exact radd_1_2_same a b R w ha hb C1 C2 e1 e2 e3 e4 (Lib.hid rfl) (Lib.hid rfl) z1 lt (Lib.hid rfl) (Lib.hid rfl) (Lib.hid rfl) (Lib.hid rfl) lm ln (by omega) (by omega) (by omega) (by omega) (Lib.hid rfl) (Lib.hid rfl) hd d0 h1 h2 sn lN (Lib.hid KS) (Lib.hid (by omega)) (by omega) (Lib.hid (by omega)) HR
    · exact radd_1_3_same a b R w ha hb C1 C2 e1 e2 e3 e4 (Lib.hid rfl) (Lib.hid rfl) z1 lt (Lib.hid rfl) (Lib.hid rfl) (Lib.hid rfl) (Lib.hid rfl) lm ln (by omega) (by omega) (by omega) (by omega) (Lib.hid rfl) (Lib.hid rfl) hd d0 d1 g1 g2 g3 g4 g5 sn lN (Lib.hid KS) (Lib.hid (by omega)) (by omega) (Lib.hid (by omega)) HR
    · exact radd_1_4_same a b R w ha hb C1 C2 e1 e2 e3 e4 (Lib.hid rfl) (Lib.hid rfl) z1 lt (Lib.hid rfl) (Lib.hid rfl) (Lib.hid rfl) (Lib.hid rfl) lm ln (by omega) (by omega) (by omega) (by omega) (Lib.hid rfl) (Lib.hid rfl) hd d0 d1 g1 g2 g3 g4 g5 sn lN (Lib.hid KS) (Lib.hid (by omega)) (by omega) (Lib.hid (by omega)) HR
  · rw [if_neg hs] at hR
    have sn : (decide (Fm.sg b = 1) == decide (Fm.sg a = 1)) = false := by rw [hb1]; exact decide_eq_false hs
    by_cases hz : Fm.sz b = Fm.sz a
    · rw [if_pos hz] at hR
      have hN2 : N = Fm.pm (Fm.sz b) * 1024 := by rw [← hN, ← hz, Nat.sub_self, Fm.stk_zero]
      have ne : (((Fm.pm (Fm.sz b) : Nat) : Int) * 1024 == (N : Int)) = true := beq_iff_eq.2 (by omega)
      have HR : Hid ((0 : Int) = (R : Int)) := Lib.hid (by omega)
      rcases hc with ⟨d0, h1⟩ | ⟨d0, h1, h2⟩ | ⟨d0, h1, h2⟩ | ⟨d0, d1, q0, r0, M0, g1, g2, g3, g4, g5⟩ | ⟨d0, d1, q0, r0, M0, g1, g2, g3, g4, g5⟩
      · exact radd_1_0_null a b R w ha hb C1 C2 e1 e2 e3 e4 (Lib.hid rfl) (Lib.hid rfl) z1 lt (Lib.hid rfl) (Lib.hid rfl) (Lib.hid rfl) (Lib.hid rfl) lm ln (by omega) (by omega) (by omega) (by omega) (Lib.hid rfl) (Lib.hid rfl) hd d0 h1 sn ne HR
      · exact radd_1_1_null a b R w ha hb C1 C2 e1 e2 e3 e4 (Lib.hid rfl) (Lib.hid rfl) z1 lt (Lib.hid rfl) (Lib.hid rfl) (Lib.hid rfl) (Lib.hid rfl) lm ln (by omega) (by omega) (by omega) (by omega) (Lib.hid rfl) (Lib.hid rfl) hd d0 h1 h2 sn ne HR
      · exact radd_1_2_null a b R w ha hb C1 C2 e1 e2 e3 e4 (Lib.hid rfl) (Lib.hid rfl) z1 lt (Lib.hid rfl) (Lib.hid rfl) (Lib.hid rfl) (Lib.hid rfl) lm ln (by omega) (by omega) (by omega) (by omega) (Lib.hid rfl) (Lib.hid rfl) hd d0 h1 h2 sn ne HR
      · exact radd_1_3_null a b R w ha hb C1 C2 e1 e2 e3 e4 (Lib.hid rfl) (Lib.hid rfl) z1 lt (Lib.hid rfl) (Lib.hid rfl) (Lib.hid rfl) (Lib.hid rfl) lm ln (by omega) (by omega) (by omega) (by omega) (Lib.hid rfl) (Lib.hid rfl) hd d0 d1 g1 g2 g3 g4 g5 sn ne HR
      · exact radd_1_4_null a b R w ha hb C1 C2 e1 e2 e3 e4 (Lib.hid rfl) (Lib.hid rfl) z1 lt (Lib.hid rfl) (Lib.hid rfl) (Lib.hid rfl) (Lib.hid rfl) lm ln (by omega) (by omega) (by omega) (by omega) (Lib.hid rfl) (Lib.hid rfl) hd d0 d1 g1 g2 g3 g4 g5 sn ne HR
    · rw [if_neg hz, if_pos (by omega)] at hR
      have SS : 0 < Fm.dec (Fm.sz b) - Fm.dec (Fm.sz a) := by have := dl.2 (by omega); omega
      have hpos := (KD.place SS).1
      have ne : (((Fm.pm (Fm.sz b) : Nat) : Int) * 1024 == (N : Int)) = false := beq_eq_false_iff_ne.2 (by omega)
      have HR : Hid ((if decide (Fm.sg b = 1) = true then 1 else 0) * 2^63 + Fm.rnd (Fm.dec (Fm.sz b) - Fm.dec (Fm.sz a)) = R) := Lib.hid (by rw [hsi]; exact hR)
      rcases hc with ⟨d0, h1⟩ | ⟨d0, h1, h2⟩ | ⟨d0, h1, h2⟩ | ⟨d0, d1, q0, r0, M0, g1, g2, g3, g4, g5⟩ | ⟨d0, d1, q0, r0, M0, g1, g2, g3, g4, g5⟩
      · exact radd_1_0_diff a b R w ha hb C1 C2 e1 e2 e3 e4 (Lib.hid rfl) (Lib.hid rfl) z1 lt (Lib.hid rfl) (Lib.hid rfl) (Lib.hid rfl) (Lib.hid rfl) lm ln (by omega) (by omega) (by omega) (by omega) (Lib.hid rfl) (Lib.hid rfl) hd d0 h1 sn (by omega) ne (Lib.hid KD) (Lib.hid SS) (by omega) (Lib.hid (by omega)) HR
      · exact radd_1_1_diff a b R w ha hb C1 C2 e1 e2 e3 e4 (Lib.hid rfl) (Lib.hid rfl) z1 lt (Lib.hid rfl) (Lib.hid rfl) (Lib.hid rfl) (Lib.hid rfl) lm ln (by omega) (by omega) (by omega) (by omega) (Lib.hid rfl) (Lib.hid rfl) hd d0 h1 h2 sn (by omega) ne (Lib.hid KD) (Lib.hid SS) (by omega) (Lib.hid (by omega)) HR
      · exact radd_1_2_diff a b R w ha hb C1 C2 e1 e2 e3 e4 (Lib.hid rfl) (Lib.hid rfl) z1 lt (Lib.hid rfl) (Lib.hid rfl) (Lib.hid rfl) (Lib.hid rfl) lm ln (by omega) (by omega) (by omega) (by omega) (Lib.hid rfl) (Lib.hid rfl) hd d0 h1 h2 sn (by omega) ne (Lib.hid KD) (Lib.hid SS) (by omega) (Lib.hid (by omega)) HR
      · exact radd_1_3_diff a b R w ha hb C1 C2 e1 e2 e3 e4 (Lib.hid rfl) (Lib.hid rfl) z1 lt (Lib.hid rfl) (Lib.hid rfl) (Lib.hid rfl) (Lib.hid rfl) lm ln (by omega) (by omega) (by omega) (by omega) (Lib.hid rfl) (Lib.hid rfl) hd d0 d1 g1 g2 g3 g4 g5 sn (by omega) ne (Lib.hid KD) (Lib.hid SS) (by omega) (Lib.hid (by omega)) HR
      · exact radd_1_4_diff a b R w ha hb C1 C2 e1 e2 e3 e4 (Lib.hid rfl) (Lib.hid rfl) z1 lt (Lib.hid rfl) (Lib.hid rfl) (Lib.hid rfl) (Lib.hid rfl) lm ln (by omega) (by omega) (by omega) (by omega) (Lib.hid rfl) (Lib.hid rfl) hd d0 d1 g1 g2 g3 g4 g5 sn (by omega) ne (Lib.hid KD) (Lib.hid SS) (by omega) (Lib.hid (by omega)) HR
theorem radd_path2 (a b R : Nat) (w : World) (ha : a < 2^64) (hb : b < 2^64) (fx : Fm.sz b < Fm.inf) (hR : Fm.fin b a = R)
    {c1 c2 : Int} (C1 : Hid (c1 = (Fm.cls a : Nat))) (C2 : Hid (c2 = (Fm.cls b : Nat))) (e1 : (c1 == 4) = false) (e2 : (c2 == 4) = false) (e3 : (c1 == 3) = false) (e4 : (c2 == 3) = false) (z1 : (((Fm.sz a : Nat) : Int) == 0) = true) (z2 : (((Fm.sz b : Nat) : Int) == 0) = false) (lt : Fm.sz a < Fm.sz b) (hp : 0 < Fm.sz b) :
    Calls Try.prog 13 #[.int .u64 a, .int .u64 b] w fun e w' => e = .returned (.int .u64 R) ∧ w = w' := by
  have hle : Fm.sz a ≤ Fm.sz b := by omega
  have hi : Fm.inf = 2047 * 2^52 := rfl
  have q1 := Fm.pe_pos (Fm.sz b); have q2 := Fm.pe_pos (Fm.sz a); have q3 := Fm.pe_mono hle
  have q4 : Fm.pe (Fm.sz b) ≤ 2046 := by unfold Fm.pe; split <;> omega
  have lm := Fm.pm_lt (Fm.sz b); have ln := Fm.pm_lt (Fm.sz a)
  have sx := Fm.sg_lt hb; have sy := Fm.sg_lt ha
  have hb1 := beq_sign sx sy
  have hsi := sign_if sx
  have dp : 0 < Fm.dec (Fm.sz b) := by
    have h1 := (Fm.dec_lt (x := 0) (y := Fm.sz b) (by omega) (by omega)).2 hp
    omega
  have KS := Fm.K_sum hle
  have KD := Fm.K_diff (Nat.le_of_lt fx) hle
  have dl := Fm.dec_lt (x := Fm.sz a) (y := Fm.sz b) (by omega) (by omega)
  obtain ⟨N, hN⟩ : ∃ N, Fm.stk (Fm.pm (Fm.sz a) * 1024) (Fm.pe (Fm.sz b) - Fm.pe (Fm.sz a)) = N := ⟨_, rfl⟩
  have hc := low_cases _ _ N ln hN
  have hd : ((Fm.pe (Fm.sz b) : Int) - 1075) - 10 - (((Fm.pe (Fm.sz a) : Int) - 1075) - 10) = ((Fm.pe (Fm.sz b) - Fm.pe (Fm.sz a) : Nat) : Int) := by omega
  rw [hN] at KS KD
  unfold Fm.fin at hR
  by_cases hs : Fm.sg b = Fm.sg a
  · rw [if_pos hs] at hR
    have sn : (decide (Fm.sg b = 1) == decide (Fm.sg a = 1)) = true := by rw [hb1]; exact decide_eq_true hs
    have lN : N ≤ 9223372036854775808 := by rw [← hN]; exact stk_le (c := 4611686018427387904) (by omega)
    have HR : Hid ((if decide (Fm.sg b = 1) = true then 1 else 0) * 2^63 + Fm.rnd (Fm.dec (Fm.sz b) + Fm.dec (Fm.sz a)) = R) := Lib.hid (by rw [hsi]; exact hR)
    rcases hc with ⟨d0, h1⟩ | ⟨d0, h1, h2⟩ | ⟨d0, h1, h2⟩ | ⟨d0, d1, q0, r0, M0, g1, g2, g3, g4, g5⟩ | ⟨d0, d1, q0, r0, M0, g1, g2, g3, g4, g5⟩
    · exact radd_2_0_same a b R w ha hb C1 C2 e1 e2 e3 e4 (Lib.hid rfl) (Lib.hid rfl) z1 z2 lt (Lib.hid rfl) (Lib.hid rfl) (Lib.hid rfl) (Lib.hid rfl) lm ln (by omega) (by omega) (by omega) (by omega) (Lib.hid rfl) (Lib.hid rfl) hd d0 h1 sn lN (Lib.hid KS) (Lib.hid (by omega)) (by omega) (Lib.hid (by omega)) HR
    · exact radd_2_1_same a b R w ha hb C1 C2 e1 e2 e3 e4 (Lib.hid rfl) (Lib.hid rfl) z1 z2 lt (Lib.hid rfl) (Lib.hid rfl) (Lib.hid rfl) (Lib.hid rfl) lm ln (by omega) (by omega) (by omega) (by omega) (Lib.hid rfl) (Lib.hid rfl) hd d0 h1 h2 sn lN (Lib.hid KS) (Lib.hid (by omega)) (by omega) (Lib.hid (by omega)) HR
    · exact radd_2_2_same a b R w ha hb C1 C2 e1 e2 e3 e4 (Lib.hid rfl) (Lib.hid rfl) z1 z2 lt (Lib.hid rfl) (Lib.hid rfl) (Lib.hid rfl) (Lib.hid rfl) lm ln (by omega) (by omega) (by omega) (by omega) (Lib.hid rfl) (Lib.hid rfl) hd d0 h1 h2 sn lN (Lib.hid KS) (Lib.hid (by omega)) (by omega) (Lib.hid (by omega)) HR
    · exact radd_2_3_same a b R w ha hb C1 C2 e1 e2 e3 e4 (Lib.hid rfl) (Lib.hid rfl) z1 z2 lt (Lib.hid rfl) (Lib.hid rfl) (Lib.hid rfl) (Lib.hid rfl) lm ln (by omega) (by omega) (by omega) (by omega) (Lib.hid rfl) (Lib.hid rfl) hd d0 d1 g1 g2 g3 g4 g5 sn lN (Lib.hid KS) (Lib.hid (by omega)) (by omega) (Lib.hid (by omega)) HR
    · exact radd_2_4_same a b R w ha hb C1 C2 e1 e2 e3 e4 (Lib.hid rfl) (Lib.hid rfl) z1 z2 lt (Lib.hid rfl) (Lib.hid rfl) (Lib.hid rfl) (Lib.hid rfl) lm ln (by omega) (by omega) (by omega) (by omega) (Lib.hid rfl) (Lib.hid rfl) hd d0 d1 g1 g2 g3 g4 g5 sn lN (Lib.hid KS) (Lib.hid (by omega)) (by omega) (Lib.hid (by omega)) HR
  · rw [if_neg hs] at hR
    have sn : (decide (Fm.sg b = 1) == decide (Fm.sg a = 1)) = false := by rw [hb1]; exact decide_eq_false hs
    by_cases hz : Fm.sz b = Fm.sz a
    · rw [if_pos hz] at hR
      have hN2 : N = Fm.pm (Fm.sz b) * 1024 := by rw [← hN, ← hz, Nat.sub_self, Fm.stk_zero]
      have ne : (((Fm.pm (Fm.sz b) : Nat) : Int) * 1024 == (N : Int)) = true := beq_iff_eq.2 (by omega)
      have HR : Hid ((0 : Int) = (R : Int)) := Lib.hid (by omega)
      rcases hc with ⟨d0, h1⟩ | ⟨d0, h1, h2⟩ | ⟨d0, h1, h2⟩ | ⟨d0, d1, q0, r0, M0, g1, g2, g3, g4, g5⟩ | ⟨d0, d1, q0, r0, M0, g1, g2, g3, g4, g5⟩
      · exact radd_2_0_null a b R w ha hb C1 C2 e1 e2 e3 e4 (Lib.hid rfl) (Lib.hid rfl) z1 z2 lt (Lib.hid rfl) (Lib.hid rfl) (Lib.hid rfl) (Lib.hid rfl) lm ln (by omega) (by omega) (by omega) (by omega) (Lib.hid rfl) (Lib.hid rfl) hd d0 h1 sn ne HR
      · exact radd_2_1_null a b R w ha hb C1 C2 e1 e2 e3 e4 (Lib.hid rfl) (Lib.hid rfl) z1 z2 lt (Lib.hid rfl) (Lib.hid rfl) (Lib.hid rfl) (Lib.hid rfl) lm ln (by omega) (by omega) (by omega) (by omega) (Lib.hid rfl) (Lib.hid rfl) hd d0 h1 h2 sn ne HR
      · exact radd_2_2_null a b R w ha hb C1 C2 e1 e2 e3 e4 (Lib.hid rfl) (Lib.hid rfl) z1 z2 lt (Lib.hid rfl) (Lib.hid rfl) (Lib.hid rfl) (Lib.hid rfl) lm ln (by omega) (by omega) (by omega) (by omega) (Lib.hid rfl) (Lib.hid rfl) hd d0 h1 h2 sn ne HR
      · exact radd_2_3_null a b R w ha hb C1 C2 e1 e2 e3 e4 (Lib.hid rfl) (Lib.hid rfl) z1 z2 lt (Lib.hid rfl) (Lib.hid rfl) (Lib.hid rfl) (Lib.hid rfl) lm ln (by omega) (by omega) (by omega) (by omega) (Lib.hid rfl) (Lib.hid rfl) hd d0 d1 g1 g2 g3 g4 g5 sn ne HR
      · exact radd_2_4_null a b R w ha hb C1 C2 e1 e2 e3 e4 (Lib.hid rfl) (Lib.hid rfl) z1 z2 lt (Lib.hid rfl) (Lib.hid rfl) (Lib.hid rfl) (Lib.hid rfl) lm ln (by omega) (by omega) (by omega) (by omega) (Lib.hid rfl) (Lib.hid rfl) hd d0 d1 g1 g2 g3 g4 g5 sn ne HR
    · rw [if_neg hz, if_pos (by omega)] at hR
      have SS : 0 < Fm.dec (Fm.sz b) - Fm.dec (Fm.sz a) := by have := dl.2 (by omega); omega
      have hpos := (KD.place SS).1
      have ne : (((Fm.pm (Fm.sz b) : Nat) : Int) * 1024 == (N : Int)) = false := beq_eq_false_iff_ne.2 (by omega)
      have HR : Hid ((if decide (Fm.sg b = 1) = true then 1 else 0) * 2^63 + Fm.rnd (Fm.dec (Fm.sz b) - Fm.dec (Fm.sz a)) = R) := Lib.hid (by rw [hsi]; exact hR)
      rcases hc with ⟨d0, h1⟩ | ⟨d0, h1, h2⟩ | ⟨d0, h1, h2⟩ | ⟨d0, d1, q0, r0, M0, g1, g2, g3, g4, g5⟩ | ⟨d0, d1, q0, r0, M0, g1, g2, g3, g4, g5⟩
      · exact radd_2_0_diff a b R w ha hb C1 C2 e1 e2 e3 e4 (Lib.hid rfl) (Lib.hid rfl) z1 z2 lt (Lib.hid rfl) (Lib.hid rfl) (Lib.hid rfl) (Lib.hid rfl) lm ln (by omega) (by omega) (by omega) (by omega) (Lib.hid rfl) (Lib.hid rfl) hd d0 h1 sn (by omega) ne (Lib.hid KD) (Lib.hid SS) (by omega) (Lib.hid (by omega)) HR
      · exact radd_2_1_diff a b R w ha hb C1 C2 e1 e2 e3 e4 (Lib.hid rfl) (Lib.hid rfl) z1 z2 lt (Lib.hid rfl) (Lib.hid rfl) (Lib.hid rfl) (Lib.hid rfl) lm ln (by omega) (by omega) (by omega) (by omega) (Lib.hid rfl) (Lib.hid rfl) hd d0 h1 h2 sn (by omega) ne (Lib.hid KD) (Lib.hid SS) (by omega) (Lib.hid (by omega)) HR
      · exact radd_2_2_diff a b R w ha hb C1 C2 e1 e2 e3 e4 (Lib.hid rfl) (Lib.hid rfl) z1 z2 lt (Lib.hid rfl) (Lib.hid rfl) (Lib.hid rfl) (Lib.hid rfl) lm ln (by omega) (by omega) (by omega) (by omega) (Lib.hid rfl) (Lib.hid rfl) hd d0 h1 h2 sn (by omega) ne (Lib.hid KD) (Lib.hid SS) (by omega) (Lib.hid (by omega)) HR
      · exact radd_2_3_diff a b R w ha hb C1 C2 e1 e2 e3 e4 (Lib.hid rfl) (Lib.hid rfl) z1 z2 lt (Lib.hid rfl) (Lib.hid rfl) (Lib.hid rfl) (Lib.hid rfl) lm ln (by omega) (by omega) (by omega) (by omega) (Lib.hid rfl) (Lib.hid rfl) hd d0 d1 g1 g2 g3 g4 g5 sn (by omega) ne (Lib.hid KD) (Lib.hid SS) (by omega) (Lib.hid (by omega)) HR
      · exact radd_2_4_diff a b R w ha hb C1 C2 e1 e2 e3 e4 (Lib.hid rfl) (Lib.hid rfl) z1 z2 lt (Lib.hid rfl) (Lib.hid rfl) (Lib.hid rfl) (Lib.hid rfl) lm ln (by omega) (by omega) (by omega) (by omega) (Lib.hid rfl) (Lib.hid rfl) hd d0 d1 g1 g2 g3 g4 g5 sn (by omega) ne (Lib.hid KD) (Lib.hid SS) (by omega) (Lib.hid (by omega)) HR
theorem radd_at (a b R : Nat) (w : World) (ha : a < 2^64) (hb : b < 2^64) (hR : Hid (Fm.add a b = R)) :
    Calls Try.prog 13 #[.int .u64 a, .int .u64 b] w fun e w' => e = .returned (.int .u64 R) ∧ w = w' := by
  have h1 := Fm.cls_cases a
  have h2 := Fm.cls_cases b
  have HA := hR.out
  unfold Fm.add at HA
  have C1 : Hid (((Fm.cls a : Nat) : Int) = (Fm.cls a : Nat)) := Lib.hid rfl
  have C2 : Hid (((Fm.cls b : Nat) : Int) = (Fm.cls b : Nat)) := Lib.hid rfl
  have yes : ∀ {x k : Nat}, x = k → (((x : Nat) : Int) == ((k : Nat) : Int)) = true := fun h => by rw [h]; simp
  have no : ∀ {x k : Nat}, x ≠ k → (((x : Nat) : Int) == ((k : Nat) : Int)) = false := fun h => by simp; omega
  by_cases n1 : Fm.cls a = 4
  · rw [if_pos n1] at HA
    exact radd_nan1 a b R w ha hb C1 C2 (yes n1) (Lib.hid HA)
  rw [if_neg n1] at HA
  by_cases n2 : Fm.cls b = 4
  · rw [if_pos n2] at HA
    exact radd_nan2 a b R w ha hb C1 C2 (no n1) (yes n2) (Lib.hid HA)
  rw [if_neg n2] at HA
  by_cases n3 : Fm.cls a = 3
  · by_cases n4 : Fm.cls b = 3
    · by_cases n5 : a = b
      · rw [if_neg (fun h => h.2.2 n5), if_pos n3] at HA
        exact radd_inf11 a b R w ha hb C1 C2 (no n1) (no n2) (yes n3) (yes n4) (by subst n5; simp) (Lib.hid (by rw [HA]))
      · rw [if_pos ⟨n3, n4, n5⟩] at HA
        exact radd_infs a b R w ha hb C1 C2 (no n1) (no n2) (yes n3) (yes n4) (by simp; omega) (Lib.hid (by rw [← HA]; rfl))
    · rw [if_neg (fun h => n4 h.2.1), if_pos n3] at HA
      exact radd_inf1 a b R w ha hb C1 C2 (no n1) (no n2) (yes n3) (no n4) (Lib.hid (by rw [HA]))
  by_cases n4 : Fm.cls b = 3
  · rw [if_neg (fun h => n3 h.1), if_neg n3, if_pos n4] at HA
    exact radd_inf2 a b R w ha hb C1 C2 (no n1) (no n2) (no n3) (yes n4) (Lib.hid (by rw [HA]))
  rw [if_neg (fun h => n3 h.1), if_neg n3, if_neg n4] at HA
  have fa := Fm.cls_fin.1 (show Fm.cls a ≤ 2 by omega)
  have fb := Fm.cls_fin.1 (show Fm.cls b ≤ 2 by omega)
  by_cases hl : Fm.sz a < Fm.sz b
  · rw [Fm.fin_comm] at HA
    have hz2 : Fm.sz b ≠ 0 := fun h => by rw [h] at hl; exact Nat.not_lt_zero _ hl
    by_cases hz : Fm.sz a = 0
    · exact radd_path2 a b R w ha hb fb HA C1 C2 (no n1) (no n2) (no n3) (no n4) (yes hz) (no hz2) hl (Nat.lt_of_le_of_lt (Nat.zero_le _) hl)
    · exact radd_path1 a b R w ha hb fb HA C1 C2 (no n1) (no n2) (no n3) (no n4) (no hz) hl (Nat.lt_of_le_of_lt (Nat.zero_le _) hl)
  · by_cases hz : Fm.sz a = 0
    · have hz2 : Fm.sz b = 0 := by omega
      have hv : bits .and .u64 (a : Int) (b : Int) = (R : Int) := by
        have ea := Fm.parts_eq a
        have eb := Fm.parts_eq b
        have q := Fm.rnd_zero
        have q0 := Fm.dec_zero
        unfold Fm.fin at HA
        rw [hz, hz2, q0, Nat.add_zero, Nat.sub_zero, q] at HA
        rw [hz] at ea
        rw [hz2] at eb
        rcases Fm.sg_lt ha with sa | sa <;> rcases Fm.sg_lt hb with sb | sb
        · rw [sa, sb, if_pos rfl] at HA
          rw [sa] at ea; rw [sb] at eb; subst ea; subst eb; rw [← HA]; decide
        · rw [sa, sb, if_neg (by decide), if_pos rfl] at HA
          rw [sa] at ea; rw [sb] at eb; subst ea; subst eb; rw [← HA]; decide
        · rw [sa, sb, if_neg (by decide), if_pos rfl] at HA
          rw [sa] at ea; rw [sb] at eb; subst ea; subst eb; rw [← HA]; decide
        · rw [sa, sb, if_pos rfl] at HA
          rw [sa] at ea; rw [sb] at eb; subst ea; subst eb; rw [← HA]; decide
      exact radd_zero a b R w ha hb C1 C2 (no n1) (no n2) (no n3) (no n4) (Lib.hid rfl) (Lib.hid rfl) (yes hz) (yes hz2) (Lib.hid hv)
    · exact radd_path0 a b R w ha hb fa HA C1 C2 (no n1) (no n2) (no n3) (no n4) (no hz) hl (Nat.pos_of_ne_zero hz)
set_option maxRecDepth 1000000 in
set_option maxHeartbeats 1000000 in
theorem rsub_at (a b R : Nat) (w : World) (ha : a < 2^64) (hb : b < 2^64) (hR : Hid (Fm.sub a b = R)) :
    Calls Try.prog 15 #[.int .u64 a, .int .u64 b] w fun e w' => e = .returned (.int .u64 R) ∧ w = w' := by
  obtain ⟨c2, C2⟩ : ∃ c2 : Int, Hid (c2 = (Fm.cls b : Nat)) := ⟨_, Lib.hid rfl⟩
  have k2 := C2.out
  have HA := hR.out
  unfold Fm.sub at HA
  by_cases n2 : Fm.cls b = 4
  · have e2 : (c2 == 4) = true := by simp; omega
    rw [if_pos n2] at HA
    have HA := Lib.hid HA
    clear n2 k2
    go_enter Try.func15, Try.ntmps15
    go_wp2_with fail
    refine (rclass_is b _ hb C2).mono ?_; rintro e w' ⟨rfl, rfl⟩
    go_wp2_with fail
    refine (radd_at a b R _ ha hb HA).mono ?_; rintro e w' ⟨rfl, rfl⟩
    go_wp2_with fail
    go_ret
    exact ⟨rfl, rfl⟩
  · have e2 : (c2 == 4) = false := by simp; omega
    rw [if_neg n2] at HA
    have HA := Lib.hid HA
    have hl : Fm.ngt b < 2^64 := Fm.ngt_lt
    obtain ⟨m, HN⟩ : ∃ m, Hid (Fm.ngt b = m) := ⟨_, Lib.hid rfl⟩
    rw [HN.out] at HA hl
    clear n2 k2
    go_enter Try.func15, Try.ntmps15
    go_wp2_with fail
    refine (rclass_is b _ hb C2).mono ?_; rintro e w' ⟨rfl, rfl⟩
    go_wp2_with fail
    refine (rturn_at b m _ hb HN).mono ?_; rintro e w' ⟨rfl, rfl⟩
    go_wp2_with fail
    refine (radd_at a m R _ ha hl HA).mono ?_; rintro e w' ⟨rfl, rfl⟩
    go_wp2_with fail
    go_ret
    exact ⟨rfl, rfl⟩
set_option maxRecDepth 1000000 in
set_option maxHeartbeats 1000000 in
theorem rsum_at (ao : Option Addr) (cap : Nat) (l : List Nat) (R : Nat) (w : World) (hN : Nats .u64 w ao l) (hlt : Hid (∀ n ∈ l, n < 2^64)) (hl : l.length ≤ 1000000000) (hR : Hid (sums l = R)) :
    Calls Try.prog 19 #[.slice ao l.length cap] w fun e w' => e = .returned (.int .u64 (R : Nat)) ∧ w = w' := by
  go_enter Try.func19, Try.ntmps19
  go_wp2
  go_loopg [3, 4] l.length (fun k s i wr => ∃ j t : Nat, j + k = l.length ∧ i = .int .i64 j ∧ s = .int .u64 t ∧ Hid (sums (l.take j) = t) ∧ wr = w)
  case atStart => exact ⟨0, 0, by omega, rfl, rfl, Lib.hid rfl, rfl⟩
  case round =>
    obtain ⟨j, t, hj, rfl, rfl, HT, rfl⟩ := hrel
    have ht : t < 2^64 := by rw [← HT.out]; exact sums_take hlt.out j
    by_cases hlt' : j < l.length
    · obtain ⟨b, off, n, HN, rfl, hbl, hc⟩ := hN.at hlt'
      have hn : n < 2^64 := by rw [HN.out]; exact hlt.out _ (List.getElem_mem _)
      obtain ⟨q, HQ⟩ : ∃ q, Hid (Fm.add t n = q) := ⟨_, Lib.hid rfl⟩
      have hi1 : (j : Int) < (l.length : Int) := by omega
      have hi0 : (0 : Int) ≤ (j : Int) := by omega
      have HJ := Lib.hid hj
      clear hj
      go_wp2_with fail
      refine (radd_at t n q _ ht hn HQ).mono ?_; rintro e w' ⟨rfl, rfl⟩
      go_wp2_with fail
      have hj := HJ.out
      go_roundg (gk - 1)
      case measure => omega
      case rel => exact ⟨j + 1, q, by omega, by simp, rfl, Lib.hid (by rw [take_step hlt', sums_snoc, HT.out, ← HN.out, HQ.out]), rfl⟩
    · have hR' : Hid (t = R) := Lib.hid (by rw [← HT.out, ← hR.out, List.take_of_length_le (by omega)])
      go_wp2
      go_ret
      exact ⟨ret_int (by rw [hR'.out]), rfl⟩
end Go.Proofs.Ytkpljnfakidjeaa
