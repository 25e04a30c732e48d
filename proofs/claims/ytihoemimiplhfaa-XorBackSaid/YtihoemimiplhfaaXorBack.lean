/-
  hyglaw21.XorBack: for any numbers the law returns true.
-/
import Derived.Test.YtihoemimiplhfaaXorLaw
namespace Go.Proofs.Ytihoemimiplhfaa
open Go.RowKit

theorem nums_to (ao bo : Option Addr) (cap bcap : Nat) (l : List Nat) (n m : Nat) (w : World) (hn : n = l.length) (hm : m = l.length) (ha : Nats .u64 w ao l) (hb : Nats .u64 w bo l) (hl : l.length ≤ 1000000000) :
    Calls Try.prog 11 #[.slice ao n cap, .slice bo m bcap] w fun e w' => e = .returned (.bool true) ∧ Below w.heap.size w w' := by
  subst hn; subst hm; exact nums_same ao bo cap bcap l w ha hb hl
theorem xget_to (s : ByteArray) (c : Nat) (C : Int) (w : World) (hC : C = (c : Int)) (hs : s.size ≤ 1000000000) (hc : c ≤ 20000) (hr : Hid (∀ ps, ¬ GoodX s c ps)) :
    Calls Try.prog 10 #[.string s, .int .i64 C] w fun e w' => Below w.heap.size w w' ∧ ∃ x, e = .returned (.tuple #[.slice none 0 0, .iface 88 x]) := by
  subst hC; exact xget_no s c w hs hc hr
set_option maxRecDepth 1000000 in
set_option maxHeartbeats 4000000 in
theorem xback_early (ao : Option Addr) (cap n : Nat) (k : Int) (x : Int) (w : World) (h : Hid (2000 < n ∨ (n ≤ 2000 ∧ k < 1))) (hm : n ≤ 9223372036854775807) :
    Calls Try.prog 3 #[.slice ao n cap, .int .i64 k, .int .u8 x] w fun e w' => e = .returned (.bool true) ∧ Below w.heap.size w w' := by
  rcases h.out with h1 | ⟨h1, h2⟩
  · have d1 : decide ((n : Int) > 2000) = true := decide_eq_true (by omega)
    clear h
    go_enter Try.func3, Try.ntmps3
    go_wp2_with fail
    refine (first21 w).mono ?_; rintro e w1 ⟨rfl, hb1⟩
    have HB1 := Lib.hid hb1
    clear hb1
    go_wp2_with fail
    refine (first21 w1).mono ?_; rintro e w2 ⟨rfl, hb2⟩
    have HB2 := Lib.hid (dstep HB1.out hb2)
    clear hb2
    go_wp2_with fail
    go_ret
    exact ⟨rfl, HB2.out⟩
  · have d1 : decide ((n : Int) > 2000) = false := decide_eq_false (by omega)
    have d2 : decide (k < 1) = true := decide_eq_true h2
    clear h
    go_enter Try.func3, Try.ntmps3
    go_wp2_with fail
    refine (first21 w).mono ?_; rintro e w1 ⟨rfl, hb1⟩
    have HB1 := Lib.hid hb1
    clear hb1
    go_wp2_with fail
    refine (first21 w1).mono ?_; rintro e w2 ⟨rfl, hb2⟩
    have HB2 := Lib.hid (dstep HB1.out hb2)
    clear hb2
    go_wp2_with fail
    go_ret
    exact ⟨rfl, HB2.out⟩
set_option maxRecDepth 1000000 in
set_option maxHeartbeats 4000000 in
theorem xback_walk (ao : Option Addr) (cap : Nat) (l : List Nat) (k : Int) (x : UInt8) (s sx sc : ByteArray) (w : World) (hN : Nats .u64 w ao l) (hl : l.length ≤ 2000) (hk : 1 ≤ k) (hk2 : k ≤ 9223372036854775807) (hr : k.tmod 1 = 0)
    (hss : s.size ≤ 40000) (hsx : s ++ ⟨#[x]⟩ = sx) (hsxz : sx.size ≤ 40001) (HR : Hid (GoodX s l.length l)) (hcb : Hid (catN (xenc l) ≤ 900000))
    (H1 : Hid (∀ ps, ¬ GoodX sx l.length ps)) (H2 : Hid (∀ ps, ¬ GoodX s (l.length + 8) ps))
    (hcut : (s.size = 0 ∧ l.length = 0) ∨ (0 < s.size ∧ s.extract 0 (s.size - 1) = sc ∧ sc.size ≤ 40000 ∧ Hid (∀ ps, ¬ GoodX sc l.length ps))) :
    Calls Try.prog 3 #[.slice ao l.length cap, .int .i64 k, .int .u8 x.toNat] w fun e w' => e = .returned (.bool true) ∧ Below w.heap.size w w' := by
  have HN := Lib.hid hN
  have HC := Lib.hid hcut
  clear hN hcut
  go_enter Try.func3, Try.ntmps3
  go_wp2_with fail
  refine (first21 w).mono ?_; rintro e w1 ⟨rfl, hb1⟩
  have HB1 := Lib.hid hb1
  clear hb1
  go_wp2_with fail
  refine (xput_str ao cap l _ s _ rfl (HN.out.below HB1.out) HR (by omega) hcb).mono ?_; rintro e w2 ⟨rfl, hb2⟩
  have HB2 := Lib.hid (dstep HB1.out hb2)
  clear hb2
  go_wp2_with fail
  refine (xget_ok s l.length _ (by omega) (by omega) HR).mono ?_; rintro e w3 ⟨hb3, bo, bcap, rfl, h3, h4⟩
  have HB3 := Lib.hid (dstep HB2.out hb3)
  have HM := Lib.hid h3
  clear hb3 h3 h4
  go_wp2_with fail
  refine (nums_to ao bo cap bcap l _ _ _ rfl rfl (HN.out.below HB3.out) HM.out (by omega)).mono ?_; rintro e w4 ⟨rfl, hb4⟩
  have HB4 := Lib.hid (dstep HB3.out hb4)
  clear hb4
  have hcv := run_convert_bytes_back (P := Try.prog) (w4.alloc (.cells #[.int .u8 (x.toNat : Int)] 5)) 31 9 5 ⟨w4.heap.size, 0, none⟩ 1 [x] Try.underlying31 Try.underlying5 Try.underlying9 (fun j hj => by
    obtain rfl : j = 0 := by simp at hj; omega
    have hadd : (⟨w4.heap.size, 0, none⟩ : Addr).add 0 = ⟨w4.heap.size, 0, none⟩ := rfl
    rw [hadd, World.cell?_alloc_at _ _ _ _ rfl]; rfl)
  simp only [List.length_cons, List.length_nil, Nat.zero_add] at hcv
  have HB5 := Lib.hid (dstep HB4.out (below_new0 w4 (.cells #[.int .u8 (x.toNat : Int)] 5)))
  go_wp2_with fail
  refine (xget_to sx l.length _ _ rfl (by omega) (by omega) H1).mono ?_; rintro e w5 ⟨hb5, x1, rfl⟩
  have HB6 := Lib.hid (dstep HB5.out hb5)
  clear hb5 hcv
  go_wp2_with fail
  refine (xget_to s (l.length + 8) _ _ (by omega) (by omega) (by omega) H2).mono ?_; rintro e w6 ⟨hb6, x2, rfl⟩
  have HB7 := Lib.hid (dstep HB6.out hb6)
  clear hb6
  rcases HC.out with ⟨h0, h1⟩ | ⟨h0, h1, h2, H3⟩
  · have hz : ((s.size : Int) == 0) = true := beq_iff_eq.2 (by omega)
    have hz2 : ((l.length : Int) == 0) = true := beq_iff_eq.2 (by omega)
    clear h0 h1
    go_wp2_with fail
    refine (first21 _).mono ?_; rintro e w7 ⟨rfl, hb7⟩
    have HB8 := Lib.hid (dstep HB7.out hb7)
    clear hb7
    go_wp2_with fail
    go_ret
    exact ⟨rfl, HB8.out⟩
  · have hz : ((s.size : Int) == 0) = false := beq_eq_false_iff_ne.2 (by omega)
    go_wp2_with fail
    refine (xget_to sc l.length _ _ rfl (by omega) (by omega) H3).mono ?_; rintro e w7 ⟨hb7, x3, rfl⟩
    have HB8 := Lib.hid (dstep HB7.out hb7)
    clear hb7
    go_wp2_with fail
    refine (first21 _).mono ?_; rintro e w8 ⟨rfl, hb8⟩
    have HB9 := Lib.hid (dstep HB8.out hb8)
    clear hb8
    go_wp2_with fail
    go_ret
    exact ⟨rfl, HB9.out⟩
theorem extract_front (T : List UInt8) : ((⟨T.toArray⟩ : ByteArray).extract 0 ((⟨T.toArray⟩ : ByteArray).size - 1)).data.toList = T.dropLast := by
  have : ((⟨T.toArray⟩ : ByteArray).size - 1) = T.length - 1 := by rw [ba_size]
  rw [this, ByteArray.data_extract]
  simp [List.dropLast_eq_take]
theorem size_list (s : ByteArray) : s.size = s.data.toList.length := by simp
theorem xback_any (ao : Option Addr) (cap : Nat) (l : List Nat) (k : Int) (x : UInt8) (w : World) (hN : Nats .u64 w ao l) (hlt : ∀ n ∈ l, n < 18446744073709551616) (hm : l.length ≤ 9223372036854775807) (hk2 : k ≤ 9223372036854775807) :
    Calls Try.prog 3 #[.slice ao l.length cap, .int .i64 k, .int .u8 x.toNat] w fun e w' => e = .returned (.bool true) ∧ Below w.heap.size w w' := by
  by_cases h1 : 2000 < l.length
  · exact xback_early ao cap l.length k x.toNat w (Lib.hid (.inl h1)) hm
  by_cases h2 : k < 1
  · exact xback_early ao cap l.length k x.toNat w (Lib.hid (.inr ⟨by omega, h2⟩)) hm
  have hgd := good_ofX l hlt
  have hcb := catN_xenc_le l hlt
  have hbits := good_bits hgd
  obtain ⟨T, hT⟩ : ∃ T, xbytes l = T := ⟨_, rfl⟩
  rw [hT] at hgd hbits
  have hsx : ((⟨T.toArray⟩ : ByteArray) ++ (⟨#[x]⟩ : ByteArray)).data.toList = T ++ [x] := by simp
  have hsz : (⟨T.toArray⟩ : ByteArray).size = T.length := ba_size _
  have hsxz : ((⟨T.toArray⟩ : ByteArray) ++ (⟨#[x]⟩ : ByteArray)).size = T.length + 1 := by rw [size_list, hsx]; simp
  have hsc := extract_front T
  refine xback_walk ao cap l k x ⟨T.toArray⟩ _ ((⟨T.toArray⟩ : ByteArray).extract 0 ((⟨T.toArray⟩ : ByteArray).size - 1)) w hN (by omega) (by omega) hk2 (Int.tmod_one k) (by omega) rfl (by omega) (Lib.hid hgd) (Lib.hid (by omega)) (Lib.hid ?_) (Lib.hid ?_) ?_
  · intro g hg
    exact no_more (x := x) (by rw [hsx]) hgd hg
  · intro g hg
    exact no_longer hgd hg
  · rw [hsz]
    rcases Nat.eq_zero_or_pos T.length with h0 | h0
    · left
      refine ⟨h0, ?_⟩
      rcases Nat.eq_zero_or_pos l.length with h | h
      · exact h
      · obtain ⟨b, hb⟩ := xenc_split h
        have hp : xpart (l.take 0) l[0] = [(l[0], 64)] := rfl
        rw [hp] at hb
        have := (good_mid hgd (by rw [hb]; rfl)).2
        rw [hsz] at this
        omega
    · right
      refine ⟨h0, rfl, ?_, Lib.hid ?_⟩
      · rw [size_list, ← hsz, hsc, List.length_dropLast]; omega
      · intro g hg
        have hne : T ≠ [] := fun h => by rw [h] at h0; simp at h0
        refine no_more (s' := ⟨T.toArray⟩) (x := T.getLast hne) ?_ hg hgd
        rw [← hsz, hsc]
        show T = _
        exact (List.dropLast_concat_getLast hne).symm
end Go.Proofs.Ytihoemimiplhfaa
