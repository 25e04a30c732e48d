/-
  hyglaw22.RunsBack: for any numbers the law returns true.
-/
import Derived.Test.YtkpljnfakidjeabRunsLaw
namespace Go.Proofs.Ytkpljnfakidjeab
open Go.RowKit

theorem rput_to (ao : Option Addr) (cap : Nat) (l : List Nat) (s : ByteArray) (w : World) (hN : Nats .u64 w ao l) (hlt : Hid (∀ n ∈ l, n < 18446744073709551616)) (hl : l.length ≤ 20000) (hT : Hid (vputs (flatR (runsOf l)) = s.data.toList)) :
    Calls Try.prog 14 #[.slice ao l.length cap] w fun e w' => e = .returned (.tuple #[.string s, .nilIface]) ∧ Below w.heap.size w w' := by
  have h := rput_any ao cap l w hN hlt hl hT
  rw [ba_list] at h
  exact h
theorem nums_to (ao bo : Option Addr) (cap bcap : Nat) (l : List Nat) (n m : Nat) (w : World) (hn : n = l.length) (hm : m = l.length) (ha : Nats .u64 w ao l) (hb : Nats .u64 w bo l) (hl : l.length ≤ 1000000000) :
    Calls Try.prog 12 #[.slice ao n cap, .slice bo m bcap] w fun e w' => e = .returned (.bool true) ∧ Below w.heap.size w w' := by
  subst hn; subst hm; exact nums_same ao bo cap bcap l w ha hb hl
theorem rget_to (s : ByteArray) (c : Nat) (C : Int) (w : World) (hC : C = (c : Int)) (hs : s.size ≤ 9223372036854775807) (hc : c ≤ 20000) (hr : Hid (∀ ps, ¬ GoodR s c ps)) :
    Calls Try.prog 15 #[.string s, .int .i64 C] w fun e w' => Below w.heap.size w w' ∧ ∃ x, e = .returned (.tuple #[.slice none 0 0, .iface 86 x]) := by
  subst hC; exact rget_no s c w hs hc hr
set_option maxRecDepth 1000000 in
set_option maxHeartbeats 4000000 in
theorem rback_early (ao : Option Addr) (cap n : Nat) (k : Int) (x : Int) (w : World) (h : Hid (2000 < n ∨ (n ≤ 2000 ∧ k < 1))) (hm : n ≤ 9223372036854775807) :
    Calls Try.prog 5 #[.slice ao n cap, .int .i64 k, .int .u8 x] w fun e w' => e = .returned (.bool true) ∧ Below w.heap.size w w' := by
  rcases h.out with h1 | ⟨h1, h2⟩
  · have d1 : decide ((n : Int) > 2000) = true := decide_eq_true (by omega)
    clear h
    go_enter Try.func5, Try.ntmps5
    go_wp2_with fail
    refine (first22 w).mono ?_; rintro e w1 ⟨rfl, hb1⟩
    have HB1 := Lib.hid hb1
    clear hb1
    go_wp2_with fail
    refine (first22 w1).mono ?_; rintro e w2 ⟨rfl, hb2⟩
    have HB2 := Lib.hid (dstep HB1.out hb2)
    clear hb2
    go_wp2_with fail
    go_ret
    exact ⟨rfl, HB2.out⟩
  · have d1 : decide ((n : Int) > 2000) = false := decide_eq_false (by omega)
    have d2 : decide (k < 1) = true := decide_eq_true h2
    clear h
    go_enter Try.func5, Try.ntmps5
    go_wp2_with fail
    refine (first22 w).mono ?_; rintro e w1 ⟨rfl, hb1⟩
    have HB1 := Lib.hid hb1
    clear hb1
    go_wp2_with fail
    refine (first22 w1).mono ?_; rintro e w2 ⟨rfl, hb2⟩
    have HB2 := Lib.hid (dstep HB1.out hb2)
    clear hb2
    go_wp2_with fail
    go_ret
    exact ⟨rfl, HB2.out⟩
set_option maxRecDepth 1000000 in
set_option maxHeartbeats 4000000 in
theorem rback_walk (ao : Option Addr) (cap : Nat) (l : List Nat) (k : Int) (r : Nat) (x : UInt8) (s sx sc : ByteArray) (w : World) (hN : Nats .u64 w ao l) (hlt : Hid (∀ n ∈ l, n < 18446744073709551616)) (hl : l.length ≤ 2000) (hk : 1 ≤ k) (hk2 : k ≤ 9223372036854775807) (hr : k.tmod 100 = (r : Int)) (hr2 : r ≤ 99)
    (hss : s.size ≤ 40000) (hsx : s ++ ⟨#[x]⟩ = sx) (hsxz : sx.size ≤ 40001) (hT : Hid (vputs (flatR (runsOf l)) = s.data.toList)) (HR : Hid (GoodR s l.length (runsOf l))) (HD : Hid (expR (runsOf l) = l))
    (H1 : Hid (∀ ps, ¬ GoodR sx l.length ps)) (H2 : Hid (∀ ps, ¬ GoodR s (l.length + r + 1) ps))
    (hcut : (s.size = 0 ∧ l.length = 0) ∨ (0 < s.size ∧ s.extract 0 (s.size - 1) = sc ∧ sc.size ≤ 40000 ∧ Hid (∀ ps, ¬ GoodR sc l.length ps))) :
    Calls Try.prog 5 #[.slice ao l.length cap, .int .i64 k, .int .u8 x.toNat] w fun e w' => e = .returned (.bool true) ∧ Below w.heap.size w w' := by
  have HN := Lib.hid hN
  have HC := Lib.hid hcut
  clear hN hcut
  go_enter Try.func5, Try.ntmps5
  go_wp2_with fail
  refine (first22 w).mono ?_; rintro e w1 ⟨rfl, hb1⟩
  have HB1 := Lib.hid hb1
  clear hb1
  go_wp2_with fail
  refine (rput_to ao cap l s _ (HN.out.below HB1.out) hlt (by omega) hT).mono ?_; rintro e w2 ⟨rfl, hb2⟩
  have HB2 := Lib.hid (dstep HB1.out hb2)
  clear hb2
  go_wp2_with fail
  refine (rget_ok s l.length _ (by omega) (by omega) HR HD).mono ?_; rintro e w3 ⟨hb3, bo, bcap, rfl, h3, h4⟩
  have HB3 := Lib.hid (dstep HB2.out hb3)
  have HM := Lib.hid h3
  clear hb3 h3 h4
  go_wp2_with fail
  refine (nums_to ao bo cap bcap l _ _ _ rfl rfl (HN.out.below HB3.out) HM.out (by omega)).mono ?_; rintro e w4 ⟨rfl, hb4⟩
  have HB4 := Lib.hid (dstep HB3.out hb4)
  clear hb4
  have hcv := run_convert_bytes_back (P := Try.prog) (w4.alloc (.cells #[.int .u8 (x.toNat : Int)] 5)) 31 9 5 ⟨w4.heap.size, 0, none⟩ 1 [x] Try.underlying31 Try.underlying5 Try.underlying9 (fun j hj => by
    obtain rfl : j = 0 := by simp at hj; omega
    have hadd : (⟨w4.heap.size, 0, none⟩ : Addr).add 0 = ⟨w4.heap.size, 0, none⟩ := rfl
    rw [hadd, World.cell?_alloc_at _ _ _ _ rfl]; rfl)
  simp only [List.length_cons, List.length_nil, Nat.zero_add] at hcv
  have HB5 := Lib.hid (dstep HB4.out (below_new0 w4 (.cells #[.int .u8 (x.toNat : Int)] 5)))
  go_wp2_with fail
  refine (rget_to sx l.length _ _ rfl (by omega) (by omega) H1).mono ?_; rintro e w5 ⟨hb5, x1, rfl⟩
  have HB6 := Lib.hid (dstep HB5.out hb5)
  clear hb5 hcv
  go_wp2_with fail
  refine (rget_to s (l.length + r + 1) _ _ (by omega) (by omega) (by omega) H2).mono ?_; rintro e w6 ⟨hb6, x2, rfl⟩
  have HB7 := Lib.hid (dstep HB6.out hb6)
  clear hb6
  rcases HC.out with ⟨h0, h1⟩ | ⟨h0, h1, h2, H3⟩
  · have hz : ((s.size : Int) == 0) = true := beq_iff_eq.2 (by omega)
    have hz2 : ((l.length : Int) == 0) = true := beq_iff_eq.2 (by omega)
    clear h0 h1
    go_wp2_with fail
    refine (first22 _).mono ?_; rintro e w7 ⟨rfl, hb7⟩
    have HB8 := Lib.hid (dstep HB7.out hb7)
    clear hb7
    go_wp2_with fail
    go_ret
    exact ⟨rfl, HB8.out⟩
  · have hz : ((s.size : Int) == 0) = false := beq_eq_false_iff_ne.2 (by omega)
    go_wp2_with fail
    refine (rget_to sc l.length _ _ rfl (by omega) (by omega) H3).mono ?_; rintro e w7 ⟨hb7, x3, rfl⟩
    have HB8 := Lib.hid (dstep HB7.out hb7)
    clear hb7
    go_wp2_with fail
    refine (first22 _).mono ?_; rintro e w8 ⟨rfl, hb8⟩
    have HB9 := Lib.hid (dstep HB8.out hb8)
    clear hb8
    go_wp2_with fail
    go_ret
    exact ⟨rfl, HB9.out⟩
theorem vputs_nil {xs : List Nat} (h : vputs xs = []) : xs = [] := by
  cases xs with
  | nil => rfl
  | cons n t =>
    have h1 := (vput_length n).1
    have h2 : (vputs (n :: t)).length = (vput n).length + (vputs t).length := by simp [vputs]
    rw [h] at h2
    simp at h2
    omega
theorem extract_front (T : List UInt8) : ((⟨T.toArray⟩ : ByteArray).extract 0 ((⟨T.toArray⟩ : ByteArray).size - 1)).data.toList = T.dropLast := by
  have : ((⟨T.toArray⟩ : ByteArray).size - 1) = T.length - 1 := by rw [ba_size]
  rw [this, ByteArray.data_extract]
  simp [List.dropLast_eq_take]
theorem size_list (s : ByteArray) : s.size = s.data.toList.length := by simp
theorem rback_any (ao : Option Addr) (cap : Nat) (l : List Nat) (k : Int) (x : UInt8) (w : World) (hN : Nats .u64 w ao l) (hlt : ∀ n ∈ l, n < 18446744073709551616) (hm : l.length ≤ 9223372036854775807) (hk2 : k ≤ 9223372036854775807) :
    Calls Try.prog 5 #[.slice ao l.length cap, .int .i64 k, .int .u8 x.toNat] w fun e w' => e = .returned (.bool true) ∧ Below w.heap.size w w' := by
  by_cases h1 : 2000 < l.length
  · exact rback_early ao cap l.length k x.toNat w (Lib.hid (.inl h1)) hm
  by_cases h2 : k < 1
  · exact rback_early ao cap l.length k x.toNat w (Lib.hid (.inr ⟨by omega, h2⟩)) hm
  have hgd := good_of l hlt (by omega)
  obtain ⟨ps, hps⟩ : ∃ ps, runsOf l = ps := ⟨_, rfl⟩
  rw [hps] at hgd
  have hvl := vputs_length (flatR ps)
  have hfl := flatR_length ps
  have hpl : ps.length ≤ l.length := by
    have h1 : (expR ps).length = l.length := by rw [← hps, expR_runsOf]
    have h2 : ∀ qs : List (Nat × Nat), qs.length ≤ (expR qs).length := by
      intro qs
      induction qs with
      | nil => simp
      | cons p t ih => rw [expR_cons]; simp; omega
    have := h2 ps
    omega
  obtain ⟨r, hr⟩ := Int.eq_ofNat_of_zero_le (Int.tmod_nonneg 100 (show 0 ≤ k by omega))
  have hr2 : k.tmod 100 < 100 := Int.tmod_lt_of_pos k (by decide)
  obtain ⟨T, hT⟩ : ∃ T, vputs (flatR ps) = T := ⟨_, rfl⟩
  rw [hT] at hgd hvl
  have hsx : ((⟨T.toArray⟩ : ByteArray) ++ (⟨#[x]⟩ : ByteArray)).data.toList = T ++ [x] := by simp
  have hsz : (⟨T.toArray⟩ : ByteArray).size = T.length := ba_size _
  have hsxz : ((⟨T.toArray⟩ : ByteArray) ++ (⟨#[x]⟩ : ByteArray)).size = T.length + 1 := by rw [size_list, hsx]; simp
  have hsc := extract_front T
  have hgT : ∀ {s : ByteArray} {c : Nat} {g : List (Nat × Nat)}, GoodR s c g → rdn s.data.toList (2 * g.length) = .ok (flatR g, s.size, false) := fun {s c g} h => by
    have h1 := rdn_all (flatR g) [] h.2.2.2
    rw [List.append_nil, ← h.2.1, flatR_length] at h1
    rw [h1, size_list]
  refine rback_walk ao cap l k r x ⟨T.toArray⟩ _ ((⟨T.toArray⟩ : ByteArray).extract 0 ((⟨T.toArray⟩ : ByteArray).size - 1)) w hN (Lib.hid hlt) (by omega) (by omega) hk2 hr (by omega) (by rw [hsz]; omega) rfl (by rw [hsxz]; omega) (Lib.hid (by rw [hps, hT])) (Lib.hid (by rw [hps]; exact hgd)) (Lib.hid (expR_runsOf l)) (Lib.hid ?_) (Lib.hid ?_) ?_
  · intro g hg
    have h1 := rdn_puts (flatR ps) [x] hgd.2.2.2 (2 * ps.length) (by rw [hfl]; omega)
    rw [hT, List.take_of_length_le (by rw [hfl]; omega), hT, ← hsx] at h1
    obtain ⟨rest, e, _, _⟩ := good_prefix hg h1
    have h2 := hg.2.2.1
    have h3 := hgd.2.2.1
    have hr0 : rest = [] := by
      cases rest with
      | nil => rfl
      | cons p u =>
        have h4 := @expR_pos p u
        rw [e, expR_append, List.length_append] at h2
        omega
    rw [hr0, List.append_nil] at e
    have h5 := hg.2.1
    rw [hsx, e, hT] at h5
    have := congrArg List.length h5
    simp at this
  · intro g hg
    have h1 := hgT hgd
    obtain ⟨rest, e, _, _⟩ := good_prefix hg h1
    have h2 := hg.2.2.1
    have h3 := hgd.2.2.1
    have h5 := hg.2.1
    rw [show (⟨T.toArray⟩ : ByteArray).data.toList = T by simp, e, flatR_append] at h5
    have h6 : vputs (flatR rest) = [] := by
      have e2 : vputs (flatR ps ++ flatR rest) = T ++ vputs (flatR rest) := by rw [← hT]; simp [vputs]
      rw [e2] at h5
      have := congrArg List.length h5
      simp at this
      exact this
    have h7 := vputs_nil h6
    have h8 : rest = [] := by
      cases rest with
      | nil => rfl
      | cons p u => simp [flatR] at h7
    rw [e, h8, List.append_nil] at h2
    omega
  · rw [hsz]
    rcases Nat.eq_zero_or_pos T.length with h0 | h0
    · left
      have h1 := vputs_nil (by rw [hT]; exact List.length_eq_zero_iff.1 h0)
      have h2 : ps = [] := by
        cases ps with
        | nil => rfl
        | cons p u => simp [flatR] at h1
      have h3 := expR_runsOf l
      rw [hps, h2] at h3
      rw [← h3]
      exact ⟨h0, rfl⟩
    · right
      refine ⟨h0, rfl, ?_, Lib.hid ?_⟩
      · rw [size_list, ← hsz, hsc, List.length_dropLast]; omega
      · intro g hg
        have hne : ps ≠ [] := fun h => by rw [h] at hT; rw [← hT] at h0; simp [flatR, vputs] at h0
        obtain ⟨zs, p, rfl⟩ : ∃ zs p, ps = zs ++ [p] := ⟨ps.dropLast, ps.getLast hne, (List.dropLast_concat_getLast hne).symm⟩
        have ef : flatR (zs ++ [p]) = (flatR zs ++ [p.1]) ++ [p.2] := by rw [flatR_append]; simp [flatR]
        have hall := hgd.2.2.2
        rw [ef] at hall
        obtain ⟨c, hc⟩ := rdn_cut (flatR zs ++ [p.1]) p.2 (fun m hm => hall m (by simp at hm ⊢; rcases hm with h | h <;> simp [h])) (hall p.2 (by simp))
        rw [← ef, hT, ← hsc, hsz] at hc
        rw [hfl] at hc
        -- the runs that are whole stand in it
        have h1 := rdn_puts (flatR zs) ((vputs [p.1, p.2]).dropLast) (fun m hm => hall m (by simp [hm])) (2 * zs.length) (by rw [flatR_length]; omega)
        have ed : vputs (flatR zs) ++ (vputs [p.1, p.2]).dropLast = T.dropLast := by
          rw [← hT, ef]
          have e3 : vputs (flatR zs ++ [p.1] ++ [p.2]) = vputs (flatR zs) ++ vputs [p.1, p.2] := by simp [vputs]
          have e4 : vputs [p.1, p.2] ≠ [] := fun h => by have := vputs_nil h; simp at this
          rw [e3, List.dropLast_append_of_ne_nil e4]
        rw [ed, ← hsc, List.take_of_length_le (by rw [flatR_length]; omega), hsz] at h1
        obtain ⟨rest, e, _, _⟩ := good_prefix hg h1
        have hg2 := hgT hg
        have h2 := hg.2.2.1
        have h3 := hgd.2.2.1
        cases rest with
        | nil =>
          rw [e, List.append_nil] at h2
          rw [expR_append, List.length_append] at h3
          have := @expR_pos p []
          omega
        | cons p2 u =>
          have hl2 : (zs ++ [p]).length ≤ g.length := by rw [e]; simp
          obtain ⟨d, hd⟩ : ∃ d, 2 * g.length = 2 * (zs ++ [p]).length + d := ⟨2 * g.length - 2 * (zs ++ [p]).length, by omega⟩
          have h6 := rdn_more hc d
          rw [← hd, hg2] at h6
          simp at h6
end Go.Proofs.Ytkpljnfakidjeab
