/-
  hyglaw20.DodBack: for any numbers the law returns true.
-/
import Derived.Test.YtkpljnfakidjeaaDodLaw
namespace Go.Proofs.Ytkpljnfakidjeaa
open Go.RowKit

theorem dput_to (ao : Option Addr) (cap : Nat) (l : List Nat) (s : ByteArray) (w : World) (hN : Nats .u64 w ao l) (hlt : Hid (∀ n ∈ l, n < 18446744073709551616)) (hl : l.length ≤ 20000) (hT : Hid (vputs (enc l).1 = s.data.toList)) :
    Calls Try.prog 25 #[.slice ao l.length cap] w fun e w' => e = .returned (.tuple #[.string s, .nilIface]) ∧ Below w.heap.size w w' := by
  have h := dput_any ao cap l w hN hlt hl hT
  rw [ba_list] at h
  exact h
theorem nums_to (ao bo : Option Addr) (cap bcap : Nat) (l : List Nat) (n m : Nat) (w : World) (hn : n = l.length) (hm : m = l.length) (ha : Nats .u64 w ao l) (hb : Nats .u64 w bo l) (hl : l.length ≤ 1000000000) :
    Calls Try.prog 27 #[.slice ao n cap, .slice bo m bcap] w fun e w' => e = .returned (.bool true) ∧ Below w.heap.size w w' := by
  subst hn; subst hm; exact nums_same ao bo cap bcap l w ha hb hl
theorem dget_to (s : ByteArray) (c : Nat) (C : Int) (w : World) (hC : C = (c : Int)) (hs : s.size ≤ 9223372036854775807) (hc : c ≤ 20000) (hr : Hid (∀ xs, rdn s.data.toList c ≠ .ok (xs, s.size, false))) :
    Calls Try.prog 26 #[.string s, .int .i64 C] w fun e w' => Below w.heap.size w w' ∧ ∃ x, e = .returned (.tuple #[.slice none 0 0, .iface 71 x]) := by
  subst hC; exact dget_no s c w hs hc hr
set_option maxRecDepth 1000000 in
set_option maxHeartbeats 4000000 in
theorem dback_early (ao : Option Addr) (cap n : Nat) (k : Int) (x : Int) (w : World) (h : Hid (2000 < n ∨ (n ≤ 2000 ∧ k < 1))) (hm : n ≤ 9223372036854775807) :
    Calls Try.prog 9 #[.slice ao n cap, .int .i64 k, .int .u8 x] w fun e w' => e = .returned (.bool true) ∧ Below w.heap.size w w' := by
  rcases h.out with h1 | ⟨h1, h2⟩
  · have d1 : decide ((n : Int) > 2000) = true := decide_eq_true (by omega)
    clear h
    go_enter Try.func9, Try.ntmps9
    go_wp2_with fail
    refine (first20 w).mono ?_; rintro e w1 ⟨rfl, hb1⟩
    have HB1 := Lib.hid hb1
    clear hb1
    go_wp2_with fail
    refine (first20 w1).mono ?_; rintro e w2 ⟨rfl, hb2⟩
    have HB2 := Lib.hid (dstep HB1.out hb2)
    clear hb2
    go_wp2_with fail
    go_ret
    exact ⟨rfl, HB2.out⟩
  · have d1 : decide ((n : Int) > 2000) = false := decide_eq_false (by omega)
    have d2 : decide (k < 1) = true := decide_eq_true h2
    clear h
    go_enter Try.func9, Try.ntmps9
    go_wp2_with fail
    refine (first20 w).mono ?_; rintro e w1 ⟨rfl, hb1⟩
    have HB1 := Lib.hid hb1
    clear hb1
    go_wp2_with fail
    refine (first20 w1).mono ?_; rintro e w2 ⟨rfl, hb2⟩
    have HB2 := Lib.hid (dstep HB1.out hb2)
    clear hb2
    go_wp2_with fail
    go_ret
    exact ⟨rfl, HB2.out⟩
set_option maxRecDepth 1000000 in
set_option maxHeartbeats 4000000 in
theorem dback_walk (ao : Option Addr) (cap : Nat) (l : List Nat) (k : Int) (r : Nat) (x : UInt8) (s sx sc : ByteArray) (w : World) (hN : Nats .u64 w ao l) (hlt : Hid (∀ n ∈ l, n < 18446744073709551616)) (hl : l.length ≤ 2000) (hk : 1 ≤ k) (hk2 : k ≤ 9223372036854775807) (hr : k.tmod 100 = (r : Int)) (hr2 : r ≤ 99)
    (hss : s.size ≤ 20000) (hsx : s ++ ⟨#[x]⟩ = sx) (hsxz : sx.size ≤ 20001) (hT : Hid (vputs (enc l).1 = s.data.toList)) (HR : Hid (rdn s.data.toList l.length = .ok ((enc l).1, s.size, false))) (HD : Hid ((dec (enc l).1).1 = l))
    (H1 : Hid (∀ xs, rdn sx.data.toList l.length ≠ .ok (xs, sx.size, false))) (H2 : Hid (∀ xs, rdn s.data.toList (l.length + r + 1) ≠ .ok (xs, s.size, false)))
    (hcut : (s.size = 0 ∧ l.length = 0) ∨ (0 < s.size ∧ s.extract 0 (s.size - 1) = sc ∧ sc.size ≤ 20000 ∧ Hid (∀ xs, rdn sc.data.toList l.length ≠ .ok (xs, sc.size, false)))) :
    Calls Try.prog 9 #[.slice ao l.length cap, .int .i64 k, .int .u8 x.toNat] w fun e w' => e = .returned (.bool true) ∧ Below w.heap.size w w' := by
  have HN := Lib.hid hN
  have HC := Lib.hid hcut
  clear hN hcut
  go_enter Try.func9, Try.ntmps9
  go_wp2_with fail
  refine (first20 w).mono ?_; rintro e w1 ⟨rfl, hb1⟩
  have HB1 := Lib.hid hb1
  clear hb1
  go_wp2_with fail
  refine (dput_to ao cap l s _ (HN.out.below HB1.out) hlt (by omega) hT).mono ?_; rintro e w2 ⟨rfl, hb2⟩
  have HB2 := Lib.hid (dstep HB1.out hb2)
  clear hb2
  go_wp2_with fail
  refine (dget_ok s l.length _ (by omega) (by omega) HR HD).mono ?_; rintro e w3 ⟨hb3, bo, bcap, rfl, h1, h2, h3, h4⟩
  have HB3 := Lib.hid (dstep HB2.out hb3)
  have HM := Lib.hid h3
  clear hb3 h1 h2 h3 h4
  go_wp2_with fail
  refine (nums_to ao bo cap bcap l _ _ _ rfl rfl (HN.out.below HB3.out) HM.out (by omega)).mono ?_; rintro e w4 ⟨rfl, hb4⟩
  have HB4 := Lib.hid (dstep HB3.out hb4)
  clear hb4
  have hcv := run_convert_bytes_back (P := Try.prog) (w4.alloc (.cells #[.int .u8 (x.toNat : Int)] 5)) 43 9 5 ⟨w4.heap.size, 0, none⟩ 1 [x] Try.underlying43 Try.underlying5 Try.underlying9 (fun j hj => by
    obtain rfl : j = 0 := by simp at hj; omega
    have hadd : (⟨w4.heap.size, 0, none⟩ : Addr).add 0 = ⟨w4.heap.size, 0, none⟩ := rfl
    rw [hadd, World.cell?_alloc_at _ _ _ _ rfl]; rfl)
  simp only [List.length_cons, List.length_nil, Nat.zero_add] at hcv
  have HB5 := Lib.hid (dstep HB4.out (below_new0 w4 (.cells #[.int .u8 (x.toNat : Int)] 5)))
  go_wp2_with fail
  refine (dget_to sx l.length _ _ rfl (by omega) (by omega) H1).mono ?_; rintro e w5 ⟨hb5, x1, rfl⟩
  have HB6 := Lib.hid (dstep HB5.out hb5)
  clear hb5 hcv
  go_wp2_with fail
  refine (dget_to s (l.length + r + 1) _ _ (by omega) (by omega) (by omega) H2).mono ?_; rintro e w6 ⟨hb6, x2, rfl⟩
  have HB7 := Lib.hid (dstep HB6.out hb6)
  clear hb6
  rcases HC.out with ⟨h0, h1⟩ | ⟨h0, h1, h2, H3⟩
  · have hz : ((s.size : Int) == 0) = true := beq_iff_eq.2 (by omega)
    have hz2 : ((l.length : Int) == 0) = true := beq_iff_eq.2 (by omega)
    clear h0 h1
    go_wp2_with fail
    refine (first20 _).mono ?_; rintro e w7 ⟨rfl, hb7⟩
    have HB8 := Lib.hid (dstep HB7.out hb7)
    clear hb7
    go_wp2_with fail
    go_ret
    exact ⟨rfl, HB8.out⟩
  · have hz : ((s.size : Int) == 0) = false := beq_eq_false_iff_ne.2 (by omega)
    go_wp2_with fail
    refine (dget_to sc l.length _ _ rfl (by omega) (by omega) H3).mono ?_; rintro e w7 ⟨hb7, x3, rfl⟩
    have HB8 := Lib.hid (dstep HB7.out hb7)
    clear hb7
    go_wp2_with fail
    refine (first20 _).mono ?_; rintro e w8 ⟨rfl, hb8⟩
    have HB9 := Lib.hid (dstep HB8.out hb8)
    clear hb8
    go_wp2_with fail
    go_ret
    exact ⟨rfl, HB9.out⟩
theorem vputs_nil {xs : List Nat} (h : vputs xs = []) : xs = [] := by
  cases xs with
  | nil => rfl
  | cons n t =>
    have h1 := (vput_length n).1
    have h2 : (vputs (n :: t)).length = (vput n).length + (vputs t).length := by simp [vputs]
    rw [h] at h2
    simp at h2
    omega
theorem extract_front (T : List UInt8) : ((⟨T.toArray⟩ : ByteArray).extract 0 ((⟨T.toArray⟩ : ByteArray).size - 1)).data.toList = T.dropLast := by
  have : ((⟨T.toArray⟩ : ByteArray).size - 1) = T.length - 1 := by rw [ba_size]
  rw [this, ByteArray.data_extract]
  simp [List.dropLast_eq_take]
theorem size_list (s : ByteArray) : s.size = s.data.toList.length := by simp
theorem dback_any (ao : Option Addr) (cap : Nat) (l : List Nat) (k : Int) (x : UInt8) (w : World) (hN : Nats .u64 w ao l) (hlt : ∀ n ∈ l, n < 18446744073709551616) (hm : l.length ≤ 9223372036854775807) (hk2 : k ≤ 9223372036854775807) :
    Calls Try.prog 9 #[.slice ao l.length cap, .int .i64 k, .int .u8 x.toNat] w fun e w' => e = .returned (.bool true) ∧ Below w.heap.size w w' := by
  by_cases h1 : 2000 < l.length
  · exact dback_early ao cap l.length k x.toNat w (Lib.hid (.inl h1)) hm
  by_cases h2 : k < 1
  · exact dback_early ao cap l.length k x.toNat w (Lib.hid (.inr ⟨by omega, h2⟩)) hm
  have ok := enc_ok l hlt
  have hde := dec_enc l hlt
  obtain ⟨xs, hxs⟩ : ∃ xs, (enc l).1 = xs := ⟨_, rfl⟩
  have hall : ∀ n ∈ xs, n < 2^64 := fun n hn => by rw [← hxs] at hn; exact ok.all n hn
  have hxl : xs.length = l.length := by rw [← hxs]; exact ok.len
  have hvl := vputs_length xs
  have hr0 := rdn_all xs [] hall
  rw [List.append_nil, hxl] at hr0
  obtain ⟨r, hr⟩ := Int.eq_ofNat_of_zero_le (Int.tmod_nonneg 100 (show 0 ≤ k by omega))
  have hr2 : k.tmod 100 < 100 := Int.tmod_lt_of_pos k (by decide)
  have hsx : ((⟨(vputs xs).toArray⟩ : ByteArray) ++ (⟨#[x]⟩ : ByteArray)).data.toList = vputs xs ++ [x] := by simp
  have hsz : (⟨(vputs xs).toArray⟩ : ByteArray).size = (vputs xs).length := ba_size _
  have hsxz : ((⟨(vputs xs).toArray⟩ : ByteArray) ++ (⟨#[x]⟩ : ByteArray)).size = (vputs xs).length + 1 := by rw [size_list, hsx]; simp
  have hsc := extract_front (vputs xs)
  refine dback_walk ao cap l k r x ⟨(vputs xs).toArray⟩ _ ((⟨(vputs xs).toArray⟩ : ByteArray).extract 0 ((⟨(vputs xs).toArray⟩ : ByteArray).size - 1)) w hN (Lib.hid hlt) (by omega) (by omega) hk2 hr (by omega) (by rw [hsz]; omega) rfl (by rw [hsxz]; omega) (Lib.hid (by rw [hxs])) (Lib.hid (by rw [hxs, hsz]; exact hr0)) (Lib.hid (by rw [hde])) (Lib.hid ?_) (Lib.hid ?_) ?_
  · intro ys hy
    have h3 := rdn_all xs [x] hall
    rw [hxl] at h3
    rw [hsx, h3, hsxz] at hy
    simp at hy
  · intro ys hy
    obtain ⟨c, hc⟩ := rdn_past xs hall r
    rw [hxl] at hc
    rw [list_bytes, hc] at hy
    simp at hy
  · rw [hsz]
    rcases Nat.eq_zero_or_pos (vputs xs).length with h0 | h0
    · left
      have := vputs_nil (List.length_eq_zero_iff.1 h0)
      rw [this] at hxl
      exact ⟨h0, hxl.symm⟩
    · right
      refine ⟨h0, rfl, ?_, Lib.hid ?_⟩
      · rw [size_list, ← hsz, hsc, List.length_dropLast]; omega
      · intro ys hy
        have hne : xs ≠ [] := fun h => by rw [h] at h0; simp [vputs] at h0
        obtain ⟨zs, n, rfl⟩ : ∃ zs n, xs = zs ++ [n] := ⟨xs.dropLast, xs.getLast hne, (List.dropLast_concat_getLast hne).symm⟩
        obtain ⟨c, hc⟩ := rdn_cut zs n (fun m hm => hall m (by simp [hm])) (hall n (by simp))
        rw [hxl] at hc
        rw [← hsz, hsc, hc] at hy
        simp at hy
end Go.Proofs.Ytkpljnfakidjeaa
